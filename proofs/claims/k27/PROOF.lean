import PyProof.Rows.All
import Wide.All
import OpenK.AllK
import Wide.FinOn
import Lean
import PyProof.EqAt
import PyProof.EqKinds
import PyProof.TupleCall
import PyProof.NeKinds
import PyProof.ZipIter
import KE.KDictList
import KE.KItemsList
import PyProof.ExcClass2
import PyProof.ExcInit
import PyProof.ExcBaseAll.ValueError
import PyProof.ExcAttrAll.ValueError
import OpenK.KOwn
import PyProof.Rows.RegSorted
import PyProof.StrCalls2
import PyProof.StrWalks
import PyProof.Rows.StrWeight2
import PyProof.Rows.StrFin3
import PyProof.CallFns
import KE.KIntText
import PyProof.Rows.StrNews2
import PyProof.Rows.StrSplitMax
import PyProof.StrBlock2
import PyProof.StrBlockI
import PyProof.StrBlockL
import PyProof.StrCalls6
import PySem.Challenge.RW_leastbook_k27_written_and_read
set_option maxHeartbeats 4000000
set_option Elab.async false
set_option linter.all false
set_option maxRecDepth 100000
namespace L2
open PySem PySem.Spec PyProof.Rows
abbrev Jd:=Sum Int Str
def Kh:Jd->Value->Bool
 | .inl k,v=>Value.isInt k v
 | .inr x,v=>Value.isStrOf x v
def CD (w:World):Jd->Int
 | .inl k=>hashInt k
 | .inr x=>hashStr w x
theorem V0:∀ {k:Jd} {v:Value},Kh k v=true->(∃ i t,k=Sum.inl i/\v=Value.int i t)\/(∃ x t,k=Sum.inr x/\v=Value.str x t)
 | .inl i,v,h=>by
  obtain ⟨t,e⟩:=Value.isInt_shape (k:=i) (v:=v) h
  exact .inl ⟨i,t,rfl,e⟩
 | .inr x,v,h=>by
  obtain ⟨t,e⟩:=Value.isStrOf_shape (x:=x) (v:=v) h
  exact .inr ⟨x,t,rfl,e⟩
theorem CF (a b:Int):decide ((Sum.inl a:Jd)=Sum.inl b)=(a==b):=by
 by_cases e:a=b
 ·subst e;simp
 ·have h:¬ (Sum.inl a:Jd)=Sum.inl b:=fun q=>e (Sum.inl.inj q)
  rw [decide_eq_false h]
  exact (beq_eq_false_iff_ne.mpr e).symm
theorem CJ (a b:Str):decide ((Sum.inr a:Jd)=Sum.inr b)=decide (a=b):=by
 by_cases e:a=b
 ·subst e;simp
 ·have h:¬ (Sum.inr a:Jd)=Sum.inr b:=fun q=>e (Sum.inr.inj q)
  rw [decide_eq_false h,decide_eq_false e]
theorem CG (a:Int) (b:Str):decide ((Sum.inl a:Jd)=Sum.inr b)=false:=decide_eq_false (fun q=>nomatch q)
theorem CH (a:Str) (b:Int):decide ((Sum.inr a:Jd)=Sum.inl b)=false:=decide_eq_false (fun q=>nomatch q)
def Kz (prog:Program) (w:World):PySem.KeyKind prog w Jd where
 is:=Kh
 hash:=CD w
 inj:=fun v a b ha hb=>by
  rcases V0 ha with ⟨i,t,rfl,rfl⟩ | ⟨x,t,rfl,rfl⟩
  ·rcases V0 hb with ⟨j,u,rfl,e⟩ | ⟨y,u,rfl,e⟩
   ·injection e with e1 _;rw [e1]
   ·exact nomatch e
  ·rcases V0 hb with ⟨j,u,rfl,e⟩ | ⟨y,u,rfl,e⟩
   ·exact nomatch e
   ·injection e with e1 _;rw [e1]
 byValue:=fun k v h=>by
  rcases V0 h with ⟨i,t,rfl,rfl⟩ | ⟨x,t,rfl,rfl⟩<;>rfl
 pyHash:=fun hv h=>by
  rcases V0 hv with ⟨i,t,rfl,rfl⟩ | ⟨x,t,rfl,rfl⟩
  ·exact wpAny_pyHash_int h
  ·exact wpAny_pyHash_str h
 eqBool:=fun hu hv h=>by
  rcases V0 hu with ⟨i,t,rfl,rfl⟩ | ⟨x,t,rfl,rfl⟩
  ·rcases V0 hv with ⟨j,u,rfl,rfl⟩ | ⟨y,u,rfl,rfl⟩
   ·rw [CF] at h;exact wpAny_eqBool_int h
   ·rw [CG] at h;exact SeqAt.EqAt.int_str i t y u _ _ _ _ h
  ·rcases V0 hv with ⟨j,u,rfl,rfl⟩ | ⟨y,u,rfl,rfl⟩
   ·rw [CH] at h;exact SeqAt.EqAt.str_int x t j u _ _ _ _ h
   ·rw [CJ] at h;exact wpAny_eqBool_str h
 «strs»:=fun k x t v h=>by
  rcases V0 h with ⟨i,u,rfl,e⟩ | ⟨y,u,rfl,e⟩
  ·exact nomatch e
  ·injection e with e1 _
   subst e1
   cases v<;>rfl
end L2
namespace L2
open PySem PySem.Spec PyProof.Rows
inductive V where
 | non | bl (b:Bool) | int (i:Int) | str (x:Str) | byt (b:Array UInt8) | flt (b:UInt64) | ref (a:Addr) | ty (n:String)
 deriving DecidableEq
def RelV:V->Value->Prop
 | .non,u=>u=Value.none
 | .bl b,u=>u=Value.bool b
 | .int i,u=>∃ t,u=Value.int i t
 | .str x,u=>∃ t,u=Value.str x t
 | .byt b,u=>∃ t,u=Value.bytes b t
 | .flt b,u=>∃ t,u=Value.float b t
 | .ref a,u=>u=Value.ref a
 | .ty n,u=>u=Value.type n
abbrev Vals:List V->List Value->Prop:=Paired RelV
theorem Vals.length {xs:List V} {us:List Value} (r:Vals xs us):xs.length=us.length:=Paired.length r
theorem Vals.get:∀ {xs:List V} {us:List Value} {i:Nat} {x:V},Vals xs us->xs[i]?=some x->∃ u,us[i]?=some u/\RelV x u
 | _,_,_,_,.nil,e=>by simp at e
 | _,_,0,_,.cons r _,e=>by simp at e;subst e;exact ⟨_,rfl,r⟩
 | _,_,i+1,x,.cons _ t,e=>by
  obtain ⟨u,h1,h2⟩:=Vals.get (i:=i) (x:=x) t (by simpa using e)
  exact ⟨u,by simpa using h1,h2⟩
theorem Vals.set {x:V} {u:Value} (r:RelV x u):∀ {xs:List V} {us:List Value} (i:Nat),Vals xs us->Vals (xs.set i x) (us.set i u)
 | _,_,_,.nil=>.nil
 | _,_,0,.cons _ t=>.cons r t
 | _,_,i+1,.cons q t=>.cons q (Vals.set r i t)
theorem Vals.append {xs ys:List V} {us ws:List Value} (h:Vals xs us) (s:Vals ys ws):Vals (xs++ys) (us++ws):=by
 induction h with
 | nil=>exact s
 | cons r t ih=>exact .cons r ih
theorem Vals.take {xs:List V} {us:List Value} (n:Nat) (h:Vals xs us):Vals (xs.take n) (us.take n):=by
 induction h generalizing n with
 | nil=>simp only [List.take_nil];exact .nil
 | cons r t ih =>
  cases n with
  | zero=>exact .nil
  | succ n=>exact .cons r (ih n)
theorem Vals.drop:∀ {xs:List V} {us:List Value} (n:Nat),Vals xs us->Vals (xs.drop n) (us.drop n)
 | _,_,0,r=>r
 | _,_,_+1,.nil=>.nil
 | _,_,n+1,.cons _ t=>Vals.drop n t
def RelO:Option V->Option Value->Prop
 | some v,some u=>RelV v u
 | none,none=>True
 | _,_=>False
def KV {κ:Type}:List (κ×V)->List (κ×Value)->Prop:=Paired fun (p:κ×V) (q:κ×Value)=>p.1=q.1/\RelV p.2 q.2
def kV:Jd->V
 | .inl i=>.int i
 | .inr x=>.str x
inductive HO where
 | lst (xs:List V)
 | tup (xs:List V)
 | dK (kvs:List (Jd×V)) | dT (kvs:List (List Jd×V))
 | set (S:Int->Bool) (n:Nat)
 | ins (C dx:Addr) (fs:List (Str×V))
 | own (x:Addr)
 | xd (fs:List (Str×V))
 | met (f x:Addr)
 | rng (lo hi:Int)
 | frz (o:Obj) (u:HO)
 | tbl (ps:Array Value)
 | ext (φ:Heap->Prop)
abbrev Hp:=Addr->Option HO
def upd (H:Hp) (a:Addr) (o:HO):Hp:=fun b=>if b=a then some o else H b
theorem QQ {H:Hp} {a:Addr} {o:HO}:upd H a o a=some o:=by unfold upd;rw [if_pos rfl]
theorem QB {H:Hp} {a b:Addr} {o:HO} (h:b≠a):upd H a o b=H b:=by unfold upd;rw [if_neg h]
theorem Qch {H:Hp} {a:Addr} {o u:HO}:upd (upd H a o) a u=upd H a u:=by
 funext b;unfold upd;split<;>rfl
theorem Zi {H:Hp} {a b:Addr} {o:HO} (h:H a=some o) (h':H b=none):a≠b:=by
 intro e;subst e;rw [h] at h';cases h'
section
variable (P:Program) (w:World)
def ObjOk (H:Hp) (h:Heap) (a:Addr):HO->Prop
 | .lst xs=>xs.length<=sizeLine/\∃ (its:List Value) (n:Nat),Vals xs its/\h.get? a=some { cls:=.type "list",data:=.seq its.toArray n }
 | .tup xs=>xs.length<=sizeLine/\∃ its:List Value,Vals xs its/\IsTup h a its.toArray
 | .dK kvs=>kvs.length<=sizeLine/\(a==sysModules)=false/\∃ vs,KV kvs vs/\h.DictOf (Kz P w) a vs
 | .dT kvs=>kvs.length<=sizeLine/\(a==sysModules)=false/\∃ xs:List (List Jd×Addr×Value),
   Paired (fun (p:List Jd×V) (q:List Jd×Addr×Value)=>p.1=q.1/\H q.2.1=some (.tup (p.1.map kV))/\RelV p.2 q.2.2) kvs xs /\
   ∃ o es ep,h.get? a=some o/\o.ExactDict/\o.data=.dict es ep/\es.toList=xs.map (entryOfKey (tupleKind (Kz P w)))/\(xs.map (·.1)).Nodup
 | .set S n=>h.SetOf (intKind P w) a S n
 | .ins C dx fs=>H dx=some (.own a)/\fs.length<=1000/\dx≠a/\h.get? a=some (PySem.W.instObj C dx) /\
   ∃ mA,h.Ns1 dx mA/\(∀ f,RelO (fs.lookup f) (mA f))/\PySem.Within mA (fs.map (·.1))
 | .own _=>∃ o,h.get? a=some o
 | .xd fs=>∃ mA,h.Ns1 a mA/\∀ f,RelO (fs.lookup f) (mA f)
 | .rng lo hi=>∃ t u v,h.get? a=some { cls:=.type "range",data:=.fields #[.int lo t,.int hi u,.int 1 v] }
 | .frz o u=>h.get? a=some o/\ObjOk H h a u
 | .tbl ps=>h.get? a=some { cls:=.none,data:=.fields ps }
 | .met f x=>h.get? a=some (PySem.W.methodObj (.ref f) (.ref x))
 | .ext φ=>φ h/\(∃ o,h.get? a=some o)/\∀ h1 h2:Heap,φ h1->(∀ o,h1.get? a=some o->h2.get? a=some o)->φ h2
def HOk (H:Hp) (h:Heap):Prop:=∀ a o,H a=some o->ObjOk P w H h a o
end
section
variable {P:Program} {w:World} {H H':Hp} {h h':Heap} {a:Addr} {o:HO}
theorem ObjOk.lt (x:ObjOk P w H h a o):a<h.objs.size:=by
 cases o with
 | lst xs=>obtain ⟨_,_,_,_,e⟩:=x;exact Heap.lt_size e
 | tup xs=>obtain ⟨_,_,_,p⟩:=x;exact p.lt
 | dK kvs=>obtain ⟨_,_,_,_,o,_,_,e,_⟩:=x;exact Heap.lt_size e
 | dT kvs=>obtain ⟨_,_,_,_,o,_,_,e,_⟩:=x;exact Heap.lt_size e
 | set S n=>obtain ⟨o,_,_,_,e,_⟩:=x;exact Heap.lt_size e
 | ins C dx fs=>obtain ⟨_,_,_,e,_⟩:=x;exact Heap.lt_size e
 | own y=>obtain ⟨_,e⟩:=x;exact Heap.lt_size e
 | xd fs=>obtain ⟨_,⟨_,_,_,e,_⟩,_⟩:=x;exact Heap.lt_size e
 | rng lo hi=>obtain ⟨_,_,_,e⟩:=x;exact Heap.lt_size e
 | frz ob u=>obtain ⟨e,_⟩:=x;exact Heap.lt_size e
 | tbl ps=>exact Heap.lt_size (show h.get? a=some _ from x)
 | met f y=>exact Heap.lt_size (show h.get? a=some _ from x)
 | ext φ=>obtain ⟨_,⟨_,e⟩,_⟩:=x;exact Heap.lt_size e
theorem Paired.mapP {α β:Type} {F G:α->β->Prop} {l₁:List α} {l₂:List β} (h:Paired F l₁ l₂) (f:∀ a b,F a b->G a b):Paired G l₁ l₂:=by
 induction h with
 | nil=>exact .nil
 | cons r t ih=>exact .cons (f _ _ r) ih
theorem ObjOk.stay (x:ObjOk P w H h a o) (k:∀ b u,(b=a\/H b=some (.own a))->h.get? b=some u->h'.get? b=some u)
  (ho:∀ b,H b=some (.own a)->H' b=some (.own a)) (ht:∀ b xs,H b=some (.tup xs)->H' b=some (.tup xs)):ObjOk P w H' h' a o:=by
 induction o with
 | lst xs=>obtain ⟨z,its,n,r,e⟩:=x;exact ⟨z,its,n,r,k _ _ (.inl rfl) e⟩
 | tup xs=>obtain ⟨z,its,r,ob,e,c⟩:=x;exact ⟨z,its,r,ob,k _ _ (.inl rfl) e,c⟩
 | dK kvs=>obtain ⟨z,y,vs,r,ob,es,ep,e,c⟩:=x;exact ⟨z,y,vs,r,ob,es,ep,k _ _ (.inl rfl) e,c⟩
 | dT kvs =>
  obtain ⟨z,y,xs,r,ob,es,ep,e,c⟩:=x
  exact ⟨z,y,xs,Paired.mapP r fun p q z=>⟨z.1,ht _ _ z.2.1,z.2.2⟩,ob,es,ep,k _ _ (.inl rfl) e,c⟩
 | set S n=>obtain ⟨ob,es,ep,t,e,c⟩:=x;exact ⟨ob,es,ep,t,k _ _ (.inl rfl) e,c⟩
 | ins C dx fs =>
  obtain ⟨d,z,ne,e,mA,⟨od,es,ep,e2,c⟩,r⟩:=x
  exact ⟨ho _ d,z,ne,k _ _ (.inl rfl) e,mA,⟨od,es,ep,k _ _ (.inr d) e2,c⟩,r⟩
 | own y=>obtain ⟨ob,e⟩:=x;exact ⟨ob,k _ _ (.inl rfl) e⟩
 | xd fs=>obtain ⟨mA,⟨od,es,ep,e,c⟩,r⟩:=x;exact ⟨mA,⟨od,es,ep,k _ _ (.inl rfl) e,c⟩,r⟩
 | rng lo hi=>obtain ⟨t,u,v,e⟩:=x;exact ⟨t,u,v,k _ _ (.inl rfl) e⟩
 | frz ob u ih=>obtain ⟨e,q⟩:=x;exact ⟨k _ _ (.inl rfl) e,ih q⟩
 | tbl ps =>
  have e:h.get? a=some { cls:=.none,data:=.fields ps }:=x
  show h'.get? a=some { cls:=.none,data:=.fields ps }
  exact k a _ (.inl rfl) e
 | met f y =>
  have e:h.get? a=some (PySem.W.methodObj (.ref f) (.ref y)):=x
  show h'.get? a=some (PySem.W.methodObj (.ref f) (.ref y))
  exact k a _ (.inl rfl) e
 | ext φ=>obtain ⟨p,⟨o,e⟩,st⟩:=x;exact ⟨st _ _ p fun o q=>k _ _ (.inl rfl) q,⟨o,k _ _ (.inl rfl) e⟩,st⟩
theorem HOk.lt (x:HOk P w H h) (e:H a=some o):a<h.objs.size:=(x a o e).lt
theorem HOk.fresh (x:HOk P w H h) (e:h.objs.size<=a):H a=none:=by
 cases q:H a with
 | none=>rfl
 | some u=>exact absurd (Nat.lt_of_lt_of_le (x.lt q) e) (Nat.lt_irrefl _)
theorem HOk.kept (x:HOk P w H h) (k:∀ b u,h.get? b=some u->h'.get? b=some u):HOk P w H h':=fun a o e =>
 (x a o e).stay (fun b u _ q=>k b u q) (fun _ q=>q) fun _ _ q=>q
theorem HOk.laid (x:HOk P w H h) (k:∀ b u,h.get? b=some u->h'.get? b=some u) (hp:h.objs.size<=a) (new:ObjOk P w (upd H a o) h' a o):HOk P w (upd H a o) h':=fun b u e=>by
 have hn:=x.fresh hp
 by_cases hb:b=a
 ·subst hb;rw [QQ] at e;cases e;exact new
 ·rw [QB hb] at e
  exact (x b u e).stay (fun c v _ q=>k c v q) (fun c q=>by rw [QB (Zi q hn)];exact q) fun c xs q=>by rw [QB (Zi q hn)];exact q
end
def Rd (H:Hp) (a:Addr) (u:HO):Prop:=H a=some u\/∃ o,H a=some (.frz o u)
theorem Rd.of {H:Hp} {a:Addr} {u:HO} (h:H a=some u):Rd H a u:=.inl h
theorem Rd.ok {P:Program} {w:World} {H:Hp} {h:Heap} {a:Addr} {u:HO} (r:Rd H a u) (x:HOk P w H h):ObjOk P w H h a u:=by
 rcases r with r | ⟨o,r⟩
 ·exact x a u r
 ·obtain ⟨_,q⟩:=x a _ r
  exact q
def Ur:Option HO->Prop
 | some (.lst _)=>True
 | some (.dK _)=>True
 | some (.dT _)=>True
 | some (.set _ _)=>True
 | some (.ins _ _ _)=>True
 | some (.ext _)=>True
 | _=>False
section
variable {P:Program} {w:World} {H:Hp} {h h':Heap} {x e:Addr} {o':HO}
theorem HOk.write (ok:HOk P w H h) (mu:Ur (H x)) (he:e=x\/H e=some (.own x)) (k:∀ b u,b≠e->h.get? b=some u->h'.get? b=some u) (heo:∃ u,h'.get? e=some u)
  (new:ObjOk P w (upd H x o') h' x o'):HOk P w (upd H x o') h':=fun b u q=>by
 have nown:∀ c y,H c=some (.own y)->c≠x:=fun c y r z=>by subst z;rw [r] at mu;exact mu
 have ntup:∀ c xs,H c=some (.tup xs)->c≠x:=fun c xs r z=>by subst z;rw [r] at mu;exact mu
 by_cases hb:b=x
 ·subst hb;rw [QQ] at q;cases q;exact new
 ·rw [QB hb] at q
  by_cases hbe:b=e
  ·have q':H b=some (.own x):=by
    rcases he with z | z
    ·exact absurd (hbe.trans z) hb
    ·rw [hbe];exact z
   rw [q] at q';cases q'
   obtain ⟨v,hv⟩:=heo
   exact ⟨v,by rw [hbe];exact hv⟩
  ·refine (ok b u q).stay (fun c v hc r=>k c v ?_ r) (fun c r=>by rw [QB (nown c b r)];exact r) fun c xs r=>by rw [QB (ntup c xs r)];exact r
   rcases hc with rfl | hc
   ·exact hbe
   ·rintro rfl
    rcases he with z | z
    ·exact nown c b hc z
    ·rw [hc] at z;cases z;exact hb rfl
end
structure Un (fs ex:List Addr) (H H':Hp) (h h':Heap):Prop where
 keep:∀ b o,h.get? b=some o->H b=none->b∉fs->b∉ex->h'.get? b=some o
 slot:∀ b o,h.get? b=some o->H b=none->b∈fs->b∉ex->∃ sl,h'.get? b=some { o with slots:=sl }
 free:∀ b o,h.get? b=some o->H b=none->b∉ex->H' b=none
 there:∀ b o,h.get? b=some o->b∉ex->∃ o',h'.get? b=some o'
 tups:∀ b xs,H b=some (.tup xs)->H' b=some (.tup xs)
 frzs:∀ b o u,H b=some (.frz o u)->H' b=some (.frz o u)
 tbls:∀ b ps,H b=some (.tbl ps)->∃ more,H' b=some (.tbl (ps++more))
section
variable {fs fs' ex ex':List Addr} {H H1 H2:Hp} {h h1 h2 h':Heap} {a x e:Addr} {o:HO}
theorem Un.any (u:Un fs ex H H1 h h1) {b:Addr} {ob:Obj} (q:h.get? b=some ob) (n:H b=none) (hx:b∉ex):∃ sl,h1.get? b=some { ob with slots:=sl }:=by
 by_cases hb:b∈fs
 ·exact u.slot b ob q n hb hx
 ·exact ⟨ob.slots,u.keep b ob q n hb hx⟩
theorem Un.trans (a:Un fs ex H H1 h h1) (b:Un fs ex H1 H2 h1 h2):Un fs ex H H2 h h2 where
 keep:=fun c ob q n hc hx=>b.keep c ob (a.keep c ob q n hc hx) (a.free c ob q n hx) hc hx
 slot:=fun c ob q n hc hx=>by
  obtain ⟨sl,e1⟩:=a.slot c ob q n hc hx
  obtain ⟨sl',e2⟩:=b.slot c _ e1 (a.free c ob q n hx) hc hx
  exact ⟨sl',e2⟩
 free:=fun c ob q n hx=>by
  obtain ⟨o',e1⟩:=a.there c ob q hx
  exact b.free c o' e1 (a.free c ob q n hx) hx
 there:=fun c ob q hx=>by
  obtain ⟨o',e1⟩:=a.there c ob q hx
  exact b.there c o' e1 hx
 tups:=fun c xs q=>b.tups c xs (a.tups c xs q)
 frzs:=fun c ob xs q=>b.frzs c ob xs (a.frzs c ob xs q)
 tbls:=fun c ps q=>by
  obtain ⟨m1,e1⟩:=a.tbls c ps q
  obtain ⟨m2,e2⟩:=b.tbls c _ e1
  exact ⟨m1++m2,by rw [e2,Array.append_assoc]⟩
theorem Un.kept (k:∀ b u,h.get? b=some u->h'.get? b=some u):Un fs ex H H h h' :=
 ⟨fun b ob q _ _ _=>k b ob q,fun b ob q _ _ _=>⟨ob.slots,k b ob q⟩,fun _ _ _ n _=>n,fun b ob q _=>⟨ob,k b ob q⟩,fun _ _ q=>q,fun _ _ _ q=>q,fun _ ps q=>⟨#[],by rw [q];simp⟩⟩
theorem Un.refl:Un fs ex H H h h:=Un.kept fun _ _ q=>q
theorem Un.laid (k:∀ b u,h.get? b=some u->h'.get? b=some u) (hp:h.objs.size<=a) (hn:H a=none):Un fs ex H (upd H a o) h h' where
 keep:=fun b u q _ _ _=>k b u q
 slot:=fun b u q _ _ _=>⟨u.slots,k b u q⟩
 free:=fun b u q n _=>by rw [QB (Nat.ne_of_lt (Nat.lt_of_lt_of_le (Heap.lt_size q) hp))];exact n
 there:=fun b u q _=>⟨u,k b u q⟩
 tups:=fun b xs q=>by rw [QB (Zi q hn)];exact q
 frzs:=fun b u xs q=>by rw [QB (Zi q hn)];exact q
 tbls:=fun b ps q=>⟨#[],by rw [QB (Zi q hn),q];simp⟩
theorem Un.write (mu:Ur (H x)) (he:e=x\/H e=some (.own x)) (k:∀ b u,b≠e->h.get? b=some u->h'.get? b=some u) (heo:∃ u,h'.get? e=some u):Un fs ex H (upd H x o) h h':=by
 have hx:∀ b,H b=none->b≠x:=fun b n z=>by subst z;rw [n] at mu;exact mu
 have hb:∀ b,H b=none->b≠e:=fun b n z=>by
  subst z
  rcases he with r | r
  ·exact hx b n r
  ·rw [n] at r;cases r
 have hm:∀ b u,H b=some u->¬ Ur (some u)->b≠x:=fun b u q nm z=>by subst z;rw [q] at mu;exact nm mu
 refine ⟨fun b u q n _ _=>k b u (hb b n) q,fun b u q n _ _=>⟨u.slots,k b u (hb b n) q⟩,fun b u q n _=>by rw [QB (hx b n)];exact n,fun b u q _=>?_,
  fun b xs q=>by rw [QB (hm b _ q fun z=>z)];exact q,fun b u xs q=>by rw [QB (hm b _ q fun z=>z)];exact q,fun b ps q=>⟨#[],by rw [QB (hm b _ q fun z=>z),q];simp⟩⟩
 by_cases hbe:b=e
 ·subst hbe;exact heo
 ·exact ⟨u,k b u hbe q⟩
theorem Un.mono (u:Un fs ex H H1 h h1) (hs:∀ b∈fs,b∈fs') (hx:∀ b∈ex,b∈ex'):Un fs' ex' H H1 h h1 :=
 ⟨fun b ob q n hb he=>u.keep b ob q n (fun z=>hb (hs b z)) fun z=>he (hx b z),fun _ _ q n _ he=>u.any q n fun z=>he (hx _ z),fun b ob q n he=>u.free b ob q n fun z=>he (hx b z),fun b ob q he=>u.there b ob q fun z=>he (hx b z),u.tups,u.frzs,u.tbls⟩
end
def Sk (h:Heap) (H:Hp):List Addr:=(List.range h.objs.size).filter fun a=>(H a).isSome
def Yx (h:Heap) (H:Hp):Heap:=PySem.W.hideAll h (Sk h H)
theorem DO (h:Heap) (H:Hp):(Yx h H).objs.size=h.objs.size:=PySem.W.hideAll_size _ _
theorem DN {h:Heap} {H:Hp} {b:Addr} {o:Obj} (e:h.get? b=some o) (n:H b=none):(Yx h H).get? b=some o :=
 PySem.W.hideAll_get _ e fun hm=>by
  have q:(H b).isSome=true:=(List.mem_filter.mp hm).2
  rw [n] at q;simp at q
theorem B1 {h:Heap} {H:Hp} {b:Addr} {o:Obj} (e:(Yx h H).get? b=some o):h.get? b=some o/\H b=none:=by
 have e':h.get? b=some o:=PySem.W.of_hideAll (Sk h H) e
 refine ⟨e',?_⟩
 cases q:H b with
 | none=>rfl
 | some x =>
  have hm:b∈Sk h H:=List.mem_filter.mpr ⟨List.mem_range.mpr (Heap.lt_size e'),by simp [q]⟩
  have z:(Yx h H).get? b=none:=PySem.W.hideAll_none (Sk h H) hm
  rw [z] at e;cases e
def GR (g h:Heap) (L:Addr):List (Addr×Obj):=(List.range h.objs.size).filterMap fun a=>if a=L\/(g.get? a).isSome=true then none else (h.get? a).map fun o=>(a,o)
def rest (g h:Heap) (L d:Addr):List (Addr×Obj):=(GR g h L).filter fun p=>decide (p.1≠d)
end L2
namespace L2
open PySem PySem.Spec PyProof.Rows
structure Mod (K:PySem.W.Frag) (mg:Str->Option Value) (base:Heap):Prop where
 kin:K.In base
 glob:base.Ns mainGlobals mg
 blt:∃ mb,base.Ns builtinsNs mb/\∀ x:Str,x≠"__name__"->mb x=bootBuiltins x
 nolimit:base.NoLimit
structure Cx where
 prog:Program
 w:World
 K:PySem.W.Frag
 mg:Str->Option Value
 base:Heap
 A:Around
 N:List Str
 s₀:Shared
 H₀:Hp
 env:Env
 outer:List Env
 stack:List Env
 ex:List Addr
 fn:Str->Bool
 calm:Bool
 pn:List (Addr×Obj)
 xe:Value->Shared->Prop
def JH (l:List Env):List Addr:=l.filterMap (·.frame)
abbrev Cx.fs (X:Cx):List Addr:=JH X.outer
def ZZ (sc:Scope) (x:Str):Prop:=sc.names.lookup x=some .local\/sc.names.lookup x=some .cell\/sc.names.lookup x=some .free
def VC (sc:Scope) (x:Str):Prop:=sc.names.lookup x=some .local\/sc.names.lookup x=some .cell
def GC (env:Env) (h:Heap) (m:Str->Option Value) (x:Str) (u:Value):Prop :=
 (env.kindOf x=some .local/\m x=some u)\/((env.kindOf x=some .cell\/env.kindOf x=some .free)/\∃ c,env.cells.lookup x=some c/\h.IsCell c (some u))
structure Cx.Ok (X:Cx):Prop where
 mod:Mod X.K X.mg X.base
 kind:X.env.scope.kind=.function
 glob:X.env.globals=mainGlobals
 blt:X.env.builtins=builtinsNs
 above:X.s₀.heap.objs.size<=X.env.locals
 inj:∀ x y c,X.env.cells.lookup x=some c->X.env.cells.lookup y=some c->x=y
 has:∀ x,(X.env.kindOf x=some .cell\/X.env.kindOf x=some .free)->∃ c,X.env.cells.lookup x=some c
 cab:∀ x c,X.fn x=true->X.env.cells.lookup x=some c->X.s₀.heap.objs.size<=c
 hd:X.calm=true->X.A.handled=none
 frames:X.A.frames=some X.stack
 stk:X.stack=X.outer\/(X.stack=X.env::X.outer/\X.env.frame=some X.env.locals)
 exf:∀ b∈X.ex,b≠X.env.locals/\∀ x c,X.env.cells.lookup x=some c->c≠b
 bs:∀ b o,X.base.get? b=some o->X.s₀.heap.get? b=some o/\X.H₀ b=none
 bsz:X.base.objs.size<=X.s₀.heap.objs.size
 noex:∀ b o,X.base.get? b=some o->b∉X.ex
 exfs:∀ b∈X.ex,b∉X.fs
 funs:X.s₀.heap.FunFrames X.base X.outer
 frf:∀ b∈X.fs,X.H₀ b=none
structure Inv (X:Cx) (pins:List (Addr×Obj)) (σ:List (Option V)) (H:Hp) (s:Shared):Prop where
 ok:X.Ok
 os:s.os=X.s₀.os
 bare:AllBare s.gens
 base:Un X.fs X.ex X.H₀ H X.s₀.heap s.heap
 loc:∃ m,s.heap.Ns X.env.locals m/\∀ (i:Nat) (x:Str) (v:V),X.N[i]?=some x->σ[i]?=some (some v)->ZZ X.env.scope x->∃ u,RelV v u/\GC X.env s.heap m x u
 cell:∀ x c,X.env.cells.lookup x=some c->∃ v,s.heap.IsCell c v
 free:H X.env.locals=none
 freeC:∀ x c,X.env.cells.lookup x=some c->H c=none
 pin:∀ p∈X.pn++pins,s.heap.get? p.1=some p.2/\H p.1=none/\p.1≠X.env.locals/\p.1∉X.fs/\∀ v,p.2.data≠.cell v
 hok:HOk X.prog X.w H s.heap
 len:σ.length=X.N.length
section
variable {X:Cx} {pins:List (Addr×Obj)} {σ:List (Option V)} {H H':Hp} {s:Shared} {h':Heap}
theorem Cx.Ok.nofr (ok:X.Ok) {b:Addr} {o:Obj} (e:X.base.get? b=some o):b∉X.fs:=fun hb=>by
 have:=(ok.funs.mem hb).1
 rw [e] at this;cases this
theorem Inv.bs (I:Inv X pins σ H s):∀ b o,X.base.get? b=some o->s.heap.get? b=some o/\H b=none:=fun b o e =>
 ⟨I.base.keep b o (I.ok.bs b o e).1 (I.ok.bs b o e).2 (I.ok.nofr e) (I.ok.noex b o e),I.base.free b o (I.ok.bs b o e).1 (I.ok.bs b o e).2 (I.ok.noex b o e)⟩
theorem Inv.bk (I:Inv X pins σ H s):∀ b o,X.base.get? b=some o->s.heap.get? b=some o:=fun b o e=>(I.bs b o e).1
theorem Inv.mod (I:Inv X pins σ H s):Mod X.K X.mg X.base:=I.ok.mod
theorem Inv.kIn (I:Inv X pins σ H s):X.K.In s.heap:=I.ok.mod.kin.keeps I.bk
theorem Inv.nolimit (I:Inv X pins σ H s):s.heap.NoLimit:=I.ok.mod.nolimit.keeps I.bk
theorem Inv.fr (I:Inv X pins σ H s):∃ m,Fr X.base X.env.locals s.heap m :=
 let ⟨m,hn,_⟩:=I.loc
 ⟨m,hn,I.bk,Nat.le_trans I.ok.bsz I.ok.above⟩
theorem Inv.lt (I:Inv X pins σ H s):X.env.locals<s.heap.objs.size:=let ⟨_,hn,_⟩:=I.loc;hn.lt
theorem Inv.sz (I:Inv X pins σ H s):X.s₀.heap.objs.size<=s.heap.objs.size:=Nat.le_trans I.ok.above (Nat.le_of_lt I.lt)
theorem Inv.nofs (I:Inv X pins σ H s) {a:Addr} (h:s.heap.objs.size<=a):a∉X.fs:=fun hb=>by
 obtain ⟨_,o,ho,_⟩:=I.ok.funs.mem hb
 exact absurd (Nat.lt_of_lt_of_le (Heap.lt_size ho) (Nat.le_trans I.sz h)) (Nat.lt_irrefl _)
theorem Inv.cne (I:Inv X pins σ H s):∀ x c,X.env.cells.lookup x=some c->c≠X.env.locals:=fun x c e z=>by
 obtain ⟨v,o,ho,hd⟩:=I.cell x c e
 obtain ⟨m,⟨o',es,ep,ho',hd',_⟩,_⟩:=I.loc
 rw [z,ho'] at ho;cases ho;rw [hd'] at hd;cases hd
theorem Inv.funs (I:Inv X pins σ H s):s.heap.FunFrames X.base X.outer:=by
 have all:∀ (l:List Env),(∀ b∈JH l,b∈X.fs)->X.s₀.heap.FunFrames X.base l->s.heap.FunFrames X.base l:=by
  intro l
  induction l with
  | nil=>intro _ _;trivial
  | cons env r ih =>
   intro hs hl
   obtain ⟨hk,⟨L,o,hf,hn,ho,hd⟩,hr⟩:=hl
   have hL:L∈X.fs:=hs L (by unfold JH;rw [List.filterMap_cons,hf];exact List.mem_cons_self)
   obtain ⟨sl,e⟩:=I.base.slot L o ho (I.ok.frf L hL) hL fun z=>I.ok.exfs L z hL
   exact ⟨hk,⟨L,_,hf,hn,e,hd⟩,ih (fun b hb=>hs b (by unfold JH;rw [List.filterMap_cons,hf];exact List.mem_cons_of_mem _ hb)) hr⟩
 exact all X.outer (fun _ hb=>hb) I.ok.funs
theorem Inv.stack (I:Inv X pins σ H s):s.heap.FunFrames X.base X.stack:=by
 rcases I.ok.stk with e | ⟨e,hf⟩
 ·rw [e];exact I.funs
 ·rw [e]
  obtain ⟨m,hn,_⟩:=I.loc
  refine .cons (by rw [I.ok.kind];decide) hf hn ?_ I.funs
  exact Heap.get?_none_of_le (Nat.le_trans I.ok.bsz I.ok.above)
theorem Inv.stkSub (I:Inv X pins σ H s):∀ b∈JH X.stack,b∈X.env.locals::X.fs:=fun b hb=>by
 rcases I.ok.stk with e | ⟨e,hf⟩
 ·rw [e] at hb;exact List.mem_cons_of_mem _ hb
 ·rw [e] at hb
  unfold JH at hb
  rw [List.filterMap_cons,hf] at hb
  exact hb
theorem Inv.stkFree (I:Inv X pins σ H s):∀ b∈JH X.stack,H b=none:=fun b hb=>by
 rcases List.mem_cons.mp (I.stkSub b hb) with e | hb
 ·rw [e];exact I.free
 ·obtain ⟨_,o,ho,_⟩:=I.ok.funs.mem hb
  exact I.base.free b o ho (I.ok.frf b hb) fun z=>I.ok.exfs b z hb
theorem Inv.step {g':Array GenState} {t':Nat} {d':Drawn} {ch:List Addr} (I:Inv X pins σ H s)
  (hch:∀ b∈ch,(b∈X.ex\/X.s₀.heap.objs.size<=b)/\b≠X.env.locals/\(∀ x c,X.env.cells.lookup x=some c->c≠b)/\∀ p∈X.pn++pins,p.1≠b)
  (keep:∀ b o,b≠X.env.locals->b∉X.fs->b∉ch->s.heap.get? b=some o->H b=none->h'.get? b=some o)
  (slot:∀ b o,b≠X.env.locals->b∈X.fs->b∉ch->s.heap.get? b=some o->H b=none->∃ sl,h'.get? b=some { o with slots:=sl }) (free:∀ b o,b∉ch->s.heap.get? b=some o->H b=none->H' b=none)
  (there:∀ b o,b∉ch->s.heap.get? b=some o->∃ o',h'.get? b=some o')
  (tups:∀ b xs,H b=some (.tup xs)->H' b=some (.tup xs)) (frzs:∀ b o u,H b=some (.frz o u)->H' b=some (.frz o u)) (tbls:∀ b ps,H b=some (.tbl ps)->∃ more,H' b=some (.tbl (ps++more)))
  (ns:∀ m,s.heap.Ns X.env.locals m->h'.Ns X.env.locals m) (hok:HOk X.prog X.w H' h') (hg:AllBare g') :
  Inv X pins σ H' { s with heap:=h',gens:=g',drawn:=d',toks:=t' }:=by
 have neL:∀ b o,X.s₀.heap.get? b=some o->b≠X.env.locals:=fun b o e=>Nat.ne_of_lt (Nat.lt_of_lt_of_le (Heap.lt_size e) I.ok.above)
 have neC:∀ b o,X.s₀.heap.get? b=some o->b∉X.ex->b∉ch:=fun b o e hx hb=>by
  rcases (hch b hb).1 with z | z
  ·exact hx z
  ·exact absurd (Nat.lt_of_lt_of_le (Heap.lt_size e) z) (Nat.lt_irrefl _)
 have cellK:∀ x c,X.env.cells.lookup x=some c->∀ v,s.heap.IsCell c v->h'.IsCell c v:=by
  rintro x c e v ⟨o,ho,hd⟩
  have nch:c∉ch:=fun z=>(hch c z).2.2.1 x c e rfl
  by_cases hc:c∈X.fs
  ·obtain ⟨sl,q⟩:=slot c o (I.cne x c e) hc nch ho (I.freeC x c e)
   exact ⟨_,q,hd⟩
  ·exact ⟨o,keep c o (I.cne x c e) hc nch ho (I.freeC x c e),hd⟩
 refine ⟨I.ok,I.os,hg,⟨fun b o e n hb hx=>?_,fun b o e n hb hx=>?_,fun b o e n hx=>?_,fun b o e hx=>?_,fun b xs e=>tups b xs (I.base.tups b xs e),fun b o xs e=>frzs b o xs (I.base.frzs b o xs e),fun b ps e=>?_⟩,?_,fun x c e=>?_,?_,fun x c e=>?_,fun p hp=>?_,hok,I.len⟩
 ·exact keep b o (neL b o e) hb (neC b o e hx) (I.base.keep b o e n hb hx) (I.base.free b o e n hx)
 ·obtain ⟨sl,e1⟩:=I.base.slot b o e n hb hx
  obtain ⟨sl',e2⟩:=slot b _ (neL b o e) hb (neC b o e hx) e1 (I.base.free b o e n hx)
  exact ⟨sl',e2⟩
 ·obtain ⟨o',e1⟩:=I.base.there b o e hx
  exact free b o' (neC b o e hx) e1 (I.base.free b o e n hx)
 ·obtain ⟨o',e1⟩:=I.base.there b o e hx
  exact there b o' (neC b o e hx) e1
 ·obtain ⟨m1,e1⟩:=I.base.tbls b ps e
  obtain ⟨m2,e2⟩:=tbls b _ e1
  exact ⟨m1++m2,by rw [e2,Array.append_assoc]⟩
 ·obtain ⟨m,hn,hl⟩:=I.loc
  refine ⟨m,ns m hn,fun i x v e1 e2 e3=>?_⟩
  obtain ⟨u,r,l⟩:=hl i x v e1 e2 e3
  refine ⟨u,r,?_⟩
  rcases l with l | ⟨k,c,e,z⟩
  ·exact .inl l
  ·exact .inr ⟨k,c,e,cellK x c e _ z⟩
 ·obtain ⟨v,z⟩:=I.cell x c e
  exact ⟨v,cellK x c e v z⟩
 ·obtain ⟨m,⟨o,_,_,ho,_⟩,_⟩:=I.loc
  exact free _ o (fun z=>(hch _ z).2.1 rfl) ho I.free
 ·obtain ⟨v,o,ho,hd⟩:=I.cell x c e
  exact free c o (fun z=>(hch c z).2.2.1 x c e rfl) ho (I.freeC x c e)
 ·obtain ⟨e,n,ne,nf,d⟩:=I.pin p hp
  have nch:p.1∉ch:=fun z=>(hch p.1 z).2.2.2 p hp rfl
  exact ⟨keep p.1 p.2 ne nf nch e n,free p.1 p.2 nch e n,ne,nf,d⟩
theorem Inv.un {t':Nat} (I:Inv X pins σ H s) (u:Un X.fs [] H H' s.heap h') (hok:HOk X.prog X.w H' h'):Inv X pins σ H' { s with heap:=h',toks:=t' }:=by
 obtain ⟨m,⟨o,es,ep,ho,r⟩,_⟩:=id I.loc
 obtain ⟨sl,hL⟩:=u.any ho I.free (by simp)
 exact I.step (g':=s.gens) (d':=s.drawn) (ch:=[]) (fun _ z=>nomatch z) (fun b o _ hb _ e n=>u.keep b o e n hb (by simp)) (fun b o _ hb _ e n=>u.slot b o e n hb (by simp)) (fun b o _ e n=>u.free b o e n (by simp)) (fun b o _ e=>u.there b o e (by simp)) u.tups u.frzs u.tbls (fun m' hm=>by
  obtain ⟨o',es',ep',ho',r'⟩:=hm
  rw [ho] at ho';cases ho'
  exact ⟨_,es',ep',hL,r'⟩) hok I.bare
theorem Inv.call {g':Array GenState} {t':Nat} {d':Drawn} {ch:List Addr} (I:Inv X pins σ H s) (u:Un (JH X.stack) ch H H' s.heap h') (hok:HOk X.prog X.w H' h') (hg:AllBare g')
  (hch:∀ b∈ch,(b∈X.ex\/X.s₀.heap.objs.size<=b)/\b≠X.env.locals/\(∀ x c,X.env.cells.lookup x=some c->c≠b)/\∀ p∈X.pn++pins,p.1≠b) :
  Inv X pins σ H' { s with heap:=h',gens:=g',drawn:=d',toks:=t' }:=by
 obtain ⟨m,⟨o,es,ep,ho,r⟩,_⟩:=id I.loc
 obtain ⟨sl,hL⟩:=u.any ho I.free fun z=>(hch _ z).2.1 rfl
 exact I.step (ch:=ch) hch (fun b o hL hb hc e n=>u.keep b o e n (fun z=>(List.mem_cons.mp (I.stkSub b z)).elim hL hb) hc) (fun b o _ _ hc e n=>u.any e n hc) (fun b o hc e n=>u.free b o e n hc) (fun b o hc e=>u.there b o e hc) u.tups u.frzs u.tbls (fun m' hm=>by
  obtain ⟨o',es',ep',ho',r'⟩:=hm
  rw [ho] at ho';cases ho'
  exact ⟨_,es',ep',hL,r'⟩) hok hg
theorem Inv.turned {t':Nat} {it:Addr} (I:Inv X pins σ H s) (k:∀ b o,b≠it->s.heap.get? b=some o->h'.get? b=some o) (hn:H it=none) (hL:it≠X.env.locals)
  (h1:it∈X.ex\/X.s₀.heap.objs.size<=it) (h2:∀ x c,X.env.cells.lookup x=some c->c≠it) (h3:∀ p∈X.pn++pins,p.1≠it):Inv X pins σ H { s with heap:=h',toks:=t' }:=by
 have nit:∀ b u,H b=some u->b≠it:=fun b u e z=>by rw [z,hn] at e;cases e
 refine I.step (g':=s.gens) (d':=s.drawn) (ch:=[it]) (fun b hb=>?_) (fun b o _ _ hc e _=>k b o (fun z=>hc (by simp [z])) e) (fun b o _ _ hc e _=>⟨o.slots,k b o (fun z=>hc (by simp [z])) e⟩) (fun _ _ _ _ n=>n)
  (fun b o hc e=>⟨o,k b o (fun z=>hc (by simp [z])) e⟩) (fun _ _ e=>e) (fun _ _ _ e=>e) (fun b ps e=>⟨#[],by rw [e];simp⟩) (fun m hm=>?_) (fun b u e=>?_) I.bare
 ·have e:b=it:=by simpa using hb
  subst e
  exact ⟨h1,hL,h2,h3⟩
 ·obtain ⟨o,es,ep,ho,r⟩:=hm
  exact ⟨o,es,ep,k _ o (Ne.symm hL) ho,r⟩
 ·refine (I.hok b u e).stay (fun c v hc q=>k c v ?_ q) (fun _ q=>q) fun _ _ q=>q
  rcases hc with z | z
  ·rw [z];exact nit b u e
  ·exact nit c _ z
theorem Inv.tok (I:Inv X pins σ H s) (t:Nat):Inv X pins σ H { s with toks:=t }:=I.un (h':=s.heap) (t':=t) Un.refl I.hok
theorem Inv.kept {t':Nat} (I:Inv X pins σ H s) (k:∀ b u,s.heap.get? b=some u->h'.get? b=some u):Inv X pins σ H { s with heap:=h',toks:=t' }:=I.un (Un.kept k) (I.hok.kept k)
theorem Inv.laid {a:Addr} {o:HO} {t':Nat} (I:Inv X pins σ H s) (k:∀ b u,s.heap.get? b=some u->h'.get? b=some u) (hp:s.heap.objs.size<=a) (new:ObjOk X.prog X.w (upd H a o) h' a o) :
  Inv X pins σ (upd H a o) { s with heap:=h',toks:=t' }:=I.un (Un.laid k hp (I.hok.fresh hp)) (I.hok.laid k hp new)
theorem Inv.write {x e:Addr} {o:HO} {t':Nat} (I:Inv X pins σ H s) (mu:Ur (H x)) (he:e=x\/H e=some (.own x)) (k:∀ b u,b≠e->s.heap.get? b=some u->h'.get? b=some u) (heo:∃ u,h'.get? e=some u)
  (new:ObjOk X.prog X.w (upd H x o) h' x o):Inv X pins σ (upd H x o) { s with heap:=h',toks:=t' }:=I.un (Un.write mu he k heo) (I.hok.write mu he k heo new)
theorem Inv.pins_of {pins':List (Addr×Obj)} (I:Inv X pins σ H s) (h:∀ p∈pins',s.heap.get? p.1=some p.2/\H p.1=none/\p.1≠X.env.locals/\p.1∉X.fs/\∀ v,p.2.data≠.cell v):Inv X pins' σ H s :=
 ⟨I.ok,I.os,I.bare,I.base,I.loc,I.cell,I.free,I.freeC,fun p hp=>(List.mem_append.mp hp).elim (fun z=>I.pin p (List.mem_append_left _ z)) (h p),I.hok,I.len⟩
theorem Pk {N:List Str} (hN:N.Nodup) {i j:Nat} {x:Str} (a:N[i]?=some x) (b:N[j]?=some x):i=j:=by
 obtain ⟨h1,e1⟩:=List.getElem?_eq_some_iff.mp a
 obtain ⟨h2,e2⟩:=List.getElem?_eq_some_iff.mp b
 exact (List.getElem_inj hN).mp (e1.trans e2.symm)
theorem Hk {M:Model} {A:Around} {E:Value->Shared->Prop} {i:Nat} {x:Str} {v:V} {u:Value} {Q:Unit->Shared->Prop} (I:Inv X pins σ H s) (hN:X.N.Nodup) (hi:X.N[i]?=some x) (hx:VC X.env.scope x) (r:RelV v u)
  (h:∀ s',Inv X pins (σ.set i (some v)) H s'->(∃ a,Heap.SameBut a s.heap s'.heap/\(a=X.env.locals\/X.env.cells.lookup x=some a))->Q () s') (hf:X.fn x=true\/X.env.scope.names.lookup x=some .local:=by first | exact .inl rfl | exact .inr rfl | assumption):wpAny M A (storeName X.env x u) Q E s:=by
 obtain ⟨m,hn,hl⟩:=id I.loc
 have hcls:(X.env.scope.kind==.class||(X.env.scope.kind==.module&&X.env.locals != X.env.globals))=false:=by rw [I.ok.kind];rfl
 have hiσ:i < σ.length:=by rw [I.len];exact (List.getElem?_eq_some_iff.mp hi).1
 have cne:=I.cne
 have tracked:∀ {a:Addr} {h':Heap},(∃ o,s.heap.get? a=some o/\H a=none)->Heap.SameBut a s.heap h'->HOk X.prog X.w H h':=fun {a h'} ha hs b ob e=>by
  obtain ⟨_,_,hfree⟩:=ha
  refine (I.hok b ob e).stay (fun c w' hc q=>(hs.2 c ?_).trans q) (fun _ q=>q) fun _ _ q=>q
  rintro rfl
  rcases hc with rfl | hc
  ·rw [hfree] at e;cases e
  ·rw [hfree] at hc;cases hc
 rcases hx with hk | hk
 ·refine wpAny_storeName_local hk hn (fun h' hn' hs=>?_) hcls
  obtain ⟨oL,_,_,hoL,_⟩:=id hn
  refine h _ ⟨I.ok,I.os,I.bare,⟨fun b o e n hb hx=>?_,fun b o e n hb hx=>?_,I.base.free,fun b o e hx=>?_,I.base.tups,I.base.frzs,I.base.tbls⟩,⟨_,hn',fun j y v' e1 e2 e3=>?_⟩,fun y c e=>?_,I.free,I.freeC,fun p hp=>?_,tracked ⟨oL,hoL,I.free⟩ hs,by simpa using I.len⟩ ⟨_,hs,.inl rfl⟩
  ·exact (hs.2 b (Nat.ne_of_lt (Nat.lt_of_lt_of_le (Heap.lt_size e) I.ok.above))).trans (I.base.keep b o e n hb hx)
  ·obtain ⟨sl,e1⟩:=I.base.slot b o e n hb hx
   exact ⟨sl,(hs.2 b (Nat.ne_of_lt (Nat.lt_of_lt_of_le (Heap.lt_size e) I.ok.above))).trans e1⟩
  ·obtain ⟨o',e1⟩:=I.base.there b o e hx
   exact ⟨o',(hs.2 b (Nat.ne_of_lt (Nat.lt_of_lt_of_le (Heap.lt_size e) I.ok.above))).trans e1⟩
  ·by_cases hj:j=i
   ·subst hj
    rw [hi] at e1;cases e1
    rw [List.getElem?_set_self hiσ] at e2
    cases e2
    exact ⟨u,r,.inl ⟨hk,by simp⟩⟩
   ·rw [List.getElem?_set_ne (Ne.symm hj)] at e2
    obtain ⟨u',r',q⟩:=hl j y v' e1 e2 e3
    refine ⟨u',r',?_⟩
    rcases q with ⟨k,e⟩ | ⟨k,c,e,z⟩
    ·refine .inl ⟨k,?_⟩
     have:y≠x:=fun e=>hj (Pk hN e1 (e▸hi))
     simp [this,e]
    ·exact .inr ⟨k,c,e,z.sameBut hs (cne y c e)⟩
  ·obtain ⟨w',z⟩:=I.cell y c e
   exact ⟨w',z.sameBut hs (cne y c e)⟩
  ·obtain ⟨e,n,ne,nf,d⟩:=I.pin p hp
   exact ⟨(hs.2 p.1 ne).trans e,n,ne,nf,d⟩
 ·have hfn:X.fn x=true:=by
   rcases hf with z | z
   ·exact z
   ·rw [z] at hk;cases hk
  obtain ⟨c,hc⟩:=I.ok.has x (.inl hk)
  obtain ⟨w',z⟩:=I.cell x c hc
  refine wpAny_storeName_cell I.ok.kind hk hc z (fun h' hc' hs=>?_)
  obtain ⟨oc,hoc,hocd⟩:=id z
  refine h { s with heap:=h' } ⟨I.ok,I.os,I.bare,⟨fun b o e n hb hx=>?_,fun b o e n hb hx=>?_,I.base.free,fun b o e hx=>?_,I.base.tups,I.base.frzs,I.base.tbls⟩,⟨m,hn.sameBut hs (Ne.symm (cne x c hc)),fun j y v' e1 e2 e3=>?_⟩,fun y c' e=>?_,I.free,I.freeC,fun p hp=>?_,tracked ⟨oc,hoc,I.freeC x c hc⟩ hs,by simpa using I.len⟩ ⟨c,hs,.inr hc⟩
  ·exact (hs.2 b (Nat.ne_of_lt (Nat.lt_of_lt_of_le (Heap.lt_size e) (I.ok.cab x c hfn hc)))).trans (I.base.keep b o e n hb hx)
  ·obtain ⟨sl,e1⟩:=I.base.slot b o e n hb hx
   exact ⟨sl,(hs.2 b (Nat.ne_of_lt (Nat.lt_of_lt_of_le (Heap.lt_size e) (I.ok.cab x c hfn hc)))).trans e1⟩
  ·obtain ⟨o',e1⟩:=I.base.there b o e hx
   exact ⟨o',(hs.2 b (Nat.ne_of_lt (Nat.lt_of_lt_of_le (Heap.lt_size e) (I.ok.cab x c hfn hc)))).trans e1⟩
  ·by_cases hj:j=i
   ·subst hj
    rw [hi] at e1;cases e1
    rw [List.getElem?_set_self hiσ] at e2
    cases e2
    exact ⟨u,r,.inr ⟨.inl hk,c,hc,hc'⟩⟩
   ·rw [List.getElem?_set_ne (Ne.symm hj)] at e2
    obtain ⟨u',r',q⟩:=hl j y v' e1 e2 e3
    refine ⟨u',r',?_⟩
    rcases q with q | ⟨k,c',e,z'⟩
    ·exact .inl q
    ·refine .inr ⟨k,c',e,z'.sameBut hs ?_⟩
     rintro rfl
     exact hj (Pk hN e1 (I.ok.inj _ _ _ e hc▸hi))
  ·by_cases hcc:c'=c
   ·subst hcc;exact ⟨_,hc'⟩
   ·obtain ⟨w2,z2⟩:=I.cell y c' e
    exact ⟨w2,z2.sameBut hs hcc⟩
  ·obtain ⟨e,n,ne,nf,d⟩:=I.pin p hp
   refine ⟨(hs.2 p.1 ?_).trans e,n,ne,nf,d⟩
   intro q
   rw [q,hoc] at e
   have q':oc=p.2:=Option.some.inj e
   exact d w' (by rw [<- q'];exact hocd)
theorem Uc {M:Model} {A:Around} {E:Value->Shared->Prop} {i:Nat} {x:Str} {v:V} {u:Value} {Q:Unit->Shared->Prop} (I:Inv X pins σ H s) (hN:X.N.Nodup) (hi:X.N[i]?=some x) (hx:VC X.env.scope x) (r:RelV v u)
  (h:∀ s',Inv X pins (σ.set i (some v)) H s'->Q () s') (hf:X.fn x=true\/X.env.scope.names.lookup x=some .local:=by first | exact .inl rfl | exact .inr rfl | assumption):wpAny M A (storeName X.env x u) Q E s :=
 Hk I hN hi hx r (fun s' I' _=>h s' I') hf
theorem Inv.call' {s':Shared} {ch:List Addr} (I:Inv X pins σ H s) (ho:s'.os=s.os) (u:Un (JH X.stack) ch H H' s.heap s'.heap) (hok:HOk X.prog X.w H' s'.heap) (hg:AllBare s'.gens)
  (hch:∀ b∈ch,(b∈X.ex\/X.s₀.heap.objs.size<=b)/\b≠X.env.locals/\(∀ x c,X.env.cells.lookup x=some c->c≠b)/\∀ p∈X.pn++pins,p.1≠b):Inv X pins σ H' s':=by
 obtain ⟨h',g',d',t',o'⟩:=s'
 have e:o'=s.os:=ho
 subst e
 exact I.call (g':=g') (t':=t') (d':=d') u hok hg hch
end
abbrev XK:=Value->Option Addr->Hp->Prop
abbrev St:=List (Option V)
abbrev VK:=V->Hp->Prop
abbrev TE:=St->Hp->VK->Prop
abbrev TT:=St->Hp->(Bool->Hp->Prop)->Prop
abbrev TA:=St->Hp->(List V->Hp->Prop)->Prop
structure Ends where
 nx:St->Hp->Prop
 rt:VK
 bk:St->Hp->Prop:=fun _ _=>False
 ct:St->Hp->Prop:=fun _ _=>False
abbrev TS:=Ends->St->Hp->Prop
inductive EP (X:Cx) (pins:List (Addr×Obj)) (σ:St) (Q:VK) (u:Value) (s':Shared):Prop
 | mk (v:V) (H':Hp) (h1:Inv X pins σ H' s') (h2:RelV v u) (h3:Q v H'):EP X pins σ Q u s'
def TP (X:Cx) (pins:List (Addr×Obj)) (σ:St) (Q:Bool->Hp->Prop) (b:Bool) (s':Shared):Prop:=∃ H',Inv X pins σ H' s'/\Q b H'
inductive AP (X:Cx) (pins:List (Addr×Obj)) (σ:St) (Q:List V->Hp->Prop) (us:List Value) (s':Shared):Prop
 | mk (vs:List V) (H':Hp) (h1:Inv X pins σ H' s') (h2:Vals vs us) (h3:Q vs H'):AP X pins σ Q us s'
def SP (X:Cx) (pins:List (Addr×Obj)) (D:Ends) (f:Flow) (s':Shared):Prop :=
 match f with
 | .next=>∃ σ' H',Inv X pins σ' H' s'/\D.nx σ' H'
 | .brk=>∃ σ' H',Inv X pins σ' H' s'/\D.bk σ' H'
 | .cont=>∃ σ' H',Inv X pins σ' H' s'/\D.ct σ' H'
 | .ret u=>∃ v σ' H',Inv X pins σ' H' s'/\RelV v u/\D.rt v H'
def PE (X:Cx) (e:Expr) (t:TE):Prop :=
 ∀ (pins:List (Addr×Obj)) (s:Shared) (σ:St) (H:Hp) (Q:VK),Inv X pins σ H s->t σ H Q->wpAny (model X.prog X.w) X.A (eval e X.env) (EP X pins σ Q) X.xe s
def PT (X:Cx) (e:Expr) (t:TT):Prop :=
 ∀ (pins:List (Addr×Obj)) (s:Shared) (σ:St) (H:Hp) (Q:Bool->Hp->Prop),Inv X pins σ H s->t σ H Q->wpAny (model X.prog X.w) X.A (isTrue e X.env (eval e X.env)) (TP X pins σ Q) X.xe s
def PW (X:Cx) (e:Expr) (t:TT):Prop :=
 ∀ (whole:Sem Value) (pins:List (Addr×Obj)) (s:Shared) (σ:St) (H:Hp) (Q:Bool->Hp->Prop),Inv X pins σ H s->t σ H Q->wpAny (model X.prog X.w) X.A (isTrue e X.env whole) (TP X pins σ Q) X.xe s
theorem PW.pt {X:Cx} {e:Expr} {t:TT} (h:PW X e t):PT X e t:=h _
def PA (X:Cx) (es:List Expr) (t:TA):Prop :=
 ∀ (pos:Pos) (pins:List (Addr×Obj)) (s:Shared) (σ:St) (H:Hp) (Q:List V->Hp->Prop),Inv X pins σ H s->t σ H Q->wpAny (model X.prog X.w) X.A (spliced (backTo pos (starEach es X.env))) (AP X pins σ Q) X.xe s
def PS (X:Cx) (st:Stmt) (t:TS):Prop :=
 ∀ (pins:List (Addr×Obj)) (s:Shared) (σ:St) (H:Hp) (D:Ends),Inv X pins σ H s->t D σ H->wpAny (model X.prog X.w) X.A (exec st X.env) (SP X pins D) X.xe s
def PSs (X:Cx) (st:List Stmt) (t:TS):Prop :=
 ∀ (pins:List (Addr×Obj)) (s:Shared) (σ:St) (H:Hp) (D:Ends),Inv X pins σ H s->t D σ H->wpAny (model X.prog X.w) X.A (execs st X.env) (SP X pins D) X.xe s
theorem QL {α:Type} {t:Sem α} {Q Q':α->Shared->Prop} {M:Model} {A:Around} {E:Value->Shared->Prop} {s:Shared} (h:wpAny M A t Q E s) (hQ:∀ a s,Q a s->Q' a s):wpAny M A t Q' E s:=wpAny_mono h hQ fun _ _ x=>x
end L2
namespace L2
open PySem PySem.Spec PyProof.Rows
section
variable {X:Cx}
def Qj (i:Nat):TE:=fun σ H Q=>∃ v,σ[i]?=some (some v)/\Q v H
def tC (v:V):TE:=fun _ H Q=>Q v H
theorem Qp {i:Nat} {x:Str} {pos:Pos} (hN:X.N[i]?=some x) (hv:ZZ X.env.scope x) (hd:(x==("__debug__":Str))=false:=by decide) (hcd:(x==("__classdict__":Str))=false:=by decide):PE X (.Name x pos) (Qj i):=by
 intro pins s σ H Q I h
 obtain ⟨v,e,h⟩:=h
 obtain ⟨m,hn,hl⟩:=I.loc
 obtain ⟨u,r,l⟩:=hl i x v hN e hv
 have fin:EP X pins σ Q u s:=⟨v,H,I,r,h⟩
 rcases l with ⟨hk,hm⟩ | ⟨hk,c,hc,hcell⟩
 ·exact wpAny_Name (wpAny_loadName_local I.ok.kind hk hn hm fin) hd
 ·rcases hk with hk | hk
  ·exact wpAny_Name (wpAny_loadName_cell I.ok.kind hk hc hcell fin) hd
  ·exact wpAny_Name (wpAny_loadName_free I.ok.kind hk hc hcell fin hcd) hd
theorem V6 {i j pos}:PE X (.Constant (.int i) j pos) (tC (.int i)):=fun _ _ _ H _ I h=>wpAny_Constant_int ⟨.int i,H,I.tok _,⟨_,rfl⟩,h⟩
theorem VW {b j pos}:PE X (.Constant (.bool b) j pos) (tC (.bl b)):=fun _ _ _ H _ I h=>Constant_bool ⟨.bl b,H,I,rfl,h⟩
theorem UR {j pos}:PE X (.Constant .none j pos) (tC .non):=fun _ _ _ H _ I h=>Constant_none ⟨.non,H,I,rfl,h⟩
theorem VX {x j pos}:PE X (.Constant (.str x) j pos) (tC (.str x)):=fun _ _ _ H _ I h=>Calls.Constant_str ⟨.str x,H,I.tok _,⟨_,rfl⟩,h⟩
def Gl (X:Cx) (x:Str):Prop:=X.env.kindOf x=some .globalImplicit
theorem Xu {E:Value->Shared->Prop} {pins:List (Addr×Obj)} {s:Shared} {σ:St} {H:Hp} {x:Str} {u:Value} {pos:Pos} {Q:Value->Shared->Prop} (I:Inv X pins σ H s) (hg:Gl X x) (hm:X.mg x=some u) (h:Q u s)
  (hd:(x==("__debug__":Str))=false:=by decide):wpAny (model X.prog X.w) X.A (eval (.Name x pos) X.env) Q E s :=
 Calls.Name_function_global I.ok.kind hg (Calls.loadGlobal_global (by rw [I.ok.glob];exact I.mod.glob.keeps I.bk) hm h) hd
theorem Xs {E:Value->Shared->Prop} {pins:List (Addr×Obj)} {s:Shared} {σ:St} {H:Hp} {x:Str} {u:Value} {pos:Pos} {Q:Value->Shared->Prop} (I:Inv X pins σ H s) (hg:Gl X x) (hm:X.mg x=none) (hv:bootBuiltins x=some u) (h:Q u s)
  (hn:x≠"__name__":=by decide) (hd:(x==("__debug__":Str))=false:=by decide):wpAny (model X.prog X.w) X.A (eval (.Name x pos) X.env) Q E s:=by
 obtain ⟨mb,h1,h2⟩:=I.mod.blt
 exact Calls.Name_function_global I.ok.kind hg (Calls.loadGlobal_builtin (by rw [I.ok.glob];exact I.mod.glob.keeps I.bk) hm (by rw [I.ok.blt];exact h1.keeps I.bk) ((h2 x hn).trans hv) h) hd
theorem Ic {x:Str} {v:V} {u:Value} {pos:Pos} (hg:Gl X x) (hm:X.mg x=none) (hv:bootBuiltins x=some u) (r:RelV v u) (hn:x≠"__name__":=by decide) (hd:(x==("__debug__":Str))=false:=by decide):PE X (.Name x pos) (tC v) :=
 fun _ _ _ H _ I h=>Xs I hg hm hv ⟨v,H,I,r,h⟩ hn hd
variable {a b:Expr} {ta tb:TE} {pos:Pos}
def PC (X:Cx) (op:CmpOp) (a b:Expr) (t:TE):Prop :=
 ∀ (pins:List (Addr×Obj)) (s:Shared) (σ:St) (H:Hp) (Q:VK),Inv X pins σ H s->t σ H Q ->
  wpAny (model X.prog X.w) X.A (eval a X.env) (fun v s₁=>wpAny (model X.prog X.w) X.A (eval b X.env) (fun u s₂=>wpAny (model X.prog X.w) X.A (compareOp op v u) (EP X pins σ Q) X.xe s₂) X.xe s₁) X.xe s
theorem Cv (b:Expr) {op:CmpOp} (h:op≠.In) (h2:op≠.NotIn):behindInMarks op b=false:=by
 have e1:(op==CmpOp.In)=false:=by cases op<;>first | rfl | exact absurd rfl h
 have e2:(op==CmpOp.NotIn)=false:=by cases op<;>first | rfl | exact absurd rfl h2
 cases b<;>simp [behindInMarks,e1,e2]
def Oy (ta:TE):TE:=fun σ H Q=>ta σ H fun x H1=>Q (.bl (decide (x=.non))) H1
theorem RelV.none_iff {x:V} {v:Value} (r:RelV x v):(v==Value.none)=decide (x=.non):=by
 cases x with
 | non=>cases r;rfl
 | bl _=>cases r;rfl
 | int _=>obtain ⟨t,rfl⟩:=r;rfl
 | str _=>obtain ⟨t,rfl⟩:=r;rfl
 | byt _=>obtain ⟨t,rfl⟩:=r;rfl
 | flt _=>obtain ⟨t,rfl⟩:=r;rfl
 | ref _=>cases r;rfl
 | ty _=>cases r;rfl
theorem Ib {j pos'} (ha:PE X a ta):PC X .Is a (.Constant .none j pos') (Oy ta):=by
 intro pins s σ H Q I h
 refine QL (ha pins s σ H _ I h) ?_
 rintro v s1 ⟨x,H1,I1,r1,q1⟩
 exact Constant_none (is_none_gen ⟨.bl _,H1,I1,by rw [r1.none_iff];rfl,q1⟩)
def tB (t:TE):TT:=fun σ H Q=>t σ H fun x H1=>∃ c,x=.bl c/\Q c H1
theorem Iq {op:CmpOp} {t:TE} (h:PC X op a b t) (h1:behindInMarks op b=false:=by first | exact Cv _ (by decide) (by decide) | rfl):PT X (.Compare a [op] [b] pos) (tB t):=by
 intro pins s σ H Q I hw
 refine wpAny_isTrue_Compare1 (QL (h pins s σ H _ I hw) fun v s1 h1=>QL h1 fun u s2 h2=>QL h2 fun c s3 ⟨x,H1,I1,r1,q1⟩=>?_) h1
 obtain ⟨d,rfl,q⟩:=q1
 cases r1
 exact wpAny_truthy_bool ⟨H1,I1,q⟩
theorem Iu {e:Expr} {t:TE} (h:PE X e t) (he:∀ whole,isTrue e X.env whole=(do let v <- whole;standAt e.pos;holding [v] (truthy v)):=by intro _;rfl):PT X e (tB t):=by
 intro pins s σ H Q I hw
 refine isTrue_plain (QL (h pins s σ H _ I hw) fun v s1 ⟨x,H1,I1,r1,q1⟩=>?_) (he _)
 obtain ⟨d,rfl,q⟩:=q1
 cases r1
 exact wpAny_truthy_bool ⟨H1,I1,q⟩
variable {tA tB':TT} {rest:List Expr}
def Ho (t u:TT):TT:=fun σ H Q=>t σ H fun c H1=>if c=true then u σ H1 Q else Q false H1
def Hv (t u:TT):TT:=fun σ H Q=>t σ H fun c H1=>if c=true then Q true H1 else u σ H1 Q
def Hu (t:TT):TT:=fun σ H Q=>t σ H fun c H1=>Q (!c) H1
theorem Qai (ha:PT X a tA):PW X (.BoolOp .And [a] pos) tA:=by
 intro wh pins s σ H Q I h
 refine isTrue_and (QL (ha pins s σ H Q I h) fun c s1 e=>?_)
 cases c with
 | true=>exact isTrue_and_nil e
 | false=>exact e
theorem Qak (ha:PT X a tA):PW X (.BoolOp .Or [a] pos) tA:=by
 intro wh pins s σ H Q I h
 refine isTrue_or (QL (ha pins s σ H Q I h) fun c s1 e=>?_)
 cases c with
 | false=>exact isTrue_or_nil e
 | true=>exact e
theorem Qah (ha:PT X a tA) (hb:PW X (.BoolOp .And (b::rest) pos) tB'):PW X (.BoolOp .And (a::b::rest) pos) (Ho tA tB'):=by
 intro wh pins s σ H Q I h
 refine isTrue_and (QL (ha pins s σ H _ I h) fun c s1 ⟨H1,I1,q1⟩=>?_)
 cases c with
 | true=>exact hb wh pins s1 σ H1 Q I1 q1
 | false=>exact ⟨H1,I1,q1⟩
theorem Qaj (ha:PT X a tA) (hb:PW X (.BoolOp .Or (b::rest) pos) tB'):PW X (.BoolOp .Or (a::b::rest) pos) (Hv tA tB'):=by
 intro wh pins s σ H Q I h
 refine isTrue_or (QL (ha pins s σ H _ I h) fun c s1 ⟨H1,I1,q1⟩=>?_)
 cases c with
 | true=>exact ⟨H1,I1,q1⟩
 | false=>exact hb wh pins s1 σ H1 Q I1 q1
theorem Ir (ha:PT X a tA):PT X (.UnaryOp .Not a pos) (Hu tA):=by
 intro pins s σ H Q I h
 exact isTrue_not (ha pins s σ H (fun c H1=>Q (!c) H1) I h)
def QbS (ta tb:TE):TE:=fun σ H Q=>ta σ H fun x H1=>∃ c,x=.bl c/\if c=true then tb σ H1 Q else Q (.bl false) H1
def QbW (ta tb:TE):TE:=fun σ H Q=>ta σ H fun x H1=>∃ c,x=.bl c/\if c=true then Q (.bl true) H1 else tb σ H1 Q
def QbV (ta:TE):TE:=fun σ H Q=>ta σ H fun x H1=>∃ c,x=.bl c/\Q (.bl (!c)) H1
theorem Am {op} {t:TE} (h:PE X a t):PE X (.BoolOp op [a] pos) t:=fun pins s σ H Q I hw=>BoolOp_one (h pins s σ H Q I hw)
theorem Ae (ha:PE X a ta) (hb:PE X (.BoolOp .And (b::rest) pos) tb):PE X (.BoolOp .And (a::b::rest) pos) (QbS ta tb):=by
 intro pins s σ H Q I h
 refine BoolOp_and (QL (ha pins s σ H _ I h) fun v s1 ⟨x,H1,I1,r1,q1⟩=>?_)
 obtain ⟨c,rfl,q1⟩:=q1
 cases r1
 refine wpAny_truthy_bool ?_
 cases c with
 | true=>exact hb pins s1 σ H1 Q I1 q1
 | false=>exact ⟨.bl false,H1,I1,rfl,q1⟩
theorem An (ha:PE X a ta) (hb:PE X (.BoolOp .Or (b::rest) pos) tb):PE X (.BoolOp .Or (a::b::rest) pos) (QbW ta tb):=by
 intro pins s σ H Q I h
 refine BoolOp_or (QL (ha pins s σ H _ I h) fun v s1 ⟨x,H1,I1,r1,q1⟩=>?_)
 obtain ⟨c,rfl,q1⟩:=q1
 cases r1
 refine wpAny_truthy_bool ?_
 cases c with
 | false=>exact hb pins s1 σ H1 Q I1 q1
 | true=>exact ⟨.bl true,H1,I1,rfl,q1⟩
theorem Ak (ha:PE X a ta):PE X (.UnaryOp .Not a pos) (QbV ta):=by
 intro pins s σ H Q I h
 refine UnaryOp_ (QL (ha pins s σ H _ I h) fun v s1 ⟨x,H1,I1,r1,q1⟩=>?_)
 obtain ⟨c,rfl,q1⟩:=q1
 cases r1
 exact not_of (wpAny_truthy_bool ⟨.bl (!c),H1,I1,rfl,q1⟩)
def Vb (t:TT) (ta tb:TE):TE:=fun σ H Q=>t σ H fun c H1=>if c=true then ta σ H1 Q else tb σ H1 Q
theorem UP {c:Expr} (hc:PT X c tA) (ha:PE X a ta) (hb:PE X b tb):PE X (.IfExp c a b pos) (Vb tA ta tb):=by
 intro pins s σ H Q I h
 refine wpAny_IfExp (QL (hc pins s σ H _ I h) fun d s1 ⟨H1,I1,q1⟩=>?_)
 cases d with
 | true=>exact ha pins s1 σ H1 Q I1 q1
 | false=>exact hb pins s1 σ H1 Q I1 q1
end
end L2
namespace L2
open PySem PySem.Spec PyProof.Rows
def SqL (K:PySem.W.Frag) (H:Hp) (a:Addr) (xs:List V):Prop :=
 Rd H a (.lst xs) \/
  ∃ (o:Obj) (its:Array Value) (n:Nat),K.lookup a=some o/\o.cls=.type "list"/\o.dict=none/\o.data=.seq its n/\its.size<=sizeLine/\Vals xs its.toList
def SqT (K:PySem.W.Frag) (H:Hp) (a:Addr) (xs:List V):Prop :=
 Rd H a (.tup xs) \/
  ∃ (o:Obj) (its:Array Value) (n:Nat),K.lookup a=some o/\o.cls=.type "tuple"/\o.data=.seq its n/\its.size<=sizeLine/\Vals xs its.toList
def GG:Value->Option V
 | .none=>some .non
 | .bool b=>some (.bl b)
 | .int i _=>some (.int i)
 | .str x _=>some (.str x)
 | .bytes b _=>some (.byt b)
 | .float b _=>some (.flt b)
 | .ref a=>some (.ref a)
 | .type n=>some (.ty n)
 | _=>none
theorem RelV.abs {x:V} {u:Value} (r:RelV x u):GG u=some x:=by
 cases x with
 | non=>cases r;rfl
 | bl _=>cases r;rfl
 | int _=>obtain ⟨t,rfl⟩:=r;rfl
 | str _=>obtain ⟨t,rfl⟩:=r;rfl
 | byt _=>obtain ⟨t,rfl⟩:=r;rfl
 | flt _=>obtain ⟨t,rfl⟩:=r;rfl
 | ref _=>cases r;rfl
 | ty _=>cases r;rfl
theorem RelV.inj {x y:V} {u:Value} (r:RelV x u) (q:RelV y u):x=y:=Option.some.inj (r.abs.symm.trans q.abs)
theorem Vals.inj {xs ys:List V} {us:List Value} (h:Vals xs us) (q:Vals ys us):xs=ys:=by
 induction h generalizing ys with
 | nil=>cases q;rfl
 | cons r t ih =>
  cases q with
  | cons r' t'=>rw [r.inj r',ih t']
section
variable {X:Cx} {pins:List (Addr×Obj)} {σ:St} {H:Hp} {s:Shared} {a:Addr} {xs ys:List V}
theorem SqL.of {K:PySem.W.Frag} (h:H a=some (.lst xs)):SqL K H a xs:=.inl (.inl h)
theorem SqT.of {K:PySem.W.Frag} (h:H a=some (.tup xs)):SqT K H a xs:=.inl (.inl h)
theorem Inv.list (I:Inv X pins σ H s) (h:SqL X.K H a xs):∃ its:List Value,Vals xs its/\PlainL s.heap a its.toArray/\xs.length<=sizeLine:=by
 rcases h with h | ⟨o,its,n,hk,hc,hd,hs,hz,r⟩
 ·obtain ⟨z,its,n,r,e⟩:=h.ok I.hok
  exact ⟨its,r,⟨_,n,e,rfl,rfl,rfl⟩,z⟩
 ·refine ⟨its.toList,r,⟨o,n,I.kIn a o hk,hc,hd,by simpa using hs⟩,?_⟩
  have e:=r.length
  simp only [Array.length_toList] at e
  omega
theorem Inv.tuple (I:Inv X pins σ H s) (h:SqT X.K H a xs):∃ its:List Value,Vals xs its/\IsTup s.heap a its.toArray/\xs.length<=sizeLine:=by
 rcases h with h | ⟨o,its,n,hk,hc,hs,hz,r⟩
 ·obtain ⟨z,its,r,p⟩:=h.ok I.hok
  exact ⟨its,r,p,z⟩
 ·refine ⟨its.toList,r,⟨o,I.kIn a o hk,hc,n,by simpa using hs⟩,?_⟩
  have e:=r.length
  simp only [Array.length_toList] at e
  omega
theorem Inv.list_inj (I:Inv X pins σ H s) (h:SqL X.K H a xs) (h':SqL X.K H a ys):xs=ys:=by
 obtain ⟨its,r,⟨o,n,e,_,_,d⟩,_⟩:=I.list h
 obtain ⟨its',r',⟨o',n',e',_,_,d'⟩,_⟩:=I.list h'
 rw [e] at e';cases e'
 rw [d] at d'
 injection d' with d1 _
 have:its=its':=by simpa using congrArg Array.toList d1
 subst this
 exact r.inj r'
end
abbrev Cx.wish (X:Cx) (E:Value->Shared->Prop):Cx:={ X with xe:=E }
abbrev Cx.nox (X:Cx):Cx:=X.wish fun _ _=>False
theorem Cx.Ok.wish {X:Cx} (ok:X.Ok) (E:Value->Shared->Prop):(X.wish E).Ok :=
 ⟨ok.mod,ok.kind,ok.glob,ok.blt,ok.above,ok.inj,ok.has,ok.cab,ok.hd,ok.frames,ok.stk,ok.exf,ok.bs,ok.bsz,ok.noex,ok.exfs,ok.funs,ok.frf⟩
theorem Cx.Ok.unwish {X:Cx} {E:Value->Shared->Prop} (ok:(X.wish E).Ok):X.Ok :=
 ⟨ok.mod,ok.kind,ok.glob,ok.blt,ok.above,ok.inj,ok.has,ok.cab,ok.hd,ok.frames,ok.stk,ok.exf,ok.bs,ok.bsz,ok.noex,ok.exfs,ok.funs,ok.frf⟩
section
variable {X:Cx} {pins:List (Addr×Obj)} {σ:St} {H:Hp} {s:Shared} {E:Value->Shared->Prop}
theorem Inv.wish (I:Inv X pins σ H s) (E:Value->Shared->Prop):Inv (X.wish E) pins σ H s:=⟨I.ok.wish E,I.os,I.bare,I.base,I.loc,I.cell,I.free,I.freeC,I.pin,I.hok,I.len⟩
theorem Inv.unwish (I:Inv (X.wish E) pins σ H s):Inv X pins σ H s:=⟨I.ok.unwish,I.os,I.bare,I.base,I.loc,I.cell,I.free,I.freeC,I.pin,I.hok,I.len⟩
theorem SP.unwish {D:Ends} {f:Flow} {s':Shared} (h:SP (X.wish E) pins D f s'):SP X pins D f s':=by
 cases f with
 | next=>obtain ⟨σ',H',I,q⟩:=h;exact ⟨σ',H',I.unwish,q⟩
 | brk=>obtain ⟨σ',H',I,q⟩:=h;exact ⟨σ',H',I.unwish,q⟩
 | cont=>obtain ⟨σ',H',I,q⟩:=h;exact ⟨σ',H',I.unwish,q⟩
 | ret u=>obtain ⟨v,σ',H',I,r,q⟩:=h;exact ⟨v,σ',H',I.unwish,r,q⟩
theorem PE.nox {e:Expr} {t:TE} (h:PE X.nox e t):PE X e t:=fun pins s σ H Q I hw =>
 wpAny_mono (h pins s σ H Q (I.wish _) hw) (by rintro _ _ ⟨v,H',I',r,q⟩;exact ⟨v,H',I'.unwish,r,q⟩) fun _ _ z=>False.elim z
theorem PT.nox {e:Expr} {t:TT} (h:PT X.nox e t):PT X e t:=fun pins s σ H Q I hw =>
 wpAny_mono (h pins s σ H Q (I.wish _) hw) (by rintro _ _ ⟨H',I',q⟩;exact ⟨H',I'.unwish,q⟩) fun _ _ z=>False.elim z
theorem PSs.nox {st:List Stmt} {t:TS} (h:PSs X.nox st t):PSs X st t:=fun pins s σ H D I hw =>
 wpAny_mono (h pins s σ H D (I.wish _) hw) (fun _ _ q=>q.unwish) fun _ _ z=>False.elim z
end
section
variable {X:Cx} {st:Stmt} {rest:List Stmt} {t u:TS} {e:Expr} {te:TE} {pos:Pos}
def Vc:TS:=fun D σ H=>D.nx σ H
def ZY (t u:TS):TS:=fun D σ H=>t { D with nx:=u D } σ H
theorem Yg:PSs X [] Vc:=fun _ _ σ H _ I h=>wpAny_execs_nil ⟨σ,H,I,h⟩
theorem Jj (h1:PS X st t) (h2:PSs X rest u):PSs X (st::rest) (ZY t u):=by
 intro pins s σ H D I h
 refine wpAny_execs_cons (QL (h1 pins s σ H { D with nx:=u D } I h) fun f s1 q=>?_)
 cases f with
 | next =>
  obtain ⟨σ',H',I',q⟩:=q
  exact h2 pins s1 σ' H' D I' q
 | ret v=>exact q
 | brk=>exact q
 | cont=>exact q
theorem Jw (h1:PS X st t):PSs X [st] t:=by
 intro pins s σ H D I h
 refine wpAny_execs_cons (QL (h1 pins s σ H D I h) fun f s1 q=>?_)
 cases f with
 | next=>exact wpAny_execs_nil q
 | ret v=>exact q
 | brk=>exact q
 | cont=>exact q
theorem Inv.quiet {pins:List (Addr×Obj)} {σ:St} {H:Hp} {s:Shared} (I:Inv X pins σ H s):interactive X.env=false:=by simp [interactive,I.ok.kind]
def YL (te:TE):TS:=fun D σ H=>te σ H fun _ H1=>D.nx σ H1
theorem Y0 (he:PE X e te) (hs:swapsWith e none pos.line X.env=pure false:=by rfl):PS X (.Expr e pos) (YL te):=by
 intro pins s σ H D I h
 exact wpAny_Expr_any (QL (he pins s σ H _ I h) fun v s1 ⟨x,H1,I1,r1,q1⟩=>⟨σ,H1,I1,q1⟩) I.quiet hs
def ZD (te:TE):TS:=fun D σ H=>te σ H D.rt
theorem ZA (he:PE X e te):PS X (.Return (some e) pos) (ZD te):=by
 intro pins s σ H D I h
 exact wpAny_Return_some (QL (he pins s σ H _ I h) fun v s1 ⟨x,H1,I1,r1,q1⟩=>⟨x,σ,H1,I1,r1,q1⟩)
def VA (c:TT) (t u:TS):TS:=fun D σ H=>c σ H fun b H1=>if b=true then t D σ H1 else u D σ H1
theorem Ye {c:Expr} {a b:List Stmt} {tc:TT} (hc:PT X c tc) (ha:PSs X a t) (hb:PSs X b u):PS X (.If c a b pos) (VA tc t u):=by
 intro pins s σ H D I h
 refine wpAny_If (QL (hc pins s σ H _ I h) fun d s1 ⟨H1,I1,q1⟩=>?_)
 cases d with
 | true=>exact ha pins s1 σ H1 D I1 q1
 | false=>exact hb pins s1 σ H1 D I1 q1
def Sh:TS:=fun _ _ _=>False
theorem Px {sts:List Stmt}:PSs X sts Sh:=fun _ _ _ _ _ _ h=>h.elim
end
abbrev TG:=V->St->Hp->(St->Hp->Prop)->Prop
abbrev VD:=List V->St->Hp->(St->Hp->Prop)->Prop
def PG (X:Cx) (target:Expr) (t:TG):Prop :=
 ∀ (pins:List (Addr×Obj)) (s:Shared) (σ:St) (H:Hp) (v:V) (u:Value) (Q:St->Hp->Prop),Inv X pins σ H s->RelV v u->t v σ H Q ->
  wpAny (model X.prog X.w) X.A (assign target X.env u) (fun _ s'=>∃ σ' H',Inv X pins σ' H' s'/\Q σ' H') X.xe s
def PGs (X:Cx) (ts:List Expr) (t:VD):Prop :=
 ∀ (pins:List (Addr×Obj)) (s:Shared) (σ:St) (H:Hp) (vs:List V) (us:List Value) (Q:St->Hp->Prop),Inv X pins σ H s->Vals vs us->t vs σ H Q ->
  wpAny (model X.prog X.w) X.A (assignInOrder ((assignEach ts X.env).map (·.2)) us) (fun _ s'=>∃ σ' H',Inv X pins σ' H' s'/\Q σ' H') X.xe s
section
variable {X:Cx} {pos:Pos}
def Yw (i:Nat):TG:=fun v σ H Q=>Q (σ.set i (some v)) H
theorem Ij {i:Nat} {x:Str} (hN:X.N.Nodup) (hi:X.N[i]?=some x) (hx:VC X.env.scope x) (hf:X.fn x=true\/X.env.scope.names.lookup x=some .local:=by first | exact .inl rfl | exact .inr rfl | assumption):PG X (.Name x pos) (Yw i):=by
 intro pins s σ H v u Q I r h
 exact wpAny_assign_Name (Uc I hN hi hx r (fun s' I'=>⟨_,H,I',h⟩) hf)
def DF:VD:=fun vs σ H Q=>vs=[]/\Q σ H
def DE (t:TG) (u:VD):VD:=fun vs σ H Q=>∃ v r,vs=v::r/\t v σ H fun σ' H'=>u r σ' H' Q
theorem Ar:PGs X [] DF:=by
 intro pins s σ H vs us Q I r h
 obtain ⟨e,h⟩:=h
 subst e
 cases r
 exact assignInOrder_nil ⟨σ,H,I,h⟩
theorem Aq {e:Expr} {es:List Expr} {t:TG} {u:VD} (h1:PG X e t) (h2:PGs X es u)
  (hs:(assignEach (e::es) X.env).map (·.2)=assign e X.env::(assignEach es X.env).map (·.2):=by rfl):PGs X (e::es) (DE t u):=by
 intro pins s σ H vs us Q I r h
 obtain ⟨v,vr,e1,h⟩:=h
 subst e1
 cases r with
 | cons r rr =>
  rw [hs]
  refine assignInOrder_cons (QL (h1 pins s σ H _ _ _ I r h) fun _ s1 ⟨σ1,H1,I1,q1⟩=>?_)
  exact h2 pins s1 σ1 H1 _ _ Q I1 rr q1
def DG (K:PySem.W.Frag) (n:Nat) (t:VD):TG:=fun v σ H Q=>∃ a xs,v=.ref a/\SqT K H a xs/\xs.length=n/\t xs σ H Q
theorem Ap {es:List Expr} {k:Nat} {t:VD} {n:Nat} (hc:X.calm=true) (h:PGs X es t)
  (hn:(assignEach es X.env).length=n:=by rfl) (hst:(assignEach es X.env).findIdx? (·.1)=none:=by rfl):PG X (.Tuple es k pos) (DG X.K n t):=by
 intro pins s σ H v u Q I r hw
 obtain ⟨a,xs,e1,hq,hl,hw⟩:=hw
 subst e1
 cases r
 obtain ⟨its,rv,ht,hz⟩:=I.tuple hq
 refine assign_Tuple_tuple (I.ok.hd hc) ht (by simp [hn,<- hl,rv.length]) hst fun h' hx=>?_
 have I1:Inv X pins σ H { s with heap:=h' }:=I.kept (t':=s.toks) fun b o e=>hx b o (Nat.ne_of_lt (Heap.lt_size e)) e
 exact h pins _ σ H xs _ Q I1 (by simpa using rv) hw
def WV (te:TE) (g:TG):TS:=fun D σ H=>te σ H fun x H1=>g x σ H1 D.nx
theorem VY {i:Nat} {x:Str} {e:Expr} {te:TE} {pos':Pos} (hN:X.N.Nodup) (hi:X.N[i]?=some x) (hx:VC X.env.scope x) (he:PE X e te) (hs:swapsWith e (some (.Name x pos')) pos.line X.env=pure false:=by rfl) (hf:X.fn x=true\/X.env.scope.names.lookup x=some .local:=by first | exact .inl rfl | exact .inr rfl | assumption) :
  PS X (.Assign [.Name x pos'] e pos) (WV te (Yw i)):=by
 intro pins s σ H D I h
 refine wpAny_Assign_Name (QL (he pins s σ H _ I h) fun v s1 ⟨y,H1,I1,r1,q1⟩=>?_) hs
 exact Uc I1 hN hi hx r1 (fun s2 I2=>⟨_,H1,I2,q1⟩) hf
end
section
variable {X:Cx} {pos:Pos}
end
structure It where
 go:Nat->Hp->Prop
 yld:Nat->Hp->V->Hp->Prop
 stop:Nat->Hp->Prop
def ZP (X:Cx) (pins:List (Addr×Obj)) (H:Hp) (b:Addr):Prop :=
 H b=none/\b≠X.env.locals/\b∉X.fs/\(b∈X.ex\/X.s₀.heap.objs.size<=b)/\(∀ x c,X.env.cells.lookup x=some c->c≠b)/\∀ p∈X.pn++pins,p.1≠b
theorem Inv.fpOk {X:Cx} {pins:List (Addr×Obj)} {σ:St} {H H':Hp} {s:Shared} {b:Addr} (I:Inv X pins σ H s) (hb:s.heap.objs.size<=b) (hn:H' b=none):ZP X pins H' b:=by
 refine ⟨hn,Nat.ne_of_gt (Nat.lt_of_lt_of_le I.lt hb),I.nofs hb,.inr (Nat.le_trans I.sz hb),fun x c e z=>?_,fun p hp z=>?_⟩
 ·obtain ⟨v,q⟩:=I.cell x c e
  exact absurd (Nat.lt_of_lt_of_le q.lt (by rw [z];exact hb)) (Nat.lt_irrefl _)
 ·exact absurd (Nat.lt_of_lt_of_le (Heap.lt_size (I.pin p hp).1) (by rw [z];exact hb)) (Nat.lt_irrefl _)
structure Turn (P:Program) (w:World) (K:PySem.W.Frag) (tg:Expr) (J:It) (fp:List Addr) (it:Addr) (tn:Nat->Heap->Prop):Prop where
 mem:it∈fp
 obj:∀ i h,tn i h->∀ b∈fp,∃ o,h.get? b=some o/\∀ v,o.data≠.cell v
 keep:∀ i h h',tn i h->(∀ b∈fp,∀ o,h.get? b=some o->h'.get? b=some o)->tn i h'
 item:∀ (X:Cx),X.prog=P->X.w=w->X.K=K->X.calm=true->∀ (i:Nat) (pins:List (Addr×Obj)) (s:Shared) (σ:St) (H:Hp) (E:Value->Shared->Prop),Inv X pins σ H s->(∀ b∈fp,ZP X pins H b)->tn i s.heap->J.go i H ->
  wpAny (model P w) X.A (pyNext (.ref it)) (fun r s1=>∃ u,r=some u /\
   wpAny (model P w) X.A (letOwnedTupleGo tg (.ref it) u) (fun _ s2=>∃ x H',Inv X pins σ H' s2/\RelV x u/\J.yld i H x H'/\tn (i+1) s2.heap/\∀ b∈fp,H' b=none) E s1) E s
 done:∀ (X:Cx),X.prog=P->X.w=w->X.K=K->X.calm=true->∀ (i:Nat) (pins:List (Addr×Obj)) (s:Shared) (σ:St) (H:Hp) (E:Value->Shared->Prop),Inv X pins σ H s->(∀ b∈fp,ZP X pins H b)->tn i s.heap->J.stop i H ->
  wpAny (model P w) X.A (pyNext (.ref it)) (fun r s1=>r=none/\Inv X pins σ H s1) E s
 self:∀ (A:Around) (i:Nat) (s:Shared) (Q:Value->Shared->Prop) (E:Value->Shared->Prop),tn i s.heap->Q (.ref it) s->wpAny (model P w) A (pyIter (.ref it)) Q E s
abbrev TI:=St->Hp->(It->Hp->Prop)->Prop
inductive PIE (X:Cx) (pins:List (Addr×Obj)) (σ:St) (tg:Expr) (R:It->Hp->Prop) (itv:Value) (s2:Shared):Prop
 | mk (it:Addr) (fp:List Addr) (tn:Nat->Heap->Prop) (J:It) (H':Hp) (h1:itv=.ref it) (h2:Inv X pins σ H' s2) (h3:Turn X.prog X.w X.K tg J fp it tn) (h4:tn 0 s2.heap) (h5:∀ b∈fp,ZP X pins H' b) (h6:R J H'):PIE X pins σ tg R itv s2
def PI (X:Cx) (tg iter:Expr) (wi:TI):Prop :=
 ∀ (pins:List (Addr×Obj)) (s:Shared) (σ:St) (H:Hp) (R:It->Hp->Prop),Inv X pins σ H s->wi σ H R ->
  wpAny (model X.prog X.w) X.A (eval iter X.env) (fun v s1=>wpAny (model X.prog X.w) X.A (pyIter v) (PIE X pins σ tg R) X.xe s1) X.xe s
theorem PR {M:Model} {A:Around} {E:Value->Shared->Prop} {s:Shared} {tg:Expr} {it:Addr} {u:Value} {o:Obj} {n:String} {vs:Array Value} {Q:Unit->Shared->Prop} (ho:s.heap.get? it=some o) (hc:o.cls=.type n) (hd:o.data=.fields vs)
  (hn:["enumerate","zip","dict_itemiterator","dict_reverseitemiterator","odict_iterator","itertools.zip_longest","itertools.pairwise"].contains n=false) (hQ:Q () s):wpAny M A (letOwnedTupleGo tg (.ref it) u) Q E s:=by
 unfold letOwnedTupleGo
 cases tg<;>first
  | exact wpAny_pure hQ
  | (cases u<;>first
    | exact wpAny_pure hQ
    | (refine wpAny_bind (wpAny_load ho ?_)
       rw [hc,hd]
       show wpAny M A (if (["enumerate","zip","dict_itemiterator","dict_reverseitemiterator","odict_iterator","itertools.zip_longest","itertools.pairwise"].contains n&&vs[0]?==some (rawInt _))=true then _ else _) Q E s
       rw [if_neg (by intro h;rw [hn,Bool.false_and] at h;cases h)]
       exact wpAny_pure hQ))
def R8 (K:PySem.W.Frag) (a:Addr):It :=
 ⟨fun i H=>∃ xs x,SqL K H a xs/\xs[i]?=some x,fun i H x H'=>H'=H/\∀ xs,SqL K H a xs->xs[i]?=some x,fun i H=>∃ xs,SqL K H a xs/\xs.length<=i⟩
def R9 (lo:Int) (n:Nat):It:=⟨fun i _=>i<n,fun i H x H'=>H'=H/\x=.int (lo+i),fun i _=>n<=i⟩
theorem Qca {P:Program} {w:World} {K:PySem.W.Frag} {tg:Expr} (a it:Addr):Turn P w K tg (R8 K a) [it] it (fun i h=>h.IsListIter it a i) where
 mem:=by simp
 obj:=fun i h st b hb=>by
  have e:b=it:=by simpa using hb
  subst e
  obtain ⟨o,e,c,d⟩:=st
  exact ⟨o,e,fun v z=>by rw [d] at z;cases z⟩
 keep:=fun i h h' st k=>st.at fun o e=>k it (by simp) o e
 item:=by
  intro X hP hw hK hc i pins s σ H E I hf st hg
  subst hP hw hK
  obtain ⟨xs,x,hq,hx⟩:=hg
  obtain ⟨its,rv,p,hz⟩:=I.list hq
  obtain ⟨u,hu,ru⟩:=rv.get hx
  obtain ⟨f0,f1,f2,f3,f4,f5⟩:=hf it (by simp)
  refine wpAny_pyNext_list_item st p.isList (x:=u) (by simpa using hu) fun h' st' sb=>?_
  have I1:Inv X pins σ H { s with heap:=h' }:=I.turned (t':=s.toks) (fun b o hb e=>(sb.2 b hb).trans e) f0 f1 f3 f4 f5
  obtain ⟨o,e,c,d⟩:=id st'
  exact ⟨u,rfl,PR (s:={ s with heap:=h' }) e c d (by decide) ⟨x,H,I1,ru,⟨rfl,fun ys hy=>by rw [I.list_inj hy hq];exact hx⟩,st',fun b hb=>(hf b hb).1⟩⟩
 done:=by
  intro X hP hw hK hc i pins s σ H E I hf st hg
  subst hP hw hK
  obtain ⟨xs,hq,hx⟩:=hg
  obtain ⟨its,rv,p,hz⟩:=I.list hq
  obtain ⟨f0,f1,f2,f3,f4,f5⟩:=hf it (by simp)
  have hl:=rv.length
  exact wpAny_pyNext_list_end (I.ok.hd hc) st p.isList (by simp;omega) fun h' eb=>⟨rfl,I.turned (t':=s.toks) (fun b o hb e=>eb b o hb e) f0 f1 f3 f4 f5⟩
 self:=fun _ _ _ _ _ st h=>wpAny_pyIter_listiter st h
theorem Qcb {P:Program} {w:World} {K:PySem.W.Frag} {tg:Expr} (it:Addr) (lo:Int) (n:Nat):Turn P w K tg (R9 lo n) [it] it (fun i h=>IsRangeIter h it (lo+(i:Nat)*1) ((n:Int)-(i:Nat)) 1) where
 mem:=by simp
 obj:=fun i h st b hb=>by
  have e:b=it:=by simpa using hb
  subst e
  exact ⟨_,st,fun v z=>by
   have z':Data.fields _=Data.cell v:=z
   cases z'⟩
 keep:=fun i h h' st k=>k it (by simp) _ st
 item:=by
  intro X hP hw hK hc i pins s σ H E I hf st hg
  subst hP hw hK
  obtain ⟨f0,f1,f2,f3,f4,f5⟩:=hf it (by simp)
  have W:=Walks.range (prog:=X.prog) (w:=X.w) (I.ok.hd hc) it lo 1 n
  refine W.item i s _ _ hg st fun v h' tk hv st' kk=>?_
  obtain ⟨t,rfl⟩:=hv
  have I1:Inv X pins σ H { s with heap:=h',toks:=tk }:=I.turned (fun b o hb e=>kk b o (by simpa using hb) e) f0 f1 f3 f4 f5
  refine ⟨_,rfl,PR (s:={ s with heap:=h',toks:=tk }) (n:="range_iterator") st' rfl rfl (by decide) ⟨.int (lo+i),H,I1,⟨t,?_⟩,⟨rfl,rfl⟩,st',fun b hb=>(hf b hb).1⟩⟩
  rw [Int.mul_one]
 done:=by
  intro X hP hw hK hc i pins s σ H E I hf st hg
  subst hP hw hK
  obtain ⟨f0,f1,f2,f3,f4,f5⟩:=hf it (by simp)
  exact wpAny_pyNext_range_end (I.ok.hd hc) st (by have:n<=i:=hg;omega) fun h' eb=>⟨rfl,I.turned (t':=s.toks) (fun b o hb e=>eb b o hb e) f0 f1 f3 f4 f5⟩
 self:=fun _ _ _ _ _ st h=>wpAny_pyIter_rangeiter st h
end L2
namespace L2
open PySem PySem.Spec PyProof.Rows
section
variable {X:Cx} {tg:Expr}
def KI (K:PySem.W.Frag) (tl:TE):TI:=fun σ H R=>tl σ H fun x H1=>∃ a,x=.ref a/\(∃ xs,SqL K H1 a xs)/\R (R8 K a) H1
theorem Ik {l:Expr} {tl:TE} (hl:PE X l tl):PI X tg l (KI X.K tl):=by
 intro pins s σ H R I h
 refine QL (hl pins s σ H _ I h) ?_
 rintro v s1 ⟨x,H1,I1,r1,q1⟩
 obtain ⟨a,e,⟨xs,hq⟩,q⟩:=q1
 subst e
 cases r1
 obtain ⟨its,rv,p,hz⟩:=I1.list hq
 refine wpAny_pyIter_list p.isList ?_
 refine ⟨s1.heap.objs.size,[s1.heap.objs.size],_,_,H1,rfl,I1.kept (t':=s1.toks) fun b o e=>Heap.get?_push_of_some _ e,Qca a _,⟨_,Heap.get?_push_size _ rfl,rfl,rfl⟩,fun b hb=>?_,q⟩
 have e:b=s1.heap.objs.size:=by simpa using hb
 subst e
 exact I1.fpOk (Nat.le_refl _) (I1.hok.fresh (Nat.le_refl _))
theorem Qat {pins:List (Addr×Obj)} {σ:St} {H:Hp} {s:Shared} {R:It->Hp->Prop} {E:Value->Shared->Prop} {lo hi:Int} {t u v:Tok} {tk:Nat} (I:Inv X pins σ H s) (h1:-(2^62)<=lo) (h2:lo<2^62) (h3:-(2^62)<=hi) (h4:hi<2^62)
  (q:R (R9 lo (hi-lo).toNat) H):wpAny (model X.prog X.w) X.A (pyIter (.ref s.heap.objs.size)) (PIE X pins σ tg R) E { s with heap:=s.heap.push { cls:=.type "range",data:=.fields #[.int lo t,.int hi u,.int 1 v] },toks:=tk }:=by
 refine wpAny_pyIter_range (IsRange.new ..) (small_one h1 h2 h3 h4) ?_
 have I1:Inv X pins σ H { s with heap:=s.heap.push { cls:=.type "range",data:=.fields #[.int lo t,.int hi u,.int 1 v] },toks:=tk }:=I.kept fun b o e=>Heap.get?_push_of_some _ e
 refine ⟨(s.heap.push { cls:=.type "range",data:=.fields #[.int lo t,.int hi u,.int 1 v] }).objs.size,[(s.heap.push { cls:=.type "range",data:=.fields #[.int lo t,.int hi u,.int 1 v] }).objs.size],_,_,H,rfl,
  I1.kept (t':=tk) fun b o e=>Heap.get?_push_of_some _ e,Qcb _ lo (hi-lo).toNat,?_,fun b hb=>?_,q⟩
 ·have e1:lo+((0:Nat):Int)*1=lo:=by simp
  have e2:(((hi-lo).toNat:Nat):Int)-((0:Nat):Int)=Builtin.Range.rangeSize lo hi 1:=by rw [rangeSize_one];split<;>omega
  show IsRangeIter _ _ (lo+((0:Nat):Int)*1) ((((hi-lo).toNat:Nat):Int)-((0:Nat):Int)) 1
  rw [e1,e2]
  exact Heap.get?_push_size _ rfl
 ·have e:b=(s.heap.push { cls:=.type "range",data:=.fields #[.int lo t,.int hi u,.int 1 v] }).objs.size:=by simpa using hb
  subst e
  exact I1.fpOk (Nat.le_refl _) (I1.hok.fresh (Nat.le_refl _))
def DQ (ta:TA):TI:=fun σ H R=>ta σ H fun vs H1=>∃ j:Int,vs=[.int j]/\-(2^62)<=j/\j<2^62/\R (R9 0 j.toNat) H1
theorem Au {a:Expr} {ta:TA} {p pos:Pos} (hg:Gl X "range") (hm:X.mg "range"=none) (ha:PA X [a] ta) (hs:starEach [a] X.env=[(false,eval a X.env)]:=by rfl):PI X tg (.Call (.Name "range" p) [a] [] pos) (DQ ta):=by
 intro pins s σ H R I h
 refine Call_ (Xs I hg hm boot_range (PyProof.Rows.callWith_type1 (QL (ha pos pins s σ H _ I h) fun us s1 ⟨vs,H1,I1,r1,q1⟩=>?_) hs rfl))
 obtain ⟨j,e,q1,q2,q⟩:=q1
 subst e
 cases r1 with
 | cons r rr =>
  cases rr
  obtain ⟨t,rfl⟩:=r
  exact call_range_1 (Qat I1 (by omega) (by omega) q1 q2 (by simpa using q))
def Hr (wi:TI) (g:TG) (tb:TS):TS:=fun D σ H=>wi σ H fun J H1=>∃ W:Nat->Nat->St->Hp->Prop,(∃ m,W 0 m σ H1)/\∀ i m σ H,W i m σ H ->
 (J.stop i H/\D.nx σ H)\/(J.go i H/\∃ N:St->Hp->Prop,(∀ σ' H',N σ' H'->∃ m',m'<m/\W (i+1) m' σ' H')/\∀ x H',J.yld i H x H'->g x σ H' fun σ2 H2=>tb { D with nx:=N,ct:=N,bk:=D.nx } σ2 H2)
def US (fp:List Addr) (h:Heap):List (Addr×Obj):=fp.filterMap fun b=>(h.get? b).map fun o=>(b,o)
theorem Tt {fp:List Addr} {h:Heap} {b:Addr} {o:Obj} (hb:b∈fp) (e:h.get? b=some o):(b,o)∈US fp h:=List.mem_filterMap.mpr ⟨b,hb,by rw [e];rfl⟩
theorem B2 {fp:List Addr} {h:Heap} {p:Addr×Obj} (hp:p∈US fp h):p.1∈fp/\h.get? p.1=some p.2:=by
 obtain ⟨b,hb,e⟩:=List.mem_filterMap.mp hp
 cases q:h.get? b with
 | none=>rw [q] at e;cases e
 | some o =>
  rw [q] at e
  have e':(b,o)=p:=Option.some.inj e
  subst e'
  exact ⟨hb,q⟩
theorem Inv.pinned {pins:List (Addr×Obj)} {σ:St} {H:Hp} {s:Shared} {fp:List Addr} (I:Inv X pins σ H s) (hf:∀ b∈fp,ZP X pins H b) (ho:∀ b∈fp,∃ o,s.heap.get? b=some o/\∀ v,o.data≠.cell v):Inv X (pins++US fp s.heap) σ H s :=
 I.pins_of fun p hp=>(List.mem_append.mp hp).elim (fun z=>I.pin p (List.mem_append_right _ z)) fun z=>by
  obtain ⟨hb,e⟩:=B2 z
  obtain ⟨f0,f1,f2,_⟩:=hf p.1 hb
  obtain ⟨o,e',d⟩:=ho p.1 hb
  rw [e] at e';cases e'
  exact ⟨e,f0,f1,f2,d⟩
theorem Inv.unpinned {pins pl:List (Addr×Obj)} {σ:St} {H:Hp} {s:Shared} (I:Inv X (pins++pl) σ H s):Inv X pins σ H s:=I.pins_of fun p hp=>I.pin p (List.mem_append_right _ (List.mem_append_left _ hp))
theorem Pw {iter:Expr} {body:List Stmt} {wi:TI} {g:TG} {tb:TS} {pos:Pos} (hp:PassesOwn (model X.prog X.w) X.A X.env X.xe) (hc:X.calm=true) (hi:PI X tg iter wi) (hg:PG X tg g) (hb:PSs X body tb)
  (hs:∀ x,foldedSetIterable iter X.env x=pure x:=by intro _;rfl):PS X (.For tg iter body [] pos) (Hr wi g tb):=by
 intro pins s σ H D I h
 refine wpAny_For (QL (hi pins s σ H _ I h) fun v s1 h1=>QL h1 fun itv s2 h2=>?_) hs
 obtain ⟨it,fp,tn,J,H2,e,I2,T,st2,f2,W,⟨m0,w0⟩,turn⟩:=h2
 subst e
 have stat:∀ {H':Hp},(∀ b∈fp,H' b=none)->∀ b∈fp,ZP X pins H' b:=fun hn b hb=>⟨hn b hb,(f2 b hb).2⟩
 refine codeAny_forLoop_any (fun n s'=>∃ i σ' H',Inv X pins σ' H' s'/\tn i s'.heap/\(∀ b∈fp,H' b=none)/\W i n σ' H') ?_ m0 ⟨0,σ,H2,I2,st2,fun b hb=>(f2 b hb).1,w0⟩
 rintro n s3 ⟨i,σ3,H3,I3,st3,fr3,w3⟩
 rcases turn i n σ3 H3 w3 with ⟨stop,qn⟩ | ⟨go,N,hN,step⟩
 ·refine wpAny_passesOwn hp (QL (T.done X rfl rfl rfl hc i pins s3 σ3 H3 X.xe I3 (stat fr3) st3 stop) fun r s4 ⟨hr,I4⟩=>?_)
  subst hr
  exact wpAny_execs_nil ⟨σ3,H3,I4,qn⟩
 ·refine wpAny_passesOwn hp (QL (T.item X rfl rfl rfl hc i pins s3 σ3 H3 X.xe I3 (stat fr3) st3 go) fun r s4 ⟨u,hr,h4⟩=>?_)
  subst hr
  refine wpAny_passesOwn hp (QL h4 fun _ s5 ⟨x,H5,I5,r5,y5,st5,fr5⟩=>?_)
  have I5':=I5.pinned (stat fr5) (T.obj _ _ st5)
  refine wpAny_passesOwn hp (QL (hg _ s5 σ3 H5 x u _ I5' r5 (step x H5 y5)) fun _ s6 ⟨σ6,H6,I6,q6⟩=>?_)
  refine wpAny_passesOwn hp (QL (hb _ s6 σ6 H6 _ I6 q6) fun f s7 q7=>?_)
  have again:∀ {σ7:St} {H7:Hp},Inv X (pins++US fp s5.heap) σ7 H7 s7->N σ7 H7->∃ m,m<n/\∃ i σ' H',Inv X pins σ' H' s7/\tn i s7.heap/\(∀ b∈fp,H' b=none)/\W i m σ' H':=fun {σ7 H7} I7 n7=>by
   obtain ⟨m',hm,w7⟩:=hN σ7 H7 n7
   refine ⟨m',hm,i+1,σ7,H7,I7.unpinned,T.keep _ _ _ st5 fun b hb o e=>(I7.pin (b,o) (List.mem_append_right _ (List.mem_append_right _ (Tt hb e)))).1,fun b hb=>?_,w7⟩
   obtain ⟨o,e,d⟩:=T.obj _ _ st5 b hb
   exact (I7.pin (b,o) (List.mem_append_right _ (List.mem_append_right _ (Tt hb e)))).2.1
  cases f with
  | next=>obtain ⟨σ7,H7,I7,n7⟩:=q7;exact again I7 n7
  | cont=>obtain ⟨σ7,H7,I7,n7⟩:=q7;exact again I7 n7
  | brk=>obtain ⟨σ7,H7,I7,q7⟩:=q7;exact ⟨σ7,H7,I7.unpinned,q7⟩
  | ret v=>obtain ⟨x7,σ7,H7,I7,r7,q7⟩:=q7;exact ⟨x7,σ7,H7,I7.unpinned,r7,q7⟩
end
end L2
namespace L2
open PySem PySem.Spec PyProof.Rows
abbrev R2:=V->V->Hp->VK->Prop
def OpR (X:Cx) (f:Value->Value->Sem Value) (r:R2):Prop :=
 ∀ (pins:List (Addr×Obj)) (s:Shared) (σ:St) (H:Hp) (x y:V) (v u:Value) (Q:VK),Inv X pins σ H s->RelV x v->RelV y u->r x y H Q ->
  wpAny (model X.prog X.w) X.A (f v u) (EP X pins σ Q) X.xe s
def RN (X:Cx) (f:Value->Sem Value) (r:V->Hp->VK->Prop):Prop :=
 ∀ (pins:List (Addr×Obj)) (s:Shared) (σ:St) (H:Hp) (x:V) (v:Value) (Q:VK),Inv X pins σ H s->RelV x v->r x H Q ->
  wpAny (model X.prog X.w) X.A (f v) (EP X pins σ Q) X.xe s
def CallR (X:Cx) (f:Value) (r:List V->Hp->VK->Prop):Prop :=
 ∀ (pins:List (Addr×Obj)) (s:Shared) (σ:St) (H:Hp) (xs:List V) (us:List Value) (Q:VK),Inv X pins σ H s->Vals xs us->r xs H Q ->
  wpAny (model X.prog X.w) X.A (call f us) (EP X pins σ Q) X.xe s
def Yi (r:R2) (ta tb:TE):TE:=fun σ H Q=>ta σ H fun x H1=>tb σ H1 fun y H2=>r x y H2 Q
def tUn (r:V->Hp->VK->Prop) (ta:TE):TE:=fun σ H Q=>ta σ H fun x H1=>r x H1 Q
def rI (C:Int->Int->Prop) (g:Int->Int->V):R2:=fun x y H Q=>∃ i j,x=.int i/\y=.int j/\C i j/\Q (g i j) H
def ZB (g:Int->Int->V):R2:=fun x y H Q=>∃ i j,x=.int i/\y=.int j/\Q (g i j) H
def rU (g:Int->V):V->Hp->VK->Prop:=fun x H Q=>∃ i,x=.int i/\Q (g i) H
section
variable {X:Cx} {a b c:Expr} {ta tb tc:TE} {pos:Pos}
theorem RZ (ha:PE X a ta) (hb:PE X b tb) {pins:List (Addr×Obj)} {s:Shared} {σ:St} {H:Hp} {R:V->V->Hp->Prop} (I:Inv X pins σ H s)
  (h:ta σ H fun x H1=>tb σ H1 fun y H2=>R x y H2) {Q:Value->Shared->Prop} {f:Value->Value->Sem Value}
  (hf:∀ v u s2 x y H2,Inv X pins σ H2 s2->RelV x v->RelV y u->R x y H2->wpAny (model X.prog X.w) X.A (f v u) Q X.xe s2) :
  wpAny (model X.prog X.w) X.A (eval a X.env) (fun v s₁=>wpAny (model X.prog X.w) X.A (eval b X.env) (fun u s₂=>wpAny (model X.prog X.w) X.A (f v u) Q X.xe s₂) X.xe s₁) X.xe s:=by
 refine QL (ha pins s σ H _ I h) ?_
 rintro v s1 ⟨x,H1,I1,r1,q1⟩
 refine QL (hb pins s1 σ H1 _ I1 q1) ?_
 rintro u s2 ⟨y,H2,I2,r2,q2⟩
 exact hf v u s2 x y H2 I2 r1 r2 q2
theorem Ih {op:Operator} {r:R2} (ho:OpR X (binaryOp op) r) (ha:PE X a ta) (hb:PE X b tb):PE X (.BinOp a op b pos) (Yi r ta tb):=by
 intro pins s σ H Q I h
 exact wpAny_BinOp (RZ ha hb I h fun v u s2 x y H2 I2 rx ry q=>ho pins s2 σ H2 x y v u Q I2 rx ry q)
theorem Ii {op:UnaryOp} {r:V->Hp->VK->Prop} (ho:RN X (unaryOp op) r) (ha:PE X a ta):PE X (.UnaryOp op a pos) (tUn r ta):=by
 intro pins s σ H Q I h
 exact UnaryOp_ (QL (ha pins s σ H _ I h) fun v s1 ⟨x,H1,I1,r1,q1⟩=>ho pins s1 σ H1 x v Q I1 r1 q1)
theorem S3 {f:Value->Value->Sem Value} {C:Int->Int->Prop} {g:Int->Int->Int}
  (rule:∀ (i j:Int) (t u:Tok) (s:Shared) (Q:Value->Shared->Prop) (E:Value->Shared->Prop),C i j->Q (.int (g i j) s.toks) { s with toks:=s.toks+1 }->wpAny (model X.prog X.w) X.A (f (.int i t) (.int j u)) Q E s) :
  OpR X f (rI C fun i j=>.int (g i j)):=by
 intro pins s σ H x y v u Q I rx ry h
 obtain ⟨i,j,rfl,rfl,hc,q⟩:=h
 obtain ⟨t,rfl⟩:=rx
 obtain ⟨t',rfl⟩:=ry
 exact rule i j t t' s _ _ hc ⟨.int (g i j),H,I.tok _,⟨_,rfl⟩,q⟩
theorem IJ {f:Value->Value->Sem Value} {g:Int->Int->Int}
  (rule:∀ (i j:Int) (t u:Tok) (s:Shared) (Q:Value->Shared->Prop) (E:Value->Shared->Prop),Q (.int (g i j) s.toks) { s with toks:=s.toks+1 }->wpAny (model X.prog X.w) X.A (f (.int i t) (.int j u)) Q E s) :
  OpR X f (ZB fun i j=>.int (g i j)):=by
 intro pins s σ H x y v u Q I rx ry h
 obtain ⟨i,j,rfl,rfl,q⟩:=h
 obtain ⟨t,rfl⟩:=rx
 obtain ⟨t',rfl⟩:=ry
 exact rule i j t t' s _ _ ⟨.int (g i j),H,I.tok _,⟨_,rfl⟩,q⟩
theorem Pq {f:Value->Value->Sem Value} {g:Int->Int->Bool}
  (rule:∀ (i j:Int) (t u:Tok) (s:Shared) (Q:Value->Shared->Prop) (E:Value->Shared->Prop),Q (.bool (g i j)) s->wpAny (model X.prog X.w) X.A (f (.int i t) (.int j u)) Q E s) :
  OpR X f (ZB fun i j=>.bl (g i j)):=by
 intro pins s σ H x y v u Q I rx ry h
 obtain ⟨i,j,rfl,rfl,q⟩:=h
 obtain ⟨t,rfl⟩:=rx
 obtain ⟨t',rfl⟩:=ry
 exact rule i j t t' s _ _ ⟨.bl (g i j),H,I,rfl,q⟩
def Sw (i j:Int):Prop:=0<j/\j<1073741824
def Sx (i j:Int):Prop:=0<=j/\j<=1000000/\i.natAbs<2^64
def CMul (i j:Int):Prop:=(-(2^64)<i/\i<2^64)\/(-(2^64)<j/\j<2^64)
theorem CMul.ok {i j:Int} (h:CMul i j):IntMulOk i j:=by
 rcases h with ⟨h1,h2⟩ | ⟨h1,h2⟩
 ·exact .of_left (intBits_le_64 h1 h2)
 ·exact .of_right (intBits_le_64 h1 h2)
theorem A8:OpR X (binaryOp .Add) (ZB fun i j=>.int (i+j)):=IJ fun _ _ _ _ _ _ _ q=>add_int q
theorem AV:OpR X (binaryOp .Sub) (ZB fun i j=>.int (i-j)):=IJ fun _ _ _ _ _ _ _ q=>sub_int q
theorem IQ:OpR X (binaryOp .Mult) (rI CMul fun i j=>.int (i*j)):=S3 fun _ _ _ _ _ _ _ hc q=>mul_int q hc.ok
theorem AD:OpR X (binaryOp .FloorDiv) (rI Sw fun i j=>.int (i/j)):=S3 fun i j _ _ _ _ _ hc q=>by
 have h1:(0:Int)<j:=hc.1
 have h2:j<1073741824:=hc.2
 exact floordiv_int (by omega) (by rw [Int.fdiv_eq_ediv_of_nonneg i (by omega)];exact q) (.inl (PyProof.noPylong_small (by omega)))
theorem AN:OpR X (binaryOp .Mod) (rI (fun _ j=>0<j) fun i j=>.int (i%j)):=S3 fun i j _ _ _ _ _ hc q=>by
 have h1:(0:Int)<j:=hc
 exact mod_int' (by omega) (by rw [Int.fmod_eq_emod_of_nonneg i (by omega)];exact q)
theorem AS:OpR X (binaryOp .Pow) (rI Sx fun i j=>.int (i^j.toNat)):=S3 fun _ _ _ _ _ _ _ hc q=>pow_int_small hc.1 hc.2.1 hc.2.2 q
theorem unI {f:Value->Sem Value} {g:Int->Int}
  (rule:∀ (i:Int) (t:Tok) (s:Shared) (Q:Value->Shared->Prop) (E:Value->Shared->Prop),Q (.int (g i) s.toks) { s with toks:=s.toks+1 }->wpAny (model X.prog X.w) X.A (f (.int i t)) Q E s) :
  RN X f (rU fun i=>.int (g i)):=by
 intro pins s σ H x v Q I rx h
 obtain ⟨i,rfl,q⟩:=h
 obtain ⟨t,rfl⟩:=rx
 exact rule i t s _ _ ⟨.int (g i),H,I.tok _,⟨_,rfl⟩,q⟩
theorem G0:RN X (unaryOp .USub) (rU fun i=>.int (-i)):=unI fun _ _ _ _ _ q=>neg_int q
end
section
variable {X:Cx} {a b c:Expr} {ta tb tc:TE} {pos:Pos}
theorem PM {pins:List (Addr×Obj)} {σ:St} {H:Hp} {s:Shared} {Q:VK} {k k':Bool} (I:Inv X pins σ H s) (q:Q (.bl k) H) (e:k=k'):EP X pins σ Q (.bool k') s:=by
 subst e
 exact ⟨.bl k,H,I,rfl,q⟩
theorem AM:OpR X (compareOp .Lt) (ZB fun i j=>.bl (decide (i<j))):=Pq fun _ _ _ _ _ _ _ q=>lt_int q
theorem AG:OpR X (compareOp .Gt) (ZB fun i j=>.bl (decide (j<i))):=Pq fun _ _ _ _ _ _ _ q=>gt_int q
theorem AE:OpR X (compareOp .GtE) (ZB fun i j=>.bl (decide (j<=i))):=Pq fun _ _ _ _ _ _ _ q=>ge_int q
theorem IM:OpR X (compareOp .Is) (fun x y H Q=>y=.non/\Q (.bl (decide (x=.non))) H):=by
 intro pins s σ H x y v u Q I rx ry h
 obtain ⟨rfl,q⟩:=h
 cases ry
 refine is_none_gen (PM I q ?_)
 cases x<;>first
  | (cases rx;rfl)
  | (obtain ⟨t,rfl⟩:=rx;rfl)
theorem OpR.or {f:Value->Value->Sem Value} {r r':R2} (h:OpR X f r) (h':OpR X f r'):OpR X f (fun x y H Q=>r x y H Q\/r' x y H Q):=by
 intro pins s σ H x y v u Q I rx ry q
 rcases q with q | q
 ·exact h pins s σ H x y v u Q I rx ry q
 ·exact h' pins s σ H x y v u Q I rx ry q
theorem J5 (b:Expr) {op:CmpOp} (h:op≠.In:=by decide) (h2:op≠.NotIn:=by decide):behindInMarks op b=false:=by
 have e1:(op==CmpOp.In)=false:=by cases op<;>first | rfl | exact absurd rfl h
 have e2:(op==CmpOp.NotIn)=false:=by cases op<;>first | rfl | exact absurd rfl h2
 cases b<;>simp [behindInMarks,e1,e2]
theorem Ah {op:CmpOp} {r:R2} (ho:OpR X (compareOp op) r) (ha:PE X a ta) (hb:PE X b tb) (hm:behindInMarks op b=false):PE X (.Compare a [op] [b] pos) (Yi r ta tb):=by
 intro pins s σ H Q I h
 exact wpAny_Compare1 (RZ ha hb I h fun v u s2 x y H2 I2 rx ry q=>ho pins s2 σ H2 x y v u Q I2 rx ry q) hm
def Hw (t:TE):TT:=fun σ H Q=>t σ H fun x H'=>∃ k,x=.bl k/\Q k H'
theorem SD {op:CmpOp} {r:R2} (ho:OpR X (compareOp op) r) (ha:PE X a ta) (hb:PE X b tb) (hm:behindInMarks op b=false):PT X (.Compare a [op] [b] pos) (Hw (Yi r ta tb)):=by
 intro pins s σ H Q I h
 refine wpAny_isTrue_Compare1 (QL (ha pins s σ H _ I h) fun v s1 ⟨x,H1,I1,r1,q1⟩=>QL (hb pins s1 σ H1 _ I1 q1) fun u s2 ⟨y,H2,I2,r2,q2⟩ =>
  QL (ho pins s2 σ H2 x y v u _ I2 r1 r2 q2) fun c s3 ⟨z,H3,I3,r3,k,e,q3⟩=>?_) hm
 subst e
 cases r3
 exact wpAny_truthy_bool ⟨H3,I3,q3⟩
def Hq (r r':R2) (ta tb tc:TE):TE:=fun σ H Q=>ta σ H fun x H1=>tb σ H1 fun y H2=>r x y H2 fun z H3=>∃ k,z=.bl k /\
 (if k=true then tc σ H3 fun w' H4=>r' y w' H4 Q else Q (.bl false) H3)
theorem Ag {op op':CmpOp} {r r':R2} (ho:OpR X (compareOp op) r) (ho':OpR X (compareOp op') r') (ha:PE X a ta) (hb:PE X b tb) (hc:PE X c tc)
  (hm:lastMarks [op,op'] [b,c]=false:=by with_unfolding_all rfl):PE X (.Compare a [op,op'] [b,c] pos) (Hq r r' ta tb tc):=by
 intro pins s σ H Q I h
 refine Compare_chain (QL (ha pins s σ H _ I h) fun v s1 ⟨x,H1,I1,r1,q1⟩=>chain_link (QL (hb pins s1 σ H1 _ I1 q1) fun u s2 ⟨y,H2,I2,r2,q2⟩ =>
  QL (ho pins s2 σ H2 x y v u _ I2 r1 r2 q2) fun d s3 ⟨z,H3,I3,r3,k,e,q3⟩=>?_)) hm
 subst e
 cases r3
 refine wpAny_truthy_bool ?_
 cases k with
 | false=>exact ite_ff ⟨.bl false,H3,I3,rfl,q3⟩
 | true=>exact ite_tt (chain_last (QL (hc pins s3 σ H3 _ I3 q3) fun w' s4 ⟨z',H4,I4,r4,q4⟩=>ho' pins s4 σ H4 y z' u w' Q I4 r2 r4 q4))
theorem X7:(sizeLine:Nat)<2^63:=by rw [sizeLine_eq];decide
theorem A9:OpR X (binaryOp .Add) (fun x y H Q=>∃ i j,x=.str i/\y=.str j/\i.length+j.length<=sizeLine/\Q (.str (i++j)) H):=by
 intro pins s σ H x y v u Q I rx ry h
 obtain ⟨i,j,rfl,rfl,hz,q⟩:=h
 obtain ⟨t,rfl⟩:=rx
 obtain ⟨t',rfl⟩:=ry
 exact add_str (fun t' tk=>⟨.str (i++j),H,I.tok _,⟨_,rfl⟩,q⟩) hz
theorem Vi {x:V} {us:List Value} (r:Vals [x] us):∃ u,us=[u]/\RelV x u:=by
 cases r with
 | cons r1 r2=>cases r2;exact ⟨_,rfl,r1⟩
theorem Sl {x y:V} {us:List Value} (r:Vals [x,y] us):∃ u w',us=[u,w']/\RelV x u/\RelV y w':=by
 cases r with
 | cons r1 r2 =>
  cases r2 with
  | cons r3 r4=>cases r4;exact ⟨_,_,rfl,r1,r3⟩
theorem Gx (hc:X.calm=true):CallR X (.builtin "max") (fun xs H Q=>∃ i j,xs=[.int i,.int j]/\Q (.int (if j > i then j else i)) H):=by
 intro pins s σ H xs us Q I r h
 obtain ⟨i,j,rfl,q⟩:=h
 obtain ⟨u,w',rfl,⟨t,rfl⟩,⟨t',rfl⟩⟩:=Sl r
 refine max_two_ints (I.ok.hd hc) fun h' tk k=>⟨_,H,I.kept k,?_,q⟩
 by_cases hj:j > i
 ·rw [if_pos hj,if_pos hj];exact ⟨_,rfl⟩
 ·rw [if_neg hj,if_neg hj];exact ⟨_,rfl⟩
theorem F9:CallR X (.type "str") (fun xs H Q=>∃ i,xs=[.int i]/\i.natAbs.log2<1920/\Q (.str (toString i)) H):=by
 intro pins s σ H xs us Q I r h
 obtain ⟨i,rfl,hz,q⟩:=h
 obtain ⟨u,rfl,t,rfl⟩:=Vi r
 exact PySem.P.str_of_int hz ⟨.str _,H,I.tok _,⟨_,rfl⟩,q⟩
end
end L2
namespace L2
open PySem PySem.Spec PyProof.Rows
structure ObjM (h:Heap) (x dx C:Addr) (mA:Str->Option Value):Prop where
 obj:h.get? x=some (PySem.W.instObj C dx)
 ns:h.Ns1 dx mA
 ne:dx≠x
theorem Kr {h:Heap} {dx:Addr} {mA:Str->Option Value} (n:h.Ns1 dx mA):∃ od,h.get? dx=some od/\∀ name,PySem.W.lookIn name od=some (mA name):=by
 obtain ⟨o,es,ep,ho,hd,hk,_,hm⟩:=n
 refine ⟨o,ho,fun name=>?_⟩
 have e:=hm name
 unfold nsFind findBy at e
 rw [<- Array.find?_toList] at e
 unfold PySem.W.lookIn
 rw [hd]
 dsimp only
 split
 ·rename_i y q
  rw [q] at e
  exact congrArg some e
 ·rename_i q
  rw [q] at e
  have a:es.toList.any (·.refKey)=false:=by
   rw [List.any_eq_false]
   intro y hy
   obtain ⟨z,t,hkey⟩:=hk y (Array.mem_toList_iff.mp hy)
   simp [DictEntry.refKey,hkey]
  have a':¬ es.toList.any (·.refKey)=true:=by rw [a];exact Bool.false_ne_true
  rw [if_neg a']
  exact congrArg some e
theorem ObjM.look {h:Heap} {x dx C:Addr} {mA:Str->Option Value} (I:ObjM h x dx C mA):∃ od,PySem.W.InstAt h x (PySem.W.instObj C dx) C (some od)/\∀ name,PySem.W.lookIn name od=some (mA name) :=
 let ⟨od,ho,hl⟩:=Kr I.ns
 ⟨od,⟨I.obj,rfl,rfl,ho⟩,hl⟩
section
variable {prog:Program} {w:World} {A:Around} {E:Value->Shared->Prop} {s:Shared} {K:PySem.W.Frag} {x dx C f:Addr} {mA:Str->Option Value} {name:Str} {v:Value}
end
theorem RelO.some_of {v:V} {o:Option Value} (r:RelO (some v) o):∃ u,o=some u/\RelV v u:=by
 cases o with
 | none=>exact (show False from r).elim
 | some u=>exact ⟨u,rfl,r⟩
theorem DI {v:V} {u:Value} (r:RelV v u):PySem.W.handedIn u=true:=by
 cases v with
 | non=>cases (show u=Value.none from r);rfl
 | bl b=>cases (show u=Value.bool b from r);rfl
 | int i=>obtain ⟨t,e⟩:=(show ∃ t,u=Value.int i t from r);cases e;rfl
 | str x=>obtain ⟨t,e⟩:=(show ∃ t,u=Value.str x t from r);cases e;rfl
 | byt b=>obtain ⟨t,e⟩:=(show ∃ t,u=Value.bytes b t from r);cases e;rfl
 | flt b=>obtain ⟨t,e⟩:=(show ∃ t,u=Value.float b t from r);cases e;rfl
 | ref a=>cases (show u=Value.ref a from r);rfl
 | ty n=>cases (show u=Value.type n from r);rfl
section
variable {P:Program} {w:World} {H H':Hp} {h h':Heap} {a C dx:Addr} {fs fs':List (Str×V)}
theorem DZ (hok:HOk P w H h) (e:H a=some (.ins C dx fs)):∃ mA,ObjM h a dx C mA/\(∀ f,RelO (fs.lookup f) (mA f))/\PySem.Within mA (fs.map (·.1))/\fs.length<=1000/\H dx=some (.own a):=by
 obtain ⟨d,z,ne,ob,mA,n,r,q⟩:=(show ObjOk P w H h a (.ins C dx fs) from hok a _ e)
 exact ⟨mA,⟨ob,n,ne⟩,r,q,z,d⟩
end
structure Cls (K:PySem.W.Frag) (C:Addr):Prop where
 pg:PySem.W.plainGet K C Str.empty=true
 hd:PySem.W.hasDictIn K C=true
 po:PySem.W.plainOver K C=true
 sa:PySem.W.findIn K (.ref C) "__setattr__"=some (some (.builtin "object.__setattr__"))
theorem Cls.get {K:PySem.W.Frag} {C:Addr} (c:Cls K C) (f:Str):PySem.W.plainGet K C f=true:=c.pg
section
variable {X:Cx} {pins:List (Addr×Obj)} {σ:St} {H:Hp} {s:Shared} {a C dx:Addr} {fs:List (Str×V)} {f:Str} {v:V} {A:Around} {E:Value->Shared->Prop}
theorem GZ {prog:Program} {w:World} {env:Env} {e:Expr} {f:Str} {pos:Pos} {s:Shared} {Q:Value->Shared->Prop} (hb:attributeBase e f env (eval e env)=eval e env)
  (h:wpAny (model prog w) A (eval e env) (fun o s₁=>wpAny (model prog w) A (getAttr o f true) Q E s₁) E s):wpAny (model prog w) A (eval (.Attribute e f pos) env) Q E s :=
 Attribute_any_ h (by rw [arm_eval_Attribute,hb])
end
section
variable {X:Cx} {o e value:Expr} {f:Str} {pos pos' tpos:Pos} {ta tv:TE}
end
section
variable {X:Cx} {pins:List (Addr×Obj)} {σ:St} {H:Hp} {s:Shared} {A:Around} {E:Value->Shared->Prop} {Q:Value->Shared->Prop} {c:Value} {b:Bool}
inductive TyOf (K:PySem.W.Frag) (H:Hp):V->Value->Prop where
 | non:TyOf K H .non (.type "NoneType")
 | bl (x:Bool):TyOf K H (.bl x) (.type "bool")
 | int (i:Int):TyOf K H (.int i) (.type "int")
 | str (x:Str):TyOf K H (.str x) (.type "str")
 | flt (x:UInt64):TyOf K H (.flt x) (.type "float")
 | lst {a:Addr} {xs:List V} (e:H a=some (.lst xs)):TyOf K H (.ref a) (.type "list")
 | frz {a:Addr} {o:Obj} {xs:List V} (e:H a=some (.frz o (.lst xs))):TyOf K H (.ref a) (.type "list")
 | tup {a:Addr} {xs:List V} (e:H a=some (.tup xs)):TyOf K H (.ref a) (.type "tuple")
 | dK {a:Addr} {kvs:List (Jd×V)} (e:H a=some (.dK kvs)):TyOf K H (.ref a) (.type "dict")
 | dT {a:Addr} {kvs:List (List Jd×V)} (e:H a=some (.dT kvs)):TyOf K H (.ref a) (.type "dict")
 | frzD {a:Addr} {o:Obj} {kvs:List (Jd×V)} (e:H a=some (.frz o (.dK kvs))):TyOf K H (.ref a) (.type "dict")
 | ins {a C dx:Addr} {fs:List (Str×V)} (e:H a=some (.ins C dx fs)) (cl:Cls K C) (ha:PySem.W.findIn K (.ref C) "__class__"=some (some (.builtin "object.__class__")))
   (hn:PySem.W.specialIn K (.builtin "object.__class__") "__get__"=some (some (.builtin "getset_descriptor.__get__"))) (htk:PySem.W.takesIn K (.builtin "object.__class__")=some true)
   (hm:PySem.W.mroIn K C (.type "object")=some true):TyOf K H (.ref a) (.ref C)
theorem Dq {x:V} {u t:Value} (I:Inv X pins σ H s) (rx:RelV x u) (ty:TyOf X.K H x t) (e:PySem.W.kitOne X.K t c=some b) (h:∀ tk,Q (.bool b) { s with toks:=tk }) :
  wpAny (model X.prog X.w) A (call (.builtin "isinstance") [u,c]) Q E s:=by
 cases ty with
 | non=>cases (show u=Value.none from rx);exact PySem.W.kia_one PySem.W.kitx_none I.kIn True.intro e (fun z=>nomatch z) h
 | bl y=>cases (show u=Value.bool y from rx);exact PySem.W.kia_one PySem.W.kitx_bool I.kIn True.intro e (fun z=>nomatch z) h
 | int i=>obtain ⟨t,q⟩:=(show ∃ t,u=Value.int i t from rx);cases q;exact PySem.W.kia_one PySem.W.kitx_int I.kIn True.intro e (fun z=>nomatch z) h
 | str y=>obtain ⟨t,q⟩:=(show ∃ t,u=Value.str y t from rx);cases q;exact PySem.W.kia_one PySem.W.kitx_str I.kIn True.intro e (fun z=>nomatch z) h
 | flt y=>obtain ⟨t,q⟩:=(show ∃ t,u=Value.float y t from rx);cases q;exact PySem.W.kia_one PySem.W.kitx_float I.kIn True.intro e (fun z=>nomatch z) h
 | @lst a xs ea =>
  cases (show u=Value.ref a from rx)
  obtain ⟨_,_,n,_,h1⟩:=(show ObjOk X.prog X.w H s.heap a (.lst xs) from I.hok a _ ea)
  exact PySem.W.kia_one PySem.W.kitx_list I.kIn ⟨_,h1,rfl⟩ e (fun z=>nomatch z) h
 | @frz a ob xs ea =>
  cases (show u=Value.ref a from rx)
  obtain ⟨_,_,_,n,_,h1⟩:=(show ObjOk X.prog X.w H s.heap a (.frz ob (.lst xs)) from I.hok a _ ea)
  exact PySem.W.kia_one PySem.W.kitx_list I.kIn ⟨_,h1,rfl⟩ e (fun z=>nomatch z) h
 | @tup a xs ea =>
  cases (show u=Value.ref a from rx)
  obtain ⟨_,_,_,p⟩:=(show ObjOk X.prog X.w H s.heap a (.tup xs) from I.hok a _ ea)
  obtain ⟨o,h1,h2,_⟩:=p
  exact PySem.W.kia_one PySem.W.kitx_tuple I.kIn ⟨o,h1,h2⟩ e (fun z=>nomatch z) h
 | @dK a kvs ea =>
  cases (show u=Value.ref a from rx)
  obtain ⟨_,_,vs,_,p⟩:=(show ObjOk X.prog X.w H s.heap a (.dK kvs) from I.hok a _ ea)
  obtain ⟨o,es,ep,h1,h2,_⟩:=p
  exact PySem.W.kia_one PySem.W.kitx_dict I.kIn ⟨o,h1,h2.1⟩ e (fun z=>nomatch z) h
 | @frzD a ob kvs ea =>
  cases (show u=Value.ref a from rx)
  obtain ⟨_,_,vs,_,p⟩:=(show ObjOk X.prog X.w H s.heap a (.frz ob (.dK kvs)) from I.hok a _ ea).2
  obtain ⟨o,es,ep,h1,h2,_⟩:=p
  exact PySem.W.kia_one PySem.W.kitx_dict I.kIn ⟨o,h1,h2.1⟩ e (fun z=>nomatch z) h
 | @dT a kvs ea =>
  cases (show u=Value.ref a from rx)
  obtain ⟨_,_,xs,_,o,es,ep,h1,h2,_⟩:=(show ObjOk X.prog X.w H s.heap a (.dT kvs) from I.hok a _ ea)
  exact PySem.W.kia_one PySem.W.kitx_dict I.kIn ⟨o,h1,h2.1⟩ e (fun z=>nomatch z) h
 | @ins a C dx fs ea cl ha hn htk hm =>
  cases (show u=Value.ref a from rx)
  obtain ⟨mA,O,_⟩:=DZ I.hok ea
  obtain ⟨od,J,_⟩:=O.look
  exact PySem.W.kia_one (PySem.W.kitx_own (cl.get _) cl.hd ha hn htk hm) I.kIn J e (fun z=>nomatch z) h
end
end L2
namespace L2
open PySem PySem.Spec PyProof.Rows
structure Room (k:Nat) (A:Around):Prop where
 hd:A.handled=none
 dp:A.depth+3*k+5<recursionLimit
 un:A.units+16*k+200<cLine
theorem Room.mono {j k:Nat} {A:Around} (r:Room k A) (h:j<=k):Room j A:=⟨r.hd,by have:=r.dp;omega,by have:=r.un;omega⟩
theorem Room.deeper {k:Nat} {A:Around} (r:Room (k+1) A) (env:Env):Room k (A.deeper env) :=
 ⟨r.hd,by have:=r.dp;show A.depth+1+3*k+5<_;omega,by have:=r.un;show A.units+3+16*k+200<_;omega⟩
theorem Room.in1 {k:Nat} {A:Around} (r:Room (k+1) A):Room k A.in1 :=
 ⟨r.hd,by have:=r.dp;show A.depth+3*k+5<_;omega,by have:=r.un;show A.units+1+16*k+200<_;omega⟩
theorem Cd {A:Around} {C:Addr} {us:List Value} {kw:List (Str×Value)}:(A.under (.builtin "type.__call__" ⟨.ref C::us,kw⟩)).depth=A.depth+1:=by
 first | rfl | simp [Around.under,Code.weight,Code.isCreation,Code.isGuard,Code.isCaller,Code.frames,Code.isFrame,guardIds]
theorem Ce {A:Around} {C:Addr} {us:List Value} {kw:List (Str×Value)}:(A.under (.builtin "type.__call__" ⟨.ref C::us,kw⟩)).units=A.units+1:=by
 first | rfl | simp [Around.under,Code.cUnits,Code.frames,Code.isFrame]
theorem Room.make {k:Nat} {A:Around} (r:Room (k+1) A) (C:Addr) (us:List Value) (kw:List (Str×Value)):Room k (A.under (.builtin "type.__call__" ⟨.ref C::us,kw⟩)) :=
 ⟨r.hd,by have:=r.dp;rw [Cd];omega,by have:=r.un;rw [Ce];omega⟩
theorem Room.depth {k:Nat} {A:Around} (r:Room k A):A.depth<recursionLimit:=by have:=r.dp;omega
theorem Room.units {k:Nat} {A:Around} (r:Room k A):A.units+64<cLine:=by have:=r.un;omega
def J7:TA:=fun _ H Q=>Q [] H
def Qy (ta:TE) (tr:TA):TA:=fun σ H Q=>ta σ H fun x H1=>tr σ H1 fun xs H2=>Q (x::xs) H2
section
variable {X:Cx} {e:Expr} {es:List Expr} {te:TE} {t:TA} {pos:Pos}
theorem Qt:PA X [] J7:=fun _ _ _ _ H Q I h=>Calls.spliced_nil ⟨[],H,I,.nil,h⟩
theorem Qh (ha:PE X e te) (hr:PA X es t) (hs:starEach (e::es) X.env=(false,eval e X.env)::starEach es X.env:=by rfl):PA X (e::es) (Qy te t):=by
 intro pos pins s σ H Q I h
 rw [hs]
 show wpAny _ _ (spliced ((false,eval e X.env)::backTo pos (starEach es X.env))) _ _ s
 refine Calls.spliced_cons (QL (ha pins s σ H _ I h) fun u s1 ⟨x,H1,I1,r1,q1⟩=>?_)
 exact QL (hr pos pins s1 σ H1 _ I1 q1) <| by rintro us s2 ⟨xs,H2,I2,r2,q2⟩;exact ⟨x::xs,H2,I2,.cons r1 r2,q2⟩
def Si (t:TA):TE:=fun σ H Q=>t σ H fun xs H1=>xs.length<=sizeLine/\∀ p,H1 p=none->Q (.ref p) (upd H1 p (.tup xs))
def XI (t:TA):TE:=fun σ H Q=>t σ H fun xs H1=>xs.length<=sizeLine/\∀ p,H1 p=none->Q (.ref p) (upd H1 p (.lst xs))
theorem SA {x1} (h:PA X es t):PE X (.Tuple es x1 pos) (Si t):=by
 intro pins s σ H Q I hq
 refine wpAny_Tuple_spliced (QL (h pos pins s σ H _ I hq) fun us s1 ⟨xs,H1,I1,r,z,q⟩=>⟨by rw [<- r.length];exact z,?_⟩)
 have hf:H1 s1.heap.objs.size=none:=I1.hok.fresh (Nat.le_refl _)
 refine ⟨.ref s1.heap.objs.size,upd H1 s1.heap.objs.size (.tup xs),I1.laid (t':=s1.toks) (fun b u e=>Heap.get?_push_of_some _ e) (Nat.le_refl _) ?_,rfl,q _ hf⟩
 exact ⟨z,us,r,⟨_,Heap.get?_push_size _ rfl,rfl,_,rfl⟩⟩
theorem WM (h:PA X es t):PE X (.List es pos) (XI t):=by
 intro pins s σ H Q I hq
 refine wpAny_List_spliced (QL (h pos pins s σ H _ I hq) fun us s1 ⟨xs,H1,I1,r,z,q⟩=>⟨by rw [<- r.length];exact z,?_⟩)
 have hf:H1 s1.heap.objs.size=none:=I1.hok.fresh (Nat.le_refl _)
 refine ⟨.ref s1.heap.objs.size,upd H1 s1.heap.objs.size (.lst xs),I1.laid (t':=s1.toks) (fun b u e=>Heap.get?_push_of_some _ e) (Nat.le_refl _) ?_,rfl,q _ hf⟩
 exact ⟨z,us,0,r,Heap.get?_push_size _ rfl⟩
end
abbrev Sp:=List V->Hp->VK->XK->Prop
abbrev ZF:=List Env->Hp->Shared->XK->Value->Shared->Prop
structure Env0 (P:Program) (w:World) (K:PySem.W.Frag) (mg:Str->Option Value) (base:Heap) (A:Around) (outer:List Env) (s:Shared) (H:Hp):Prop where
 frames:A.frames=some outer
 mod:Mod K mg base
 bs:∀ b o,base.get? b=some o->s.heap.get? b=some o/\H b=none
 bsz:base.objs.size<=s.heap.objs.size
 funs:s.heap.FunFrames base outer
 frf:∀ b∈JH outer,H b=none
 hok:HOk P w H s.heap
 bare:AllBare s.gens
def CE (outer:List Env) (P:Program) (w:World) (H:Hp) (s:Shared) (Q:VK) (u:Value) (s':Shared):Prop :=
 ∃ v H',s'.os=s.os/\AllBare s'.gens/\Un (JH outer) [] H H' s.heap s'.heap/\HOk P w H' s'.heap/\RelV v u/\Q v H'
def CR (CX:ZF) (outer:List Env) (P:Program) (w:World) (H:Hp) (s:Shared) (Q:VK) (E:XK) (r:Result) (s':Shared):Prop :=
 match r with
 | .ok (.ret u)=>CE outer P w H s Q u s'
 | .ok _=>False
 | .error e=>CX outer H s E e s'
structure FnOk (P:Program) (w:World) (K:PySem.W.Frag) (mg:Str->Option Value) (base:Heap) (CX:ZF) (k:Nat) (f:Addr) (fd:FuncData) (ps:List Str) (sp:Sp):Prop where
 len:∀ vs H Q E,sp vs H Q E->vs.length=ps.length
 run:∀ (A:Around) (outer:List Env) (s:Shared) (H:Hp) (args:Args) (us:List Value) (vs:List V) (Q:VK) (E:XK),Room k A->Env0 P w K mg base A outer s H->BindsTo s fd args (ps.zip us)->Vals vs us->sp vs H Q E ->
  codeAny (model P w) A (.call (.ref f) args) (CR CX outer P w H s Q E) s
theorem FnOk.mono {P:Program} {w:World} {K:PySem.W.Frag} {mg:Str->Option Value} {base:Heap} {CX:ZF} {j k:Nat} {f:Addr} {fd:FuncData} {ps:List Str} {sp:Sp} (F:FnOk P w K mg base CX j f fd ps sp) (h:j<=k) :
  FnOk P w K mg base CX k f fd ps sp:=⟨F.len,fun A outer s H args us vs Q E hr=>F.run A outer s H args us vs Q E (hr.mono h)⟩
theorem FnOk.imp {P:Program} {w:World} {K:PySem.W.Frag} {mg:Str->Option Value} {base:Heap} {CX:ZF} {k:Nat} {f:Addr} {fd:FuncData} {ps:List Str} {sp sp':Sp} (F:FnOk P w K mg base CX k f fd ps sp)
  (h:∀ vs H Q E,sp' vs H Q E->sp vs H Q E):FnOk P w K mg base CX k f fd ps sp' :=
 ⟨fun vs H Q E q=>F.len vs H Q E (h _ _ _ _ q),fun A outer s H args us vs Q E hr he hb hv hs=>F.run A outer s H args us vs Q E hr he hb hv (h _ _ _ _ hs)⟩
theorem Env0.make {P:Program} {w:World} {K:PySem.W.Frag} {mg:Str->Option Value} {base:Heap} {A:Around} {outer:List Env} {s:Shared} {H:Hp} (e:Env0 P w K mg base A outer s H) (C:Addr) (us:List Value) (kw:List (Str×Value)) :
  Env0 P w K mg base (A.under (.builtin "type.__call__" ⟨.ref C::us,kw⟩)) outer s H:=⟨by first | exact e.frames | (simpa [Around.under,Code.envs,Code.isFrame,pushEnvs] using e.frames),e.mod,e.bs,e.bsz,e.funs,e.frf,e.hok,e.bare⟩
theorem Env0.in1 {P:Program} {w:World} {K:PySem.W.Frag} {mg:Str->Option Value} {base:Heap} {A:Around} {outer:List Env} {s:Shared} {H:Hp} (e:Env0 P w K mg base A outer s H) :
  Env0 P w K mg base A.in1 outer s H:=⟨e.frames,e.mod,e.bs,e.bsz,e.funs,e.frf,e.hok,e.bare⟩
section
variable {X:Cx} {pins:List (Addr×Obj)} {σ:St} {H:Hp} {s s':Shared}
theorem Inv.env0 (I:Inv X pins σ H s):Env0 X.prog X.w X.K X.mg X.base X.A X.stack s H :=
 ⟨I.ok.frames,I.ok.mod,I.bs,Nat.le_trans I.ok.bsz I.sz,I.stack,I.stkFree,I.hok,I.bare⟩
theorem Inv.after {Q:VK} {u:Value} (I:Inv X pins σ H s) (h:CE X.stack X.prog X.w H s Q u s'):EP X pins σ Q u s':=by
 obtain ⟨v,H',os,bare,un,hok,r,q⟩:=h
 obtain ⟨hh,g,d,t,os'⟩:=s'
 obtain rfl:os'=s.os:=os
 exact ⟨v,H',I.call (h':=hh) (g':=g) (d':=d) (t':=t) (ch:=[]) un hok bare (fun b z=>absurd z (by simp)),r,q⟩
end
def Zl (sp:Sp) (dvs:List V) (E:XK) (t:TA):TE:=fun σ H Q=>t σ H fun vs H1=>sp (vs++dvs) H1 Q E
def Binds (K:PySem.W.Frag) (fd:FuncData) (ps:List Str) (ds:List Value):Prop :=
 ∀ (s:Shared) (us:List Value),K.In s.heap->(us++ds).length=ps.length->BindsTo s fd ⟨us,[]⟩ (ps.zip (us++ds))
theorem Binds.all {K:PySem.W.Frag} {fd:FuncData} {ps:List Str} (h:∀ us:List Value,us.length=ps.length->bindArgs fd ⟨us,[]⟩=pure (ps.zip us)):Binds K fd ps []:=fun s us _ hl=>by
 rw [List.append_nil] at hl ⊢
 exact .of_eq (h us hl)
def RJ (CX:ZF) (X:Cx) (E:XK):Prop:=∀ (pins:List (Addr×Obj)) (σ:St) (H:Hp) (s:Shared) (e:Value) (s':Shared),Inv X pins σ H s->CX X.stack H s E e s'->X.xe e s'
section
variable {X:Cx} {CX:ZF} {k:Nat} {f C:Addr} {fd:FuncData} {ps:List Str} {sp:Sp} {dvs:List V} {ds:List Value} {E:XK} {x m:Str} {p pos apos:Pos} {e o:Expr} {es:List Expr} {ta:TE} {t:TA}
theorem QaJ {pins:List (Addr×Obj)} {σ:St} {H:Hp} {s:Shared} {Q:VK} {us:List Value} {vs:List V} (F:FnOk X.prog X.w X.K X.mg X.base CX k f fd ps sp) (hr:Room k X.A) (hb:Binds X.K fd ps ds) (hd:Vals dvs ds) (hx:RJ CX X E)
  (I:Inv X pins σ H s) (r:Vals vs us) (h:sp (vs++dvs) H Q E):wpAny (model X.prog X.w) X.A (call (.ref f) us) (EP X pins σ Q) X.xe s:=by
 have r2:Vals (vs++dvs) (us++ds):=r.append hd
 have hl:(us++ds).length=ps.length:=by rw [<- r2.length];exact F.len _ _ _ _ h
 refine wpAny_call (codeAny_mono (F.run X.A X.stack s H ⟨us,[]⟩ (us++ds) (vs++dvs) Q E hr I.env0 (hb s us I.kIn hl) r2 h) fun r s' hq=>?_)
 cases r with
 | error e=>exact hx pins σ H s e s' I hq
 | ok fl =>
  cases fl with
  | ret u=>exact I.after hq
  | next=>exact False.elim hq
  | brk=>exact False.elim hq
  | cont=>exact False.elim hq
theorem Ie (F:FnOk X.prog X.w X.K X.mg X.base CX k f fd ps sp) (hr:Room k X.A) (hg:Gl X x) (hm:X.mg x=some (.ref f)) (hk:PySem.W.keepIn X.K (.ref f)=true) (hb:Binds X.K fd ps ds) (hd:Vals dvs ds) (hx:RJ CX X E)
  (ha:PA X (e::es) t) (hdb:(x==("__debug__":Str))=false:=by decide) (he:starEach (e::es) X.env=(false,eval e X.env)::starEach es X.env:=by rfl) (hpl:(backTo pos (starEach es X.env)).any (·.1)=false:=by rfl) :
  PE X (.Call (.Name x p) (e::es) [] pos) (Zl sp dvs E t):=by
 intro pins s σ H Q I h
 refine wpAny_Call_Name_kw (Xu I hg hm ?_ hdb)
 refine PySem.W.callWith_K (h₀:=X.base) I.ok.mod.kin hk (QL (ha pos pins s σ H _ I h) fun us s1 ⟨vs,H1,I1,r,q⟩=>⟨I1.kIn,?_⟩) he hpl
 exact QaJ F hr hb hd hx I1 r q
end
section
variable {X:Cx} {CX:ZF} {k:Nat} {f C:Addr} {fd:FuncData} {ps ks:List Str} {sp:Sp} {E:XK} {x m:Str} {p pos apos kpos:Pos} {e o:Expr} {es:List Expr} {kws:List Keyword} {te ta:TE} {t tk:TA} {nm:Option Str}
variable {g:List Value->List Value->List Value} {gV:List V->List V->List V}
end
structure FnScope (N P:List Str) (sc:Scope):Prop where
 kind:sc.kind=.function
 co:sc.isCoroutine=false
 gen:sc.isGenerator=false
 nd:N.Nodup
 pre:N.take P.length=P
 par:∀ x∈P,sc.names.lookup x=some .local\/sc.names.lookup x=some .cell
 nofree:∀ y∈sc.names,y.2≠.free
theorem LF {kindOf:Str->Option NameKind} {x:Str}:∀ {binds:List (Str×Value)} {m:Str->Option Value},(∀ v,(x,v)∉binds)->bindL kindOf binds m x=m x
 | [],_,_=>rfl
 | (n,v)::r,m,h=>by
  unfold bindL
  rw [LF fun w hw=>h w (List.mem_cons_of_mem _ hw)]
  split
  ·have:x≠n:=by rintro rfl;exact h v List.mem_cons_self
   simp [this]
  ·rfl
theorem LC {kindOf:Str->Option NameKind} {x:Str}:∀ {binds:List (Str×Value)} {m:Str->Option Value},(∀ v,(x,v)∉binds)->bindC kindOf binds m x=m x
 | [],_,_=>rfl
 | (n,v)::r,m,h=>by
  unfold bindC
  rw [LC fun w hw=>h w (List.mem_cons_of_mem _ hw)]
  split
  ·rfl
  ·have:x≠n:=by rintro rfl;exact h v List.mem_cons_self
   simp [this]
theorem LD {kindOf:Str->Option NameKind} {x:Str} {v:Value}:∀ {P:List Str} {vs:List Value} {i:Nat} {m:Str->Option Value},P.Nodup->P[i]?=some x->vs[i]?=some v->kindOf x=some .local ->
  bindL kindOf (P.zip vs) m x=some v
 | [],_,_,_,_,h,_,_=>by simp at h
 | _::_,[],_,_,_,_,h,_=>by simp at h
 | p::P,w::vs,0,m,nd,h1,h2,hk=>by
  simp at h1 h2;subst h1;subst h2
  show bindL kindOf ((p,w)::P.zip vs) m p=_
  unfold bindL
  rw [LF fun v hv=>(List.nodup_cons.mp nd).1 (List.of_mem_zip hv).1,if_pos hk]
  simp
 | p::P,w::vs,i+1,m,nd,h1,h2,hk=>by
  show bindL kindOf ((p,w)::P.zip vs) m x=_
  unfold bindL
  exact LD (i:=i) (List.nodup_cons.mp nd).2 (by simpa using h1) (by simpa using h2) hk
theorem LB {kindOf:Str->Option NameKind} {x:Str} {v:Value}:∀ {P:List Str} {vs:List Value} {i:Nat} {m:Str->Option Value},P.Nodup->P[i]?=some x->vs[i]?=some v->kindOf x≠some .local ->
  bindC kindOf (P.zip vs) m x=some v
 | [],_,_,_,_,h,_,_=>by simp at h
 | _::_,[],_,_,_,_,h,_=>by simp at h
 | p::P,w::vs,0,m,nd,h1,h2,hk=>by
  simp at h1 h2;subst h1;subst h2
  show bindC kindOf ((p,w)::P.zip vs) m p=_
  unfold bindC
  rw [LC fun v hv=>(List.nodup_cons.mp nd).1 (List.of_mem_zip hv).1,if_neg hk]
  simp
 | p::P,w::vs,i+1,m,nd,h1,h2,hk=>by
  show bindC kindOf ((p,w)::P.zip vs) m x=_
  unfold bindC
  exact LB (i:=i) (List.nodup_cons.mp nd).2 (by simpa using h1) (by simpa using h2) hk
def start (N:List Str) (vs:List V):St:=vs.map some++List.replicate (N.length-vs.length) none
def Qn (CX:ZF) (P:Program) (w:World) (K:PySem.W.Frag) (mg:Str->Option Value) (base:Heap) (N:List Str) (qual:Str) (scope:Scope) (f:Addr) (cd:Value) (A:Around) (outer:List Env) (s:Shared) (H:Hp) (E:XK):Cx where
 prog:=P
 w:=w
 K:=K
 mg:=mg
 base:=base
 A:=A.deeper (envOfC qual scope s.heap.objs.size f cd)
 N:=N
 s₀:=s
 H₀:=H
 env:=envOfC qual scope s.heap.objs.size f cd
 outer:=outer
 stack:=envOfC qual scope s.heap.objs.size f cd::outer
 ex:=[]
 calm:=true
 fn:=fun _=>true
 pn:=[]
 xe:=fun e s'=>wpAny (model P w) (A.deeper (envOfC qual scope s.heap.objs.size f cd)) (leaving (envOfC qual scope s.heap.objs.size f cd) e) (fun _ s''=>CX outer H s E e s'') (fun e' s''=>CX outer H s E e' s'') s'
theorem LQ {sc:Scope} {n:Nat} {x:Str} (h:sc.names.lookup x=some .cell):∃ c,(cellsFrom n sc.names []).lookup x=some c:=by
 have q:=PySem.W.cellsFrom_some sc.names n [] (.inl h)
 exact Option.isSome_iff_exists.mp q
theorem Dg {CX:ZF} {P:Program} {w:World} {K:PySem.W.Frag} {mg:Str->Option Value} {base:Heap} {N ps:List Str} {qual:Str} {scope:Scope} {f:Addr} {cd:Value} {A:Around} {outer:List Env} {s s1:Shared} {H:Hp} {E:XK} {us:List Value} {vs:List V}
  (S:FnScope N ps scope) (hd:A.handled=none) (e0:Env0 P w K mg base A outer s H) (hl:vs.length=ps.length) (r:Vals vs us)
  (x:InCallC s s.heap.objs.size (bindL (envOfC qual scope s.heap.objs.size f cd).kindOf (ps.zip us) fun _=>none) (cellsFrom (s.heap.objs.size+1) scope.names []) (bindC (envOfC qual scope s.heap.objs.size f cd).kindOf (ps.zip us) fun _=>none) s1) :
  Inv (Qn CX P w K mg base N qual scope f cd A outer s H E) [] (start N vs) H s1:=by
 have hpl:ps.length<=N.length:=by have:=congrArg List.length S.pre;rw [List.length_take] at this;omega
 obtain ⟨h1,tk,rfl,hk⟩:=x.done
 have noA:∀ b:Addr,b∉(Qn CX P w K mg base N qual scope f cd A outer s H E).ex:=fun b z=>absurd (show b∈([]:List Addr) from z) (by simp)
 refine ⟨⟨e0.mod,S.kind,rfl,rfl,Nat.le_refl _,fun y z c h1 h2=>?_,fun y hy=>?_,fun y c _ h=>?_,fun _=>hd,Around.frames_deeper e0.frames,.inr ⟨rfl,rfl⟩,fun b z=>absurd z (noA b),e0.bs,e0.bsz,fun b _ _=>noA b,fun b z=>absurd z (noA b),e0.funs,e0.frf⟩,
  rfl,e0.bare,Un.kept hk,⟨_,x.toInCall.ns,fun i y v h1 h2 h3=>?_⟩,fun y c h=>⟨_,x.cell y c h⟩,e0.hok.fresh (Nat.le_refl _),fun y c h=>?_,fun p hp=>absurd (show p∈([]:List (Addr×Obj)) from hp) (by simp),e0.hok.kept hk,?_⟩
 ·exact name_of_addr x.apart (PySem.mem_of_lookup h1) (PySem.mem_of_lookup h2)
 ·have hy:scope.names.lookup y=some .cell\/scope.names.lookup y=some .free:=hy
  rcases hy with hy | hy
  ·exact LQ hy
  ·exact absurd rfl (S.nofree _ (PySem.mem_of_lookup hy))
 ·exact Nat.le_of_lt (x.above y c (PySem.mem_of_lookup h))
 ·have hi:i<vs.length:=by
   unfold start at h2
   by_cases hi:i<vs.length
   ·exact hi
   ·rw [List.getElem?_append_right (by simpa using hi)] at h2
    rw [List.getElem?_replicate] at h2
    split at h2<;>cases h2
  have ha:vs[i]?=some v:=by
   unfold start at h2
   rw [List.getElem?_append_left (by simpa using hi),List.getElem?_map] at h2
   cases e:vs[i]? with
   | none=>rw [e] at h2;cases h2
   | some a=>rw [e] at h2;cases h2;rfl
  obtain ⟨u,hu,rv⟩:=r.get ha
  have hp:ps[i]?=some y:=by
   rw [<- S.pre,List.getElem?_take_of_lt (by omega)];exact h1
  have ndP:ps.Nodup:=by rw [<- S.pre];exact S.nd.sublist (List.take_sublist _ _)
  refine ⟨u,rv,?_⟩
  rcases S.par y (List.mem_of_getElem? hp) with k | k
  ·exact .inl ⟨k,LD ndP hp hu k⟩
  ·obtain ⟨c,e⟩:=LQ (n:=s.heap.objs.size+1) k
   refine .inr ⟨.inl k,c,e,?_⟩
   have q:=x.cell y c e
   rw [LB ndP hp hu (by show scope.names.lookup y≠_;rw [k];decide)] at q
   exact q
 ·exact e0.hok.fresh (Nat.le_of_lt (x.above y c (PySem.mem_of_lookup h)))
 ·unfold start
  show _=N.length
  rw [List.length_append,List.length_map,List.length_replicate]
  omega
theorem K9 {CX:ZF} {P:Program} {w:World} {K:PySem.W.Frag} {mg:Str->Option Value} {base:Heap} {k:Nat} {f:Addr} {name qual:Str} {params:Arguments} {body:List Stmt} {scope:Scope} {dV kV doc pm cdv ct oc:Value} {an od:Option Addr}
  {osl:Array (Option Value)} {N ps:List Str} {sp:Sp} (lk:K.lookup f=some ⟨oc,od,.func (PySem.W.fnOf name qual params body scope dV kV doc pm an cdv ct),osl⟩) (hcd:PySem.W.codeIn K cdv qual=true) (S:FnScope N ps scope)
  (len:∀ vs H Q E,sp vs H Q E->vs.length=ps.length)
  (hbody:∀ (A:Around) (outer:List Env) (s:Shared) (H:Hp) (vs:List V) (Q:VK) (E:XK),Room k (A.deeper (envOfC qual scope s.heap.objs.size f cdv))->sp vs H Q E ->
   ∃ t,PSs (Qn CX P w K mg base N qual scope f cdv A outer s H E) body t/\t { nx:=fun _ H'=>Q .non H',rt:=Q } (start N vs) H) :
  FnOk P w K mg base CX (k+1) f (PySem.W.fnOf name qual params body scope dV kV doc pm an cdv ct) ps sp:=by
 refine ⟨len,fun A outer s H args us vs Q E hr e0 hb r hsp=>?_⟩
 have hl:=len _ _ _ _ hsp
 have KX:K.In s.heap:=e0.mod.kin.keeps fun b o e=>(e0.bs b o e).1
 have lim:s.heap.NoLimit:=e0.mod.nolimit.keeps fun b o e=>(e0.bs b o e).1
 have hkind:∀ y∈ps.zip us,scope.names.lookup y.1=some .local\/(scope.names.lookup y.1=some .cell/\((cellsFrom (s.heap.objs.size+1) scope.names []).lookup y.1).isSome=true):=by
  rintro ⟨n,v⟩ hy
  rcases S.par n (List.of_mem_zip hy).1 with q | q
  ·exact .inl q
  ·exact .inr ⟨q,PySem.W.cellsFrom_some _ _ _ (.inl q)⟩
 refine codeAny_call_function hr.depth (KX _ _ lk) rfl S.co S.gen rfl (PySem.W.codeRec_of KX hcd) (hb _ _ _ _ ?_)
 refine wpAny_newFunctionEnv_cells S.kind hkind fun env he s1 x=>?_
 subst he
 refine ⟨lim.keeps x.toInCall.keep,codeAny_func ?_⟩
 obtain ⟨t,ht,hq⟩:=hbody A outer s H vs Q E (hr.deeper _) hsp
 have I:Inv (Qn CX P w K mg base N qual scope f cdv A outer s H E) [] (start N vs) H s1:=Dg S hr.hd e0 hl r x
 refine wpAny_mono (ht [] s1 (start N vs) H _ I hq) (fun fl s' hs=>?_) fun e s' hs=>hs
 have fin:∀ {σ':St} {H':Hp} {v:V} {u:Value},Inv (Qn CX P w K mg base N qual scope f cdv A outer s H E) [] σ' H' s'->RelV v u->Q v H'->CE outer P w H s Q u s' :=
  fun {σ' H' v u} J rv q=>⟨v,H',J.os,J.bare,J.base,J.hok,rv,q⟩
 cases fl with
 | ret u =>
  obtain ⟨v,σ',H',J,rv,q⟩:=hs
  exact fin J rv q
 | next =>
  obtain ⟨σ',H',J,q⟩:=hs
  exact fin (v:=V.non) (u:=Value.none) J rfl q
 | brk =>
  obtain ⟨_,_,_,q⟩:=hs
  exact False.elim q
 | cont =>
  obtain ⟨_,_,_,q⟩:=hs
  exact False.elim q
end L2
namespace L2
open PySem PySem.Spec PyProof.Rows
section
variable {X:Cx} {x:Str} {p pos:Pos} {e:Expr} {es:List Expr} {t:TA} {id T:String} {r:List V->Hp->VK->Prop}
def Ow (r:List V->Hp->VK->Prop) (t:TA):TE:=fun σ H Q=>t σ H fun vs H1=>r vs H1 Q
theorem UO (hc:CallR X (.builtin id) r) (hg:Gl X x) (hm:X.mg x=none) (hv:bootBuiltins x=some (.builtin id)) (ha:PA X (e::es) t) (hn:x≠"__name__":=by decide) (hdb:(x==("__debug__":Str))=false:=by decide)
  (he:starEach (e::es) X.env=(false,eval e X.env)::starEach es X.env:=by rfl) (hpl:(backTo pos (starEach es X.env)).any (·.1)=false:=by rfl):PE X (.Call (.Name x p) (e::es) [] pos) (Ow r t):=by
 intro pins s σ H Q I h
 refine wpAny_Call_Name_kw (Xs I hg hm hv ?_ hn hdb)
 exact PyProof.Rows.callWith_builtin1 (QL (ha pos pins s σ H _ I h) fun us s1 ⟨vs,H1,I1,r1,q1⟩=>hc pins s1 σ H1 vs us Q I1 r1 q1) he hpl
theorem Ig (hc:CallR X (.type T) r) (hg:Gl X x) (hm:X.mg x=none) (hv:bootBuiltins x=some (.type T)) (ha:PA X (e::es) t) (hn:x≠"__name__":=by decide) (hdb:(x==("__debug__":Str))=false:=by decide)
  (he:starEach (e::es) X.env=(false,eval e X.env)::starEach es X.env:=by rfl) (hpl:(backTo pos (starEach es X.env)).any (·.1)=false:=by rfl):PE X (.Call (.Name x p) (e::es) [] pos) (Ow r t):=by
 intro pins s σ H Q I h
 refine wpAny_Call_Name_kw (Xs I hg hm hv ?_ hn hdb)
 exact PyProof.Rows.callWith_type1 (QL (ha pos pins s σ H _ I h) fun us s1 ⟨vs,H1,I1,r1,q1⟩=>hc pins s1 σ H1 vs us Q I1 r1 q1) he hpl
end
end L2
namespace HT
open PySem PyProof.Rows
section
open PySem.SeqAt
open PySem.AutoSeq1 (wpAny_loadPart')
open PySem.MeetsSeq PySem.MeetsSeq2 PySem.MeetsSeq3
end
section
variable {prog:Program} {w:World} {A:Around} {E:Value->Shared->Prop} {s:Shared}
theorem cat_tup {t b:Addr} {vs ws:List Value} {Q:Value->Shared->Prop} (ht:IsTup s.heap t vs.toArray) (hb:IsTup s.heap b ws.toArray) (hv:vs≠[])
  (h1:ws=[]->Q (.ref t) s) (h2:ws≠[]->Q (.ref s.heap.objs.size) { s with heap:=s.heap.push { cls:=.type "tuple",data:=.seq (vs++ws).toArray } })
  (hsz:vs.length+ws.length<=sizeLine):wpAny (model prog w) A (binaryOp .Add (.ref t) (.ref b)) Q E s:=by
 obtain ⟨⟨cls,dd,data,sl⟩,ho,hc,n,hd⟩:=id ht
 obtain ⟨⟨cls2,dd2,data2,sl2⟩,ho2,hc2,n2,hd2⟩:=id hb
 simp only at hc hd hc2 hd2
 subst hc hd hc2 hd2
 have e:vs.toArray++ws.toArray=(vs++ws).toArray:=by simp
 by_cases hw:ws=[]
 ·exact concat_meets ⟨_,ho,rfl⟩ ⟨_,ho2,rfl⟩ noFill_tuple_add seq_tuple_add PySem.F.slot_tuple_add PySem.F.entry_tuple_add (PySem.F.args_tuple_add_2 _ _)
   (tuple_addW1 t b vs.toArray ws.toArray n n2 dd dd2 sl sl2 (by simpa using hv) (by simp [hw])) ⟨ho,ho2,h1 hw⟩
 ·refine concat_meets ⟨_,ho,rfl⟩ ⟨_,ho2,rfl⟩ noFill_tuple_add seq_tuple_add PySem.F.slot_tuple_add PySem.F.entry_tuple_add (PySem.F.args_tuple_add_2 _ _)
   (tuple_addW2 t b vs.toArray ws.toArray n n2 dd dd2 sl sl2 (by simpa using hv) (by simpa using hw) (by rw [List.size_toArray,List.size_toArray];exact hsz)) ⟨ho,ho2,?_⟩
  rw [e]
  exact h2 hw
def sIx (n d:Nat):Option Int->Nat
 | none=>d
 | some v=>if v<0 then (v+(n:Int)).toNat else min v.toNat n
theorem QaM (n d:Nat) (hd:d<=n) (o:Option Int):sIx n d o<=n:=by
 cases o with
 | none=>exact hd
 | some v =>
  show (if v<0 then (v+(n:Int)).toNat else min v.toNat n)<=n
  by_cases hv:v<0
  ·rw [if_pos hv];omega
  ·rw [if_neg hv];exact Nat.min_le_right _ _
theorem minN (k n:Nat):min (k:Int) (n:Int)=((min k n:Nat):Int):=by
 rcases Nat.le_total k n with q | q
 ·rw [Nat.min_eq_left q,Int.min_eq_left (Int.ofNat_le.mpr q)]
 ·rw [Nat.min_eq_right q,Int.min_eq_right (Int.ofNat_le.mpr q)]
theorem LU (v:Int) (n d:Nat):(if v<0 then max (v+(n:Int)) 0 else min v (n:Int))=((sIx n d (some v):Nat):Int):=by
 show (if v<0 then max (v+(n:Int)) 0 else min v (n:Int))=(((if v<0 then (v+(n:Int)).toNat else min v.toNat n):Nat):Int)
 by_cases hv:v<0
 ·rw [if_pos hv,if_pos hv,Int.ofNat_toNat]
 ·obtain ⟨k,rfl⟩:=Int.eq_ofNat_of_zero_le (Int.not_lt.mp hv)
  rw [if_neg hv,if_neg hv,Int.toNat_natCast,minN]
theorem GN (lo hi:Option Int) (n:Nat):Builtin.Slice.sliceAdjust lo hi 1 (n:Int)=(((sIx n 0 lo:Nat):Int),((sIx n n hi:Nat):Int)):=by
 have h1:¬ ((1:Int)<0):=by omega
 unfold Builtin.Slice.sliceAdjust
 simp only [h1,if_false]
 refine Prod.ext ?_ ?_
 ·cases lo with
  | none=>rfl
  | some v=>exact LU v n 0
 ·cases hi with
  | none=>rfl
  | some v=>exact LU v n n
theorem Ax (i j:Nat):Builtin.Slice.slicePlaces (i:Int) (j:Int) 1=j-i:=by
 unfold Builtin.Slice.slicePlaces
 have h1:(1:Int) > 0:=by decide
 simp only [h1,if_true,Int.ediv_one]
 split
 ·rw [Int.sub_add_cancel,Int.toNat_sub]
 ·exact (Nat.sub_eq_zero_of_le (Int.ofNat_le.mp (Int.not_lt.mp ‹_›))).symm
theorem HX {v:Value} {o:Option Int} {Q:Option Int->Shared->Prop} (p:IsPart v o) (h:Q o s):wpAny (model prog w) A (Builtin.Slice.slicePartIndex v) Q E s:=by
 cases p with
 | none=>exact slicePart_none h
 | int i t=>exact slicePart_int h
theorem QbC {sl:Addr} {vl vu:Value} {lo hi:Option Int} {n:Nat} {Q:Int×Int×Nat->Shared->Prop} (hs:s.heap.IsSliceOf sl vl vu .none) (pl:IsPart vl lo) (pu:IsPart vu hi)
  (h:Q (((sIx n 0 lo:Nat):Int),1,sIx n n hi-sIx n 0 lo) s):wpAny (model prog w) A (Builtin.Slice.sliceApplied (.ref sl) (pure (n:Int))) Q E s:=by
 obtain ⟨os,hos,hcs,hds⟩:=id hs
 unfold Builtin.Slice.sliceApplied Builtin.Slice.sliceFields
 refine wpAny_bind (wpAny_bind (wpAny_field hos hds (x:=vl) rfl (wpAny_bind (wpAny_field hos hds (x:=vu) rfl (wpAny_bind (wpAny_field hos hds (x:=.none) rfl (wpAny_pure ?_)))))))
 refine wpAny_bind (slicePart_none ?_)
 show wpAny _ _ (if ((1:Int)==0)=true then _ else _) _ _ s
 rw [if_neg (by decide)]
 refine wpAny_bind (HX pl (wpAny_bind (HX pu (wpAny_bind (wpAny_pure ?_)))))
 show wpAny _ _ (match Builtin.Slice.sliceAdjust lo hi 1 (n:Int) with | (lo,hi)=>pure (lo,(1:Int),Builtin.Slice.slicePlaces lo hi 1)) _ _ s
 rw [GN lo hi n]
 show wpAny _ _ (pure (((sIx n 0 lo:Nat):Int),(1:Int),Builtin.Slice.slicePlaces ((sIx n 0 lo:Nat):Int) ((sIx n n hi:Nat):Int) 1)) _ _ s
 rw [Ax]
 exact wpAny_pure h
theorem Av (xs:Array Value) (i k:Nat):((List.range k).filterMap fun (m:Nat)=>xs[((i:Int)+(m:Int)*1).toNat]?).toArray=((xs.toList.drop i).take k).toArray:=by
 have e:(fun (m:Nat)=>xs[((i:Int)+(m:Int)*1).toNat]?)=fun m=>xs[i+m]?:=by
  funext m
  have:((i:Int)+(m:Int)*1).toNat=i+m:=by omega
  rw [this]
 rw [e]
 have:=pick_run xs i k
 rw [List.filterMap_map] at this
 have e2:((fun x=>xs[x]?)∘fun x=>i+x)=fun m=>xs[i+m]?:=rfl
 rw [e2] at this
 rw [this]
theorem getItem_tuple_cut {t sl:Addr} {items:Array Value} {vl vu:Value} {lo hi:Option Int} {Q:Value->Shared->Prop} (ht:IsTup s.heap t items) (hs:s.heap.IsSliceOf sl vl vu .none) (pl:IsPart vl lo) (pu:IsPart vu hi)
  (hw:¬ (sIx items.size 0 lo=0/\sIx items.size items.size hi=items.size))
  (h:Q (.ref s.heap.objs.size) { s with heap:=s.heap.push { cls:=.type "tuple",data:=.seq ((items.toList.drop (sIx items.size 0 lo)).take (sIx items.size items.size hi-sIx items.size 0 lo)).toArray } })
  (hsz:items.size<=sizeLine):wpAny (model prog w) A (getItem (.ref t) (.ref sl)) Q E s:=by
 have htake:sizeOk (.seq ((items.toList.drop (sIx items.size 0 lo)).take (sIx items.size items.size hi-sIx items.size 0 lo)).toArray):=by
  show ((items.toList.drop (sIx items.size 0 lo)).take (sIx items.size items.size hi-sIx items.size 0 lo)).toArray.size<=sizeLine
  rw [List.size_toArray,List.length_take,List.length_drop,Array.length_toList]
  omega
 have hj:sIx items.size items.size hi<=items.size:=QaM _ _ (Nat.le_refl _) hi
 obtain ⟨os,hos,hcs,hds⟩:=id hs
 have hTs:s.TypeIs (.ref sl) "slice":=⟨os,hos,hcs⟩
 unfold getItem
 try with_reducible refine wpAny_holding ?_
 first | refine wpAny_bind (wpAny_pure ?_) | skip
 refine wpAny_bind (wpAny_sequenceKey ht.typeIs (by decide) ?_)
 refine wpAny_bind (wpAny_callSpecial?_slot (name:=Str.ofString "__getitem__") ht.typeIs PyProof.Rows.slot_tuple_getitem
  (wpAny_call_entry PyProof.Rows.slot_tuple_getitem ht.typeIs entry_tuple_getitem ?_ (args_tuple_getitem _ _)))
 show wpAny _ _ (Builtin.Tuple.tupleItemsOf (.ref t) >>= _) _ _ s
 refine wpAny_bind (tupleItemsOf_ ht ?_)
 refine wpAny_bind (wpAny_typeOf hTs ?_)
 rw [if_pos (by decide)]
 refine wpAny_bind (QbC hs pl pu ?_)
 have hno:¬ ((((sIx items.size 0 lo:Nat):Int)==0&&(1:Int)==1&&(sIx items.size items.size hi-sIx items.size 0 lo)==items.size)=true):=by
  intro q
  rw [Bool.and_eq_true,Bool.and_eq_true] at q
  have q1:((sIx items.size 0 lo:Nat):Int)=0:=eq_of_beq q.1.1
  have q2:sIx items.size items.size hi-sIx items.size 0 lo=items.size:=eq_of_beq q.2
  exact hw ⟨by omega,by omega⟩
 show wpAny _ _ (if (((sIx items.size 0 lo:Nat):Int)==0&&(1:Int)==1&&(sIx items.size items.size hi-sIx items.size 0 lo)==items.size)=true then _ else _) _ _ s
 rw [if_neg hno,Av]
 first
  | exact wpAny_bind (m:=Builtin.Tuple.tupleExact _) (wpAny_newObj_type (wpAny_pure ⟨_,rfl,wpAny_pure h⟩) htake)
  | exact wpAny_bind (m:=Builtin.Tuple.tupleExact _) (wpAny_newObj_type (wpAny_bind (wpAny_pure (wpAny_pure ⟨_,rfl,wpAny_pure h⟩))) htake)
  | exact wpAny_bind (wpAny_bind (m:=Builtin.Tuple.tupleExact _) (wpAny_newObj_type (wpAny_pure (wpAny_pure ⟨_,rfl,wpAny_pure h⟩)) htake))
  | exact wpAny_bind (wpAny_bind (m:=Builtin.Tuple.tupleExact _) (wpAny_newObj_type (wpAny_pure ⟨_,rfl,wpAny_pure h⟩) htake))
end
end HT
namespace L2
open PySem PySem.Spec PyProof.Rows
abbrev TO:=St->Hp->(Option Int->Hp->Prop)->Prop
def PO (X:Cx) (e:Option Expr) (t:TO):Prop :=
 ∀ (pins:List (Addr×Obj)) (s:Shared) (σ:St) (H:Hp) (Q:Option Int->Hp->Prop),Inv X pins σ H s->t σ H Q ->
  wpAny (model X.prog X.w) X.A (evalPart e X.env) (fun u s'=>∃ o H',Inv X pins σ H' s'/\IsPart u o/\Q o H') X.xe s
def QbU:TO:=fun _ H Q=>Q none H
def QbX (t:TE):TO:=fun σ H Q=>t σ H fun x H1=>∃ i,x=.int i/\Q (some i) H1
section
variable {X:Cx} {e:Expr} {te:TE} {lo hi:Option Expr} {tl th:TO} {pos p2:Pos}
theorem Qaa:PO X none QbU:=by
 intro pins s σ H Q I h
 rw [evalPart_none]
 exact wpAny_pure ⟨none,H,I,.none,h⟩
theorem Qab (h:PE X e te):PO X (some e) (QbX te):=by
 intro pins s σ H Q I hw
 rw [evalPart_some]
 refine QL (h pins s σ H _ I hw) ?_
 rintro u s1 ⟨x,H1,I1,r1,q1⟩
 obtain ⟨i,rfl,q⟩:=q1
 obtain ⟨t,rfl⟩:=r1
 exact ⟨some i,H1,I1,.int i t,q⟩
def SlR (X:Cx) (r:V->Option Int->Option Int->Hp->VK->Prop):Prop :=
 ∀ (pins:List (Addr×Obj)) (s:Shared) (σ:St) (H:Hp) (x:V) (v vl vu:Value) (lo hi:Option Int) (sl:Addr) (Q:VK),Inv X pins σ H s->RelV x v->s.heap.IsSliceOf sl vl vu .none->IsPart vl lo->IsPart vu hi->r x lo hi H Q ->
  ∃ T id,typeLookup (.type T) "__getitem__"=pure (some (.builtin id))/\s.TypeIs v T/\wpAny (model X.prog X.w) X.A (getItem v (.ref sl)) (EP X pins σ Q) X.xe s
theorem SlR.or {r r':V->Option Int->Option Int->Hp->VK->Prop} (h:SlR X r) (h':SlR X r'):SlR X (fun x lo hi H Q=>r x lo hi H Q\/r' x lo hi H Q):=by
 intro pins s σ H x v vl vu lo hi sl Q I rx hs pl pu q
 rcases q with q | q
 ·exact h pins s σ H x v vl vu lo hi sl Q I rx hs pl pu q
 ·exact h' pins s σ H x v vl vu lo hi sl Q I rx hs pl pu q
def tSl (r:V->Option Int->Option Int->Hp->VK->Prop) (te:TE) (tl th:TO):TE:=fun σ H Q=>te σ H fun x H1=>tl σ H1 fun l H2=>th σ H2 fun u H3=>r x l u H3 Q
theorem Ao {r:V->Option Int->Option Int->Hp->VK->Prop} (hr:SlR X r) (he:PE X e te) (hl:PO X lo tl) (hu:PO X hi th):PE X (.Subscript e (.Slice lo hi none p2) pos) (tSl r te tl th):=by
 intro pins s σ H Q I h
 refine Subscript_ (QL (he pins s σ H _ I h) fun v s1 ⟨x,H1,I1,r1,q1⟩=>?_)
 refine wpAny_Slice (QL (hl pins s1 σ H1 _ I1 q1) fun vl s2 ⟨l,H2,I2,pl,q2⟩=>QL (hu pins s2 σ H2 _ I2 q2) fun vu s3 ⟨u,H3,I3,pu,q3⟩=>?_)
 rw [evalPart_none]
 refine wpAny_pure ?_
 have I4:Inv X pins σ H3 { s3 with heap:=s3.heap.push { cls:=.type "slice",data:=.fields #[vl,vu,.none] } }:=I3.kept (t':=s3.toks) fun b ob q=>Heap.get?_push_of_some _ q
 obtain ⟨T,id,hT,ht,hg⟩:=hr pins { s3 with heap:=s3.heap.push { cls:=.type "slice",data:=.fields #[vl,vu,.none] } } σ H3 x v vl vu l u s3.heap.objs.size Q I4 r1 (Heap.IsSliceOf.new ..) pl pu q3
 show wpAny (model X.prog X.w) X.A (subscriptTail e (.Slice lo hi none p2) v (.ref s3.heap.objs.size)) (EP X pins σ Q) X.xe { s3 with heap:=s3.heap.push { cls:=.type "slice",data:=.fields #[vl,vu,.none] } }
 exact tail_any (ops:=[.ref s3.heap.objs.size,v]) ht hT hg (by with_unfolding_all rfl)
def Zr (xs:List V) (lo hi:Option Int):List V:=(xs.drop (HT.sIx xs.length 0 lo)).take (HT.sIx xs.length xs.length hi-HT.sIx xs.length 0 lo)
theorem Lc (xs:List V) (lo hi:Option Int):(Zr xs lo hi).length<=xs.length:=by
 unfold Zr
 rw [List.length_take,List.length_drop]
 exact Nat.le_trans (Nat.min_le_right _ _) (Nat.sub_le _ _)
def Qar (K:PySem.W.Frag):V->Option Int->Option Int->Hp->VK->Prop:=fun x lo hi H Q=>∃ a xs,x=.ref a/\SqT K H a xs /\
 ¬ (HT.sIx xs.length 0 lo=0/\HT.sIx xs.length xs.length hi=xs.length)/\∀ p,H p=none->Q (.ref p) (upd H p (.tup (Zr xs lo hi)))
theorem QbB:SlR X (Qar X.K):=by
 intro pins s σ H x v vl vu lo hi sl Q I rx hs pl pu h
 obtain ⟨a,xs,rfl,hx,hw,q⟩:=h
 cases rx
 obtain ⟨its,r,ht,hz⟩:=I.tuple hx
 have hlen:its.toArray.size=xs.length:=by rw [List.size_toArray];exact r.length.symm
 refine ⟨"tuple",_,PyProof.Rows.slot_tuple_getitem.lookup,ht.typeIs,?_⟩
 refine HT.getItem_tuple_cut ht hs pl pu (by rw [hlen];exact hw) ?_ (by rw [hlen];exact hz)
 rw [hlen]
 refine ⟨.ref s.heap.objs.size,_,I.laid (t':=s.toks) (o:=.tup (Zr xs lo hi)) (fun b ob q=>Heap.get?_push_of_some _ q) (Nat.le_refl _) ?_,rfl,q _ (I.hok.fresh (Nat.le_refl _))⟩
 exact ⟨Nat.le_trans (Lc xs lo hi) hz,_,(r.drop (HT.sIx xs.length 0 lo)).take (HT.sIx xs.length xs.length hi-HT.sIx xs.length 0 lo),IsTup.new _ _⟩
def O0 (K:PySem.W.Frag):R2:=fun x y H Q=>∃ a b xs ys,x=.ref a/\y=.ref b/\SqT K H a xs/\SqT K H b ys/\xs≠[]/\xs.length+ys.length<=sizeLine /\
 (ys=[]->Q (.ref a) H)/\(ys≠[]->∀ p,H p=none->Q (.ref p) (upd H p (.tup (xs++ys))))
theorem Vals.nil_iff {xs:List V} {us:List Value} (r:Vals xs us):us=[]↔xs=[]:=by
 cases r with
 | nil=>simp
 | cons _ _=>simp
theorem AA:OpR X (binaryOp .Add) (O0 X.K):=by
 intro pins s σ H x y v u Q I rx ry h
 obtain ⟨a,b,xs,ys,rfl,rfl,ha,hb,hx,hz,q1,q2⟩:=h
 cases rx
 cases ry
 obtain ⟨its,r1,p1,_⟩:=I.tuple ha
 obtain ⟨its2,r2,p2,_⟩:=I.tuple hb
 refine HT.cat_tup p1 p2 (fun z=>hx (r1.nil_iff.mp z)) (fun z=>⟨.ref a,H,I,rfl,q1 (r2.nil_iff.mp z)⟩) (fun z=>?_) (by rw [<- r1.length,<- r2.length];exact hz)
 refine ⟨.ref s.heap.objs.size,_,I.laid (t':=s.toks) (o:=.tup (xs++ys)) (fun b ob q=>Heap.get?_push_of_some _ q) (Nat.le_refl _) ?_,rfl,q2 (fun w=>z (r2.nil_iff.mpr w)) _ (I.hok.fresh (Nat.le_refl _))⟩
 exact ⟨by rw [List.length_append];exact hz,_,r1.append r2,IsTup.new _ _⟩
end
end L2
namespace L2
open PySem PySem.Spec PyProof.Rows
def YC (n:Nat) (i:Int):Option Nat:=if 0<=i then (if i<n then some i.toNat else none) else if -(n:Int)<=i then some (i+n).toNat else none
def Jy {α:Type} (xs:List α) (i:Int):Option α:=(YC xs.length i).bind fun j=>xs[j]?
theorem C3 {n:Nat} {i:Int} {j:Nat} (h:YC n i=some j):seqIndex? i n=some j/\j<n/\-(n:Int)<=i/\i<n:=by
 unfold YC at h
 by_cases h0:0<=i
 ·rw [if_pos h0] at h
  by_cases h1:i<n
  ·rw [if_pos h1] at h
   have e:i.toNat=j:=Option.some.inj h
   exact ⟨by rw [seqIndex_of h0 h1,e],by omega,by omega,h1⟩
  ·rw [if_neg h1] at h;cases h
 ·rw [if_neg h0] at h
  by_cases h1:-(n:Int)<=i
  ·rw [if_pos h1] at h
   have e:(i+n).toNat=j:=Option.some.inj h
   exact ⟨by rw [seqIndex_neg (by omega) h1,e],by omega,h1,by omega⟩
  ·rw [if_neg h1] at h;cases h
theorem Uu {α:Type} {xs:List α} {i:Int} {v:α} (h:Jy xs i=some v):∃ j,seqIndex? i xs.length=some j/\xs[j]?=some v/\j<xs.length/\-(xs.length:Int)<=i/\i<xs.length:=by
 unfold Jy at h
 cases e:YC xs.length i with
 | none=>rw [e] at h;cases h
 | some j =>
  rw [e] at h
  obtain ⟨h1,h2,h3,h4⟩:=C3 e
  exact ⟨j,h1,h,h2,h3,h4⟩
theorem ML {α:Type} (xs:List α) (v:α):Jy (xs++[v]) (-1)=some v:=by
 have hl:(xs++[v]).length=xs.length+1:=by simp
 have e:YC (xs++[v]).length (-1)=some xs.length:=by
  unfold YC
  rw [hl,if_neg (by decide),if_pos (by omega)]
  congr 1
  omega
 unfold Jy
 rw [e]
 show (xs++[v])[xs.length]?=some v
 simp
def RL (b:Expr):Prop:=∀ o i,subscripted b false o i=operate [o,i] (getItem o i)
def IxR (X:Cx) (r:R2):Prop :=
 ∀ (value slice:Expr) (pins:List (Addr×Obj)) (s:Shared) (σ:St) (H:Hp) (x y:V) (v u:Value) (Q:VK),Inv X pins σ H s->RelV x v->RelV y u->r x y H Q ->
  subscripted slice false v u=operate [v,u] (getItem v u)->wpAny (model X.prog X.w) X.A (subscriptTail value slice v u) (EP X pins σ Q) X.xe s
def MtR (X:Cx) (id:String) (r:V->List V->Hp->VK->Prop):Prop :=
 ∀ (pins:List (Addr×Obj)) (s:Shared) (σ:St) (H:Hp) (x:V) (xs:List V) (v:Value) (us:List Value) (Q:VK),Inv X pins σ H s->RelV x v->Vals xs us->r x xs H Q ->
  wpAny (model X.prog X.w) X.A (call (.builtin id) (v::us)) (EP X pins σ Q) X.xe s
section
variable {X:Cx} {a b:Expr} {ta tb:TE} {pos:Pos}
theorem IxR.or {r r':R2} (h:IxR X r) (h':IxR X r'):IxR X (fun x y H Q=>r x y H Q\/r' x y H Q):=by
 intro value slice pins s σ H x y v u Q I rx ry q hs
 rcases q with q | q
 ·exact h value slice pins s σ H x y v u Q I rx ry q hs
 ·exact h' value slice pins s σ H x y v u Q I rx ry q hs
theorem MtR.or {id:String} {r r':V->List V->Hp->VK->Prop} (h:MtR X id r) (h':MtR X id r'):MtR X id (fun x xs H Q=>r x xs H Q\/r' x xs H Q):=by
 intro pins s σ H x xs v us Q I rx rs q
 rcases q with q | q
 ·exact h pins s σ H x xs v us Q I rx rs q
 ·exact h' pins s σ H x xs v us Q I rx rs q
theorem Zk {r:R2} (hr:IxR X r) (ha:PE X a ta) (hb:PE X b tb) (hs:RL b):PE X (.Subscript a b pos) (Yi r ta tb):=by
 intro pins s σ H Q I h
 exact Subscript_ (RZ ha hb I h fun v u s2 x y H2 I2 rx ry q=>hr a b pins s2 σ H2 x y v u Q I2 rx ry q (hs _ _))
def H0 (K:PySem.W.Frag):R2:=fun x y H Q=>∃ p xs i v,x=.ref p/\y=.int i/\SqL K H p xs/\Jy xs i=some v/\Q v H
def HB (K:PySem.W.Frag):R2:=fun x y H Q=>∃ p xs i v,x=.ref p/\y=.int i/\SqT K H p xs/\Jy xs i=some v/\Q v H
def HA:R2:=fun x y H Q=>∃ z i c,x=.str z/\y=.int i/\z.length<=sizeLine/\Jy z.cps.toList i=some c/\Q (.str ⟨#[c]⟩) H
theorem ix_list:IxR X (H0 X.K):=by
 intro value slice pins s σ H x y v u Q I rx ry h hs
 obtain ⟨p,xs,i,z,rfl,rfl,hq,he,q⟩:=h
 cases rx
 obtain ⟨t,rfl⟩:=ry
 obtain ⟨its,r,pl,hz⟩:=I.list hq
 obtain ⟨j,h1,h2,h3,h4,h5⟩:=Uu he
 obtain ⟨w,ew,rw'⟩:=r.get h2
 have hl:=r.length
 have hn:=X7
 have fin:EP X pins σ Q w s:=⟨z,H,I,rw',q⟩
 by_cases h0:0<=i
 ·have hj:i.toNat=j:=by
   rw [seqIndex_of h0 h5] at h1
   exact Option.some.inj h1
  exact item_listR pl.isList h0 (by omega) (by rw [hj];simpa using ew) fin hs
 ·have hj:(i+(its.toArray.size:Int)).toNat=j:=by
   rw [seqIndex_neg (by omega) h4] at h1
   rw [List.size_toArray,<- hl]
   exact Option.some.inj h1
  exact subscriptTail_builtinR (x:=w) pl.isList.typeIs slot_list_getitem.lookup
   (wpAny_getItem_list_neg (Q:=fun r s'=>r=w/\EP X pins σ Q r s') pl.isList (by omega) (by rw [List.size_toArray]<;>omega) (by omega) (by rw [hj];simpa using ew) ⟨rfl,fin⟩) hs
theorem ix_tup:IxR X (HB X.K):=by
 intro value slice pins s σ H x y v u Q I rx ry h hs
 obtain ⟨p,xs,i,z,rfl,rfl,hq,he,q⟩:=h
 cases rx
 obtain ⟨t,rfl⟩:=ry
 obtain ⟨its,r,pl,hz⟩:=I.tuple hq
 obtain ⟨j,h1,h2,h3,h4,h5⟩:=Uu he
 obtain ⟨w,ew,rw'⟩:=r.get h2
 have hl:=r.length
 have hn:=X7
 have fin:EP X pins σ Q w s:=⟨z,H,I,rw',q⟩
 exact subscriptTail_builtinR (x:=w) pl.typeIs slot_tuple_getitem.lookup
  (getItem_tuple (j:=j) (Q:=fun r s'=>r=w/\EP X pins σ Q r s') pl (by omega) (by omega) (by rw [List.size_toArray,<- hl];exact h1) (by simpa using ew) ⟨rfl,fin⟩) hs
theorem C7:IxR X HA:=by
 intro value slice pins s σ H x y v u Q I rx ry h hs
 obtain ⟨z,i,c,rfl,rfl,hz,he,q⟩:=h
 obtain ⟨t,rfl⟩:=rx
 obtain ⟨t',rfl⟩:=ry
 obtain ⟨j,h1,h2,h3,h4,h5⟩:=Uu he
 have hl:z.cps.toList.length=z.length:=by simp [Str.length]
 rw [hl] at h1 h4 h5
 have hn:=X7
 exact tail_any (typeIs_str s z t) slot_str_getitem.lookup (getItem_str (c:=c) (by
  have e1:decide (i < -(2^63:Int))=false:=decide_eq_false (by omega)
  have e2:decide (i ≥ 2^63)=false:=decide_eq_false (by omega)
  rw [e1,e2,Bool.or_false]) (by rw [h1];simpa using h2) ⟨.str ⟨#[c]⟩,H,I.tok _,⟨_,rfl⟩,q⟩) hs
def XF (K:PySem.W.Frag):R2:=fun x y H Q=>H0 K x y H Q\/HB K x y H Q\/HA x y H Q
theorem Zf:IxR X (XF X.K):=ix_list.or (ix_tup.or C7)
theorem Inv.lst {pins:List (Addr×Obj)} {σ:St} {H:Hp} {s:Shared} {p:Addr} {xs:List V} (I:Inv X pins σ H s) (h:H p=some (.lst xs)) :
  ∃ (its:List Value) (n:Nat),Vals xs its/\s.heap.get? p=some { cls:=.type "list",data:=.seq its.toArray n }/\xs.length<=sizeLine:=by
 obtain ⟨z,its,n,r,e⟩:=I.hok p _ h
 exact ⟨its,n,r,e,z⟩
theorem Rb (i:Int) (n:Nat):max 0 (min (if i<0 then i+(n:Int) else i) (n:Int))=(((if i<0 then (i+(n:Int)).toNat else min i.toNat n):Nat):Int):=by
 by_cases h:i<0
 ·rw [if_pos h,if_pos h,Int.min_eq_left (Int.add_le_of_le_sub_right (by rw [Int.sub_self];exact Int.le_of_lt h)),Int.ofNat_toNat,Int.max_comm]
 ·obtain ⟨k,rfl⟩:=Int.eq_ofNat_of_zero_le (Int.not_lt.mp h)
  rw [if_neg h,if_neg h,Int.toNat_natCast,Int.max_eq_right (Int.le_min.mpr ⟨Int.not_lt.mp h,Int.natCast_nonneg n⟩)]
  exact HT.minN k n
theorem QbF (lo hi:Option Int) (n:Nat):(sliceBounds lo hi none n).1=((HT.sIx n 0 lo:Nat):Int)/\(sliceBounds lo hi none n).2.1=((HT.sIx n n hi:Nat):Int)/\(sliceBounds lo hi none n).2.2=1:=by
 refine ⟨?_,?_,rfl⟩
 ·cases lo with
  | none=>rfl
  | some i=>exact Rb i n
 ·cases hi with
  | none=>rfl
  | some i=>exact Rb i n
theorem QbD (its:List Value) (lo hi:Option Int):slicePick its.toArray lo hi none=((its.drop (HT.sIx its.length 0 lo)).take (HT.sIx its.length its.length hi-HT.sIx its.length 0 lo)).toArray:=by
 obtain ⟨h1,h2,h3⟩:=QbF lo hi its.toArray.size
 unfold slicePick
 rw [h1,h2,h3]
 simp only [sliceRange_one,pick_run,List.size_toArray]<;>rfl
def Qap (K:PySem.W.Frag):V->Option Int->Option Int->Hp->VK->Prop:=fun x lo hi H Q=>∃ a xs,x=.ref a/\SqL K H a xs/\∀ p,H p=none->Q (.ref p) (upd H p (.lst (Zr xs lo hi)))
theorem Qbz:SlR X (Qap X.K):=by
 intro pins s σ H x v vl vu lo hi sl Q I rx hs pl pu h
 obtain ⟨a,xs,rfl,hx,q⟩:=h
 cases rx
 obtain ⟨its,r,ht,hz⟩:=I.list hx
 have hlen:=r.length
 refine ⟨"list",_,slot_list_getitem.lookup,ht.isList.typeIs,?_⟩
 refine wpAny_getItem_list_slice ht.isList hs pl pu .none (by simp) ?_ (by rw [List.size_toArray]<;>omega)
 rw [QbD,<- hlen]
 refine ⟨.ref s.heap.objs.size,_,I.laid (t':=s.toks) (o:=.lst (Zr xs lo hi)) (fun b ob q=>Heap.get?_push_of_some _ q) (Nat.le_refl _) ?_,rfl,q _ (I.hok.fresh (Nat.le_refl _))⟩
 exact ⟨Nat.le_trans (Lc xs lo hi) hz,_,0,(r.drop (HT.sIx xs.length 0 lo)).take (HT.sIx xs.length xs.length hi-HT.sIx xs.length 0 lo),Heap.get?_push_size _ rfl⟩
def Y9:V->Bool
 | .non=>true
 | .bl _=>true
 | .int _=>true
 | .str _=>true
 | _=>false
def YY:V->V->Bool
 | .non,.non=>true
 | .bl a,.bl b=>a==b
 | .bl a,.int b=>(if a then 1 else 0)==b
 | .int a,.bl b=>a==(if b then 1 else 0)
 | .int a,.int b=>a==b
 | .str a,.str b=>a==b
 | _,_=>false
theorem Ez {A:Around} {s:Shared} {y x:V} {u v:Value} (ry:RelV y u) (rx:RelV x v) (fy:Y9 y=true) (fx:Y9 x=true):SeqAt.EqAt A s u v (YY y x):=by
 cases y with
 | non =>
  cases ry
  cases x with
  | non=>cases rx;exact SeqAt.EqAt.same _
  | bl b=>cases rx;exact SeqAt.EqAt.none_bool b
  | int b=>obtain ⟨t,rfl⟩:=rx;exact SeqAt.EqAt.none_int b t
  | str b=>obtain ⟨t,rfl⟩:=rx;exact SeqAt.EqAt.none_str b t
  | _=>exact absurd (show false=true from fx) Bool.false_ne_true
 | bl a =>
  cases ry
  cases x with
  | non=>cases rx;exact SeqAt.EqAt.bool_none a
  | bl b=>cases rx;exact SeqAt.EqAt.bool_bool a b
  | int b=>obtain ⟨t,rfl⟩:=rx;exact SeqAt.EqAt.bool_int a b t
  | str b=>obtain ⟨t,rfl⟩:=rx;exact SeqAt.EqAt.bool_str a b t
  | _=>exact absurd (show false=true from fx) Bool.false_ne_true
 | int a =>
  obtain ⟨t',rfl⟩:=ry
  cases x with
  | non=>cases rx;exact SeqAt.EqAt.int_none a t'
  | bl b=>cases rx;exact SeqAt.EqAt.int_bool a t' b
  | int b=>obtain ⟨t,rfl⟩:=rx;exact SeqAt.EqAt.int_int a t' b t
  | str b=>obtain ⟨t,rfl⟩:=rx;exact SeqAt.EqAt.int_str a t' b t
  | _=>exact absurd (show false=true from fx) Bool.false_ne_true
 | str a =>
  obtain ⟨t',rfl⟩:=ry
  cases x with
  | non=>cases rx;exact SeqAt.EqAt.str_none a t'
  | bl b=>cases rx;exact SeqAt.EqAt.str_bool a t' b
  | int b=>obtain ⟨t,rfl⟩:=rx;exact SeqAt.EqAt.str_int a t' b t
  | str b=>obtain ⟨t,rfl⟩:=rx;exact SeqAt.EqAt.str_str a t' b t
  | _=>exact absurd (show false=true from fx) Bool.false_ne_true
 | _=>exact absurd (show false=true from fy) Bool.false_ne_true
def Yr (x:V) (u:Value):Bool:=match u with
 | .none=>YY .non x
 | .bool b=>YY (.bl b) x
 | .int i _=>YY (.int i) x
 | .str z _=>YY (.str z) x
 | _=>false
theorem K0 {x y:V} {u:Value} (r:RelV y u) (f:Y9 y=true):Yr x u=YY y x:=by
 cases y with
 | non=>cases r;rfl
 | bl b=>cases r;rfl
 | int i=>obtain ⟨t,rfl⟩:=r;rfl
 | str z=>obtain ⟨t,rfl⟩:=r;rfl
 | _=>exact absurd (show false=true from f) Bool.false_ne_true
theorem MK {x:V} {xs:List V} {us:List Value} (h:Vals xs us) (f:xs.all Y9=true):us.any (Yr x)=xs.any fun y=>YY y x:=by
 induction h with
 | nil=>rfl
 | cons r t ih =>
  rw [List.all_cons,Bool.and_eq_true] at f
  rw [List.any_cons,List.any_cons,K0 r f.1,ih f.2]
theorem Ph {A:Around} {s:Shared} {x:V} {v:Value} (rx:RelV x v) (fx:Y9 x=true):∀ {xs:List V} {us:List Value},Vals xs us->xs.all Y9=true->∀ u∈us,SeqAt.EqAt A s u v (Yr x u)
 | _,_,.nil,_=>fun u hu=>by cases hu
 | y::xs,u::us,.cons r t,f=>fun u' hu=>by
  rw [List.all_cons,Bool.and_eq_true] at f
  rcases List.mem_cons.mp hu with rfl | hu
  ·rw [K0 r f.1];exact Ez r rx f.1 fx
  ·exact Ph rx fx t f.2 u' hu
def inV (x:V) (xs:List V):Bool:=xs.any fun y=>YY y x
def WN (K:PySem.W.Frag) (neg:Bool):R2:=fun x y H Q=>∃ p xs,y=.ref p/\(SqL K H p xs\/SqT K H p xs)/\Y9 x=true/\xs.all Y9=true/\Q (.bl (if neg then !inV x xs else inV x xs)) H
theorem IL:OpR X (compareOp .In) (WN X.K false):=by
 intro pins s σ H x y v u Q I rx ry h
 obtain ⟨p,xs,rfl,hq,fx,fs,q⟩:=h
 cases ry
 rcases hq with hq | hq
 ·obtain ⟨its,r,pl,hz⟩:=I.list hq
  refine SeqAt.in_listAt (Yr x) pl.isList (fun w hw=>Ph rx fx r fs w (by simpa using hw)) ⟨.bl _,H,I,rfl,?_⟩
  rw [show its.toArray.any (Yr x)=its.any (Yr x) by simp,MK r fs]
  exact q
 ·obtain ⟨its,r,pl,hz⟩:=I.tuple hq
  refine SeqAt.in_tupleAt (Yr x) pl (fun w hw=>Ph rx fx r fs w (by simpa using hw)) ⟨.bl _,H,I,rfl,?_⟩
  rw [show its.toArray.any (Yr x)=its.any (Yr x) by simp,MK r fs]
  exact q
theorem Gu:CallR X (.builtin "len") (fun xs H Q=>∃ p ys,xs=[.ref p]/\(SqL X.K H p ys\/SqT X.K H p ys)/\Q (.int ys.length) H):=by
 intro pins s σ H xs us Q I r h
 obtain ⟨p,ys,rfl,hq,q⟩:=h
 obtain ⟨u,rfl,rx⟩:=Vi r
 cases rx
 have hn:=X7
 rcases hq with hq | hq
 ·obtain ⟨its,r',pl,hz⟩:=I.list hq
  have hlen:=r'.length
  exact Calls.call_len_list pl.isList (by simp only [List.size_toArray]<;>omega) ⟨.int ys.length,H,I.tok _,⟨s.toks+1,by rw [List.size_toArray,hlen]⟩,q⟩
 ·obtain ⟨its,r',pl,hz⟩:=I.tuple hq
  have hlen:=r'.length
  exact len_tuple pl (by simp only [List.size_toArray]<;>omega) ⟨.int ys.length,H,I.tok _,⟨s.toks+1,by rw [List.size_toArray,hlen]⟩,q⟩
theorem Gv:CallR X (.builtin "len") (fun xs H Q=>∃ z,xs=[.str z]/\z.length<=sizeLine/\Q (.int z.length) H):=by
 intro pins s σ H xs us Q I r h
 obtain ⟨z,rfl,hz,q⟩:=h
 obtain ⟨u,rfl,t,rfl⟩:=Vi r
 have hn:=X7
 exact len_str (by omega) ⟨.int z.length,H,I.tok _,⟨_,rfl⟩,q⟩
theorem CallR.or {f:Value} {r r':List V->Hp->VK->Prop} (h:CallR X f r) (h':CallR X f r'):CallR X f (fun xs H Q=>r xs H Q\/r' xs H Q):=by
 intro pins s σ H xs us Q I rs q
 rcases q with q | q
 ·exact h pins s σ H xs us Q I rs q
 ·exact h' pins s σ H xs us Q I rs q
theorem Gw:CallR X (.type "list") (fun xs H Q=>∃ p ys,xs=[.ref p]/\(SqL X.K H p ys\/SqT X.K H p ys)/\∀ l,H l=none->Q (.ref l) (upd H l (.lst ys))):=by
 intro pins s σ H xs us Q I r h
 obtain ⟨p,ys,rfl,hq,q⟩:=h
 obtain ⟨u,rfl,rx⟩:=Vi r
 cases rx
 have fin:∀ (its:List Value),Vals ys its->ys.length<=sizeLine->∀ (h':Heap) (c':Nat),(∀ b o',s.heap.get? b=some o'->h'.get? b=some o') ->
   h'.get? s.heap.objs.size=some { cls:=.type "list",dict:=none,data:=.seq its.toArray c',slots:=#[] }->EP X pins σ Q (.ref s.heap.objs.size) { s with heap:=h' }:=fun its r' hz h' c' kp e =>
  ⟨.ref s.heap.objs.size,_,I.laid (t':=s.toks) kp (Nat.le_refl _) (show ObjOk X.prog X.w _ h' _ (.lst ys) from ⟨hz,its,c',r',e⟩),rfl,q _ (I.hok.fresh (Nat.le_refl _))⟩
 rcases hq with hq | hq
 ·obtain ⟨its,r',pl,hz⟩:=I.list hq
  have hlen:=r'.length
  obtain ⟨o,ho,hc,n,hd⟩:=pl.isList
  exact call_list_seq p (.inl rfl) ho hc hd (fun h' c' kp e=>fin its r' hz h' c' kp e) (by simp only [List.size_toArray]<;>omega)
 ·obtain ⟨its,r',pl,hz⟩:=I.tuple hq
  have hlen:=r'.length
  obtain ⟨o,ho,hc,n,hd⟩:=pl
  exact call_list_seq p (.inr rfl) ho hc hd (fun h' c' kp e=>fin its r' hz h' c' kp e) (by simp only [List.size_toArray]<;>omega)
def Oz (K:PySem.W.Frag) (T:String) (x:V) (H:Hp):Prop:=match x with
 | .str _=>T="str"
 | .int _=>T="int"
 | .ref p=>(T="list"/\∃ xs,SqL K H p xs)\/(T="tuple"/\∃ o,K.lookup p=some o/\o.cls=.type "tuple"/\o.dict=none) \/
   (T="dict"/\((∃ kvs,H p=some (.dK kvs))\/∃ kvs,H p=some (.dT kvs)))\/(T="set"/\∃ S n,H p=some (.set S n))
 | _=>False
theorem Hz {pins:List (Addr×Obj)} {σ:St} {H:Hp} {s:Shared} {T:String} {x:V} {v:Value} (I:Inv X pins σ H s) (r:RelV x v) (ty:Oz X.K T x H) :
  s.TypeIs v T/\∀ a,v=.ref a->∃ ob,s.heap.get? a=some ob/\ob.dict=none:=by
 cases x with
 | str z =>
  obtain ⟨t,rfl⟩:=r
  cases (show T="str" from ty)
  exact ⟨typeIs_str s z t,fun _ e=>nomatch e⟩
 | int i =>
  obtain ⟨t,rfl⟩:=r
  cases (show T="int" from ty)
  exact ⟨typeIs_int s i t,fun _ e=>nomatch e⟩
 | ref p =>
  cases r
  rcases ty with ⟨rfl,xs,hq⟩ | ⟨rfl,o,hk,hc,hd⟩ | ⟨rfl,hk⟩ | ⟨rfl,S,n,hk⟩
  ·obtain ⟨its,_,pl,_⟩:=I.list hq
   refine ⟨pl.isList.typeIs,fun a e=>?_⟩
   cases e
   obtain ⟨o,n,e,c,hd,_⟩:=pl
   exact ⟨o,e,hd⟩
  ·refine ⟨⟨o,I.kIn p o hk,hc⟩,fun a e=>?_⟩
   cases e
   exact ⟨o,I.kIn _ o hk,hd⟩
  ·have z:∃ o,s.heap.get? p=some o/\o.ExactDict:=by
    rcases hk with ⟨kvs,hk⟩ | ⟨kvs,hk⟩
    ·obtain ⟨_,_,_,_,o,_,_,e,ex,_⟩:=I.hok p _ hk
     exact ⟨o,e,ex⟩
    ·obtain ⟨_,_,_,_,o,_,_,e,ex,_⟩:=I.hok p _ hk
     exact ⟨o,e,ex⟩
   obtain ⟨o,e,ex⟩:=z
   refine ⟨⟨o,e,ex.1⟩,fun a e2=>?_⟩
   cases e2
   exact ⟨o,e,ex.2.1⟩
  ·obtain ⟨o,_,_,_,e,ex,_⟩:=I.hok p _ hk
   refine ⟨⟨o,e,ex.1⟩,fun a e2=>?_⟩
   cases e2
   exact ⟨o,e,ex.2.1⟩
 | _=>exact False.elim ty
def QbT (K:PySem.W.Frag) (T:String) (r:V->List V->Hp->VK->Prop) (to:TE):TE:=fun σ H Q=>to σ H fun x H1=>Oz K T x H1/\r x [] H1 Q
def YK (K:PySem.W.Frag) (T:String) (r:V->List V->Hp->VK->Prop) (to:TE) (t:TA):TE:=fun σ H Q=>to σ H fun x H1=>Oz K T x H1/\t σ H1 fun xs H2=>r x xs H2 Q
variable {o e:Expr} {es:List Expr} {to:TE} {t:TA} {name:Str} {apos cpos:Pos} {T id:String} {r:V->List V->Hp->VK->Prop}
theorem Af (pa:PlainAttrs T) (slot:Slot T name id) (hty:typeOf (.builtin id)=pure (.type "method_descriptor")) (hm:MtR X id r) (ho:PE X o to)
  (hbase:attributeBase o name X.env (eval o X.env)=eval o X.env:=by rfl) (hline:(apos.endLine==cpos.line)=true:=by rfl):PE X (.Call (.Attribute o name apos) [] [] cpos) (QbT X.K T r to):=by
 intro pins s σ H Q I h
 refine wpAny_Call_method0_late hbase hline (QL (ho pins s σ H _ I h) fun v s1 ⟨x,H1,I1,r1,ty,q1⟩=>?_)
 obtain ⟨h1,h2⟩:=Hz I1 r1 ty
 exact ⟨T,id,pa,slot,hty,h1,h2,Calls.callWith_builtin rfl (PySem.evalArgs_none (hm pins s1 σ H1 x [] v [] Q I1 r1 .nil q1))⟩
theorem ZN (pa:PlainAttrs T) (slot:Slot T name id) (hty:typeOf (.builtin id)=pure (.type "method_descriptor")) (hm:MtR X id r) (ho:PE X o to) (ha:PA X (e::es) t)
  (hbase:attributeBase o name X.env (eval o X.env)=eval o X.env:=by rfl)
  (hfew:((backTo cpos (starEach (e::es) X.env)).all (fun x=>!x.1)&&(backToKw cpos (keywordEach [] X.env)).all (fun x=>x.1.isSome)
   && decide ((e::es).length+([]:List Keyword).length+(if ([]:List Keyword).isEmpty then 0 else 1)<30))=true:=by rfl)
  (hline:(apos.endLine==cpos.line)=true:=by rfl) (hs:starEach (e::es) X.env=(false,eval e X.env)::starEach es X.env:=by rfl) (hplain:(backTo cpos (starEach es X.env)).any (·.1)=false:=by rfl) :
  PE X (.Call (.Attribute o name apos) (e::es) [] cpos) (YK X.K T r to t):=by
 intro pins s σ H Q I h
 refine wpAny_Call_method_late hbase hfew hline rfl (QL (ho pins s σ H _ I h) fun v s1 ⟨x,H1,I1,r1,ty,q1⟩=>?_)
 obtain ⟨h1,h2⟩:=Hz I1 r1 ty
 refine ⟨T,id,pa,slot,hty,h1,h2,?_⟩
 have hA:=ha cpos pins s1 σ H1 _ I1 q1
 rw [hs] at hA ⊢
 refine Calls.callWith_builtin (by show (false||(backTo cpos (starEach es X.env)).any (·.1))=false;rw [hplain]<;>rfl) (Calls.evalArgs_plain ?_)
 exact QL hA <| by rintro us s2 ⟨vs,H2,I2,r2,q2⟩;exact hm pins s2 σ H2 x vs v us Q I2 r1 r2 q2
end
end L2
namespace L2
open PySem PySem.Spec PyProof.Rows
def Nh (X:Cx) (id:String) (r:V->List V->Hp->VK->Prop):Prop :=
 ∀ (pins:List (Addr×Obj)) (s:Shared) (σ:St) (H:Hp) (x:V) (xs:List V) (v:Value) (us:List Value) (Q:VK),Inv X pins σ H s->RelV x v->Vals xs us->r x xs H Q ->
  wpAny (model X.prog X.w) X.A (call (.builtin id) (v::us)) (EP X pins σ Q) X.xe s
theorem Vals.one {x:V} {us:List Value} (h:Vals [x] us):∃ u,us=[u]/\RelV x u:=by
 cases h with
 | cons r t=>cases t;exact ⟨_,rfl,r⟩
theorem Vals.two:∀ {x y:V} {us:List Value},Vals [x,y] us->∃ u v,us=[u,v]/\RelV x u/\RelV y v
 | _,_,_,.cons r (.cons q .nil)=>⟨_,_,rfl,r,q⟩
theorem Vals.zero:∀ {us:List Value},Vals [] us->us=[]
 | _,.nil=>rfl
theorem Vals.dropLast {xs:List V} {us:List Value} (h:Vals xs us):Vals xs.dropLast us.dropLast:=by
 induction h with
 | nil=>exact .nil
 | cons r t ih =>
  cases t with
  | nil=>exact .nil
  | cons q t'=>exact .cons r ih
theorem Vals.rep {xs:List V} {us:List Value} (h:Vals xs us):∀ k:Nat,Vals (List.replicate k xs).flatten (List.replicate k us).flatten
 | 0=>.nil
 | k+1=>by
  rw [List.replicate_succ,List.replicate_succ,List.flatten_cons,List.flatten_cons]
  exact Vals.append h (Vals.rep h k)
theorem KC (its:List Value):∀ (k:Nat) (acc:List Value),
  List.foldl (fun x1 x2=>x1++x2) acc.toArray (List.replicate k its.toArray)=(acc++(List.replicate k its).flatten).toArray
 | 0,acc=>by simp
 | k+1,acc=>by
  have e:acc.toArray++its.toArray=(acc++its).toArray:=by simp
  have e2:(acc++its)++(List.replicate k its).flatten=acc++(List.replicate (k+1) its).flatten:=by
   rw [List.replicate_succ,List.flatten_cons,List.append_assoc]
  rw [<- e2,<- KC its k (acc++its),<- e,List.replicate_succ,List.foldl_cons]
section
variable {X:Cx} {pins:List (Addr×Obj)} {σ:St} {H:Hp} {s:Shared} {l b:Addr} {xs ys zs:List V}
theorem Inv.lset {its its':List Value} {n:Nat} {f:Array Value->Array Value} {t':Nat} (I:Inv X pins σ H s) (hH:H l=some (.lst xs))
  (e:s.heap.get? l=some { cls:=.type "list",data:=.seq its.toArray n }) (hf:f its.toArray=its'.toArray) (hv:Vals ys its') (hz:ys.length<=sizeLine) :
  Inv X pins σ (upd H l (.lst ys)) { s with heap:=s.heap.update l (Obj.mapSeq f),toks:=t' }:=by
 have q:=PySem.IsL.update e f
 rw [hf] at q
 refine I.write (x:=l) (e:=l) (by rw [hH];exact trivial) (.inl rfl) (fun b' u hb hu=>(Heap.get?_update_other s.heap (Obj.mapSeq f) (Ne.symm hb)).trans hu) ⟨_,q⟩ ?_
 exact ⟨hz,its',_,hv,q⟩
theorem Inv.lnew {its:List Value} {t':Nat} (I:Inv X pins σ H s) (hv:Vals ys its) (hz:ys.length<=sizeLine) :
  Inv X pins σ (upd H s.heap.objs.size (.lst ys)) { s with heap:=s.heap.push { cls:=.type "list",data:=.seq its.toArray },toks:=t' } :=
 I.laid (fun _ _ q=>Heap.get?_push_of_some _ q) (Nat.le_refl _) ⟨hz,its,0,hv,Heap.get?_push_size _ rfl⟩
theorem Inv.fresh (I:Inv X pins σ H s):H s.heap.objs.size=none:=I.hok.fresh (Nat.le_refl _)
theorem Inv.lstM (I:Inv X pins σ H s) (hH:H l=some (.lst xs)):xs.length<=sizeLine/\∃ (its:List Value) (n:Nat),Vals xs its/\xs.length=its.length/\s.heap.get? l=some { cls:=.type "list",data:=.seq its.toArray n }:=by
 obtain ⟨z,its,n,r,e⟩:=I.hok l _ hH
 exact ⟨z,its,n,r,r.length,e⟩
theorem IE {n:Nat} (h:n<=sizeLine):Builtin.List.listTooLong n=false:=by
 unfold Builtin.List.listTooLong
 exact decide_eq_false (by omega)
end
section
variable {X:Cx}
def YH:V->List V->Hp->VK->Prop:=fun x vs H Q=>∃ l xs y,x=.ref l/\vs=[y]/\H l=some (.lst xs)/\xs.length<sizeLine/\Q .non (upd H l (.lst (xs++[y])))
theorem Zy:Nh X "list.append" YH:=by
 intro pins s σ H x vs v us Q I rx rv h
 obtain ⟨l,xs,y,rfl,rfl,hH,hz,q⟩:=h
 cases rx
 obtain ⟨u,rfl,ru⟩:=rv.one
 obtain ⟨z,its,n,r,hl,e⟩:=I.lstM hH
 refine call_meets F.slot_list_append ⟨_,e,rfl⟩ F.entry_list_append (F.args_list_append_2 _ _) (PySem.list_append l its.toArray n u (by rw [List.size_toArray];omega)) ⟨e,?_⟩
 refine ⟨.non,_,I.lset (its':=its++[u]) hH e (by simp) (r.append (.cons ru .nil)) ?_,rfl,q⟩
 rw [List.length_append,List.length_singleton]
 omega
def Qam:V->List V->Hp->VK->Prop:=fun x vs H Q=>∃ l b xs zs,x=.ref l/\vs=[.ref b]/\H l=some (.lst xs)/\H b=some (.lst zs)/\xs.length+zs.length<=sizeLine/\Q .non (upd H l (.lst (xs++zs)))
theorem Ci:Nh X "list.extend" Qam:=by
 intro pins s σ H x vs v us Q I rx rv h
 obtain ⟨l,b,xs,zs,rfl,rfl,hH,hB,hz,q⟩:=h
 cases rx
 obtain ⟨u,rfl,ru⟩:=rv.one
 cases ru
 obtain ⟨z,its,n,r,hl,e⟩:=I.lstM hH
 obtain ⟨z2,its2,n2,r2,hl2,e2⟩:=I.lstM hB
 have hsz:its.toArray.size+its2.toArray.size<=sizeLine:=by rw [List.size_toArray,List.size_toArray];omega
 have hlong:¬ (!its.toArray.isEmpty&&Builtin.List.listTooLong (its.toArray.size+its2.toArray.size))=true:=by
  rw [IE hsz,Bool.and_false]
  exact Bool.false_ne_true
 refine call_meets F.slot_list_extend ⟨_,e,rfl⟩ F.entry_list_extend (F.args_list_extend_2 _ _)
  (AutoSeq1.list_extend_list_list_0 l its.toArray n b its2.toArray n2 hlong (by rw [List.size_toArray];omega) (by omega)) ⟨e,e2,?_⟩
 refine ⟨.non,_,I.lset (its':=its++its2) hH e (by simp) (r.append r2) ?_,rfl,q⟩
 rw [List.length_append]
 omega
def Pz:R2:=fun x y H Q=>∃ l b xs zs,x=.ref l/\y=.ref b/\H l=some (.lst xs)/\H b=some (.lst zs)/\xs.length+zs.length<=sizeLine/\∀ p,H p=none->Q (.ref p) (upd H p (.lst (xs++zs)))
theorem IK:OpR X (binaryOp .Add) Pz:=by
 intro pins s σ H x y v u Q I rx ry h
 obtain ⟨l,b,xs,zs,rfl,rfl,hH,hB,hz,q⟩:=h
 cases rx
 cases ry
 obtain ⟨z,its,n,r,hl,e⟩:=I.lstM hH
 obtain ⟨z2,its2,n2,r2,hl2,e2⟩:=I.lstM hB
 refine PySem.P.add_list e e2 ?_ (by rw [List.size_toArray,List.size_toArray];omega)
 have ea:its.toArray++its2.toArray=(its++its2).toArray:=by simp
 rw [ea]
 exact ⟨.ref _,_,I.lnew (t':=s.toks) (r.append r2) (by rw [List.length_append];omega),rfl,q _ I.fresh⟩
def O4:R2:=fun x y H Q=>∃ l k xs,x=.ref l/\y=.int k/\H l=some (.lst xs)/\-(2^63)<=k/\k<2^63/\xs.length*k.toNat<=sizeLine /\
 ∀ p,H p=none->Q (.ref p) (upd H p (.lst (List.replicate k.toNat xs).flatten))
theorem CY {α:Type} (xs:List α) (k:Nat):(List.replicate k xs).flatten.length=k*xs.length:=by
 induction k with
 | zero=>simp
 | succ k ih=>rw [List.replicate_succ,List.flatten_cons,List.length_append,ih,Nat.succ_mul,Nat.add_comm]
theorem AU:OpR X (binaryOp .Mult) O4:=by
 intro pins s σ H x y v u Q I rx ry h
 obtain ⟨l,k,xs,rfl,rfl,hH,h1,h2,hz,q⟩:=h
 cases rx
 obtain ⟨t,rfl⟩:=ry
 obtain ⟨z,its,n,r,hl,e⟩:=I.lstM hH
 have hlen:its.toArray.size*k.toNat<=sizeLine:=by rw [List.size_toArray,<- hl];exact hz
 have hcap:¬ its.toArray.size*k.toNat > (2^63-1)/8:=by
  have:(sizeLine:Nat)<=(2^63-1)/8:=by decide
  omega
 have hfit:¬ (!Builtin.List.listFitsIndex k)=true:=by
  rw [fitsIndex_both h1 h2]
  exact Bool.false_ne_true
 have hlong:¬ Builtin.List.listTooLong (its.toArray.size*k.toNat)=true:=by
  rw [IE hlen]
  exact Bool.false_ne_true
 have hnew:List.foldl (fun x1 x2=>x1++x2) #[] (List.replicate (if its.toArray.isEmpty=true then 0 else k.toNat) its.toArray)=(List.replicate k.toNat its).flatten.toArray:=by
  have f0:∀ m:Nat,List.foldl (fun x1 x2=>x1++x2) #[] (List.replicate m its.toArray)=(List.replicate m its).flatten.toArray:=fun m=>by
   have:=KC its m []
   rw [List.nil_append] at this
   exact this
  rw [f0]
  cases its with
  | nil=>simp
  | cons a r'=>rw [if_neg (by simp)]
 refine wpAny_binaryOp_repeat_ref (T:="list") (U:="int") (by decide) ⟨_,e,rfl⟩ (fun s'=>typeIs_int s' k t) noFill_list_mul F.fills_int_mul F.slot_int_rmul repeat_list F.slot_int_index.lookup
  (call_meets F.slot_int_rmul (typeIs_int s k t) F.entry_int_rmul (F.args_int_rmul_2 _ _) (int___rmul___int_list k t l its.toArray n)
   ⟨e,rfl,⟨_,e,rfl⟩,call_meets F.slot_list_mul ⟨_,e,rfl⟩ F.entry_list_mul (F.args_list_mul_2 _ _) (AutoListH.list___mul___list_int_3 l its.toArray n k t hfit hcap hlong) ⟨e,?_⟩⟩)
 rw [hnew]
 exact ⟨.ref _,_,I.lnew (t':=s.toks) (r.rep k.toNat) (by rw [CY,Nat.mul_comm];exact hz),rfl,q _ I.fresh⟩
end
section
variable {prog:Program} {w:World} {A:Around} {E:Value->Shared->Prop} {s:Shared}
end
section
variable {X:Cx}
end
end L2
namespace Att
open PySem PySem.W PySem.Calls PyProof.Rows
theorem De {P:Params} {h:Heap}:∀ (ns:List Int) (vs:List Value),WellAll P h vs (ns.map WData.int)->IntsAre vs ns:=by
 intro ns
 induction ns with
 | nil =>
  intro vs w
  rw [List.map_nil] at w
  cases w
  exact .nil
 | cons n ns ih =>
  intro vs w
  rw [List.map_cons] at w
  cases w with
  | cons a b =>
   cases a
   exact .cons _ _ (ih _ b)
theorem Qbo {l:OpenLaw} {n:Nat} (hn:l.most=some n) {P:Params} {h:Heap} {args:List WData} {vals:List Value}
  (hpre:l.row.toRowW.claim.pre args=true) (hwl:WellAll P h vals args) :
  ∃ a vs ns,vals=[Value.ref a]/\args=[WData.list (ns.map WData.int)]/\h.get? a=some { cls:=.type "list",data:=.seq vs.toArray }/\IntsAre vs ns/\ns.length<=n:=by
 have hsh:WShape.hasAll [] args [.list .int]=true:=(pre_splitW hpre).1
 have hc:l.pre.holds [] { args:=args }=true:=(pre_splitW hpre).2
 obtain ⟨d,r,rfl,h1,h2⟩:=hasAllW_cons hsh
 obtain rfl:=hasAllW_nil h2
 obtain ⟨xs,rfl,h3⟩:=hasW_list h1
 obtain ⟨ns,rfl⟩:=items_int h3
 have hlen:ns.length<=n:=by
  unfold OpenLaw.pre at hc
  have h4:(WTm.not (.lt (.lit (.int (n:Int))) (.len (.arg 0)))).holds [] { args:=[.list (ns.map .int)] }=true:=by
   have h4:=(holds_andW hc).1
   rw [hn] at h4
   exact h4
  have h5:=condW_of h4 (w_not (w_lt w_lit (w_len_list (w_arg rfl))))
  rw [List.length_map] at h5
  refine Nat.le_of_not_lt fun q=>?_
  have q':(n:Int)<((ns.length:Nat):Int):=by omega
  first
   | (rw [decide_eq_true q'] at h5;exact absurd h5 (by decide))
   | (simp at h5;omega)
 cases hwl with
 | cons w1 w2 =>
  cases w2
  cases w1 with
  | list ho hall=>exact ⟨_,_,ns,rfl,rfl,ho,De ns _ hall,hlen⟩
theorem Qad (l:OpenLaw) (args:List WData):l.row.toRowW.claim.post args (.bool true) args=true :=
 postW_of (r:=l.row.toRowW) (X:=(true==true))
  (show WShape.has [] (.bool true) .bool=true by first | rfl | decide | simp [WShape.has,WShape.arms,WShape.armsAll])
  (show (WTm.eq .res (.lit (.bool true))).value [] { args:=args,res:=some (.bool true),after:=args }=some (.bool (true==true)) from w_eq_bool (w_res rfl) w_lit) rfl
theorem attach_call {l:OpenLaw} {n:Nat} {q:Program} {loose:List Str} {XP:(Str->Option Value)->Heap->Prop} {YP:World->Heap->Prop} {d:DefRec}
  (hn:l.most=some n) (hdf:d.params.defaults=[])
  (call:∀ (w:World) (s₀ s₁:Shared) (mg mb:Str->Option Value) (fa:Addr) (o:Obj) (pm cd doc:Value) (a:Addr) (vs:List Value) (ns:List Int),
   Ground q loose [] XP w s₀ mg mb s₁.heap->YP w s₁.heap ->
   s₁.heap.get? fa=some o->o.data=.func (docDef d.name d.params d.body d.scope pm cd doc)->s₁.heap.CodeRec cd d.name->mg d.name=some (.ref fa) ->
   s₁.heap.get? a=some { cls:=.type "list",data:=.seq vs.toArray }->IntsAre vs ns->ns.length<=n->s₁.gens=#[] ->
   codeAny (model l.prog w) callerA (.call (.ref fa) ⟨[.ref a],[]⟩) (fun r s'=>r=.ok (.ret (.bool true))/\OldK s₁.heap s'.heap/\s'.os=s₁.os/\AllBare s'.gens) s₁) :
  WalkO q loose XP YP l.row.toRowW d [] (fun f vs=>PySem.call f vs):=by
 intro w s₀ s₁ mg mb G Y fa o pm cd doc dV kV ho hd hcd hD hmg hg args vals as hpre hlay hrd hwl hlo
 obtain rfl:dV=.none:=Dflts.none hD hdf
 obtain rfl:kV=.none:=Dflts.noKw hD
 obtain ⟨a,vs,ns,rfl,rfl,hobj,hints,hlen⟩:=Qbo hn hpre hwl
 refine enter_call (codeAny_mono (call w s₀ s₁ mg mb fa o pm cd doc a vs ns G Y ho (fd_plain hd) hcd hmg hobj hints hlen hg) fun r s' hq=>?_)
 obtain ⟨rfl,h2,h3,h4⟩:=hq
 exact ⟨.inl ⟨.bool true,.bool true,[],rfl,fun _=>rfl,.bool true,Qad l _,fun _=>⟨List.Pairwise.nil,fun _ hm=>(nomatch hm)⟩⟩,h2,h3,h4⟩
section
variable {prog:Program} {w:World} {A:Around} {E:Value->Shared->Prop} {s:Shared} {K:Frag}
end
end Att
namespace L2
open PySem PySem.Spec PyProof.Rows
theorem Qcl {vs:List Value} {ns:List Int} (h:IntsAre vs ns):Vals (ns.map V.int) vs:=by
 induction h with
 | nil=>exact .nil
 | cons n t h ih=>exact .cons ⟨t,rfl⟩ ih
def RH (H:Hp):Prop:=∀ b,H b=none\/∃ o xs,H b=some (.frz o (.lst xs))
theorem CP {P:Program} {w:World} {K:PySem.W.Frag} {mg mb:Str->Option Value} {CX:ZF} {k:Nat} {fa a:Addr} {fd:FuncData} {x:Str} {sp:Sp} {s₁:Shared} {vs:List Value} {ns:List Int}
  (KX:K.In s₁.heap) (hns:s₁.heap.Ns mainGlobals mg) (hb:s₁.heap.Ns builtinsNs mb) (hbb:∀ x:Str,x≠"__name__"->mb x=bootBuiltins x) (hlim:s₁.heap.NoLimit) (hg:s₁.gens=#[])
  (ha:s₁.heap.get? a=some { cls:=.type "list",data:=.seq vs.toArray }) (hi:IntsAre vs ns) (hl:ns.length<=sizeLine) (hr:Room k callerA)
  (F:∀ base:Heap,K.In base->base.Ns mainGlobals mg->FnOk P w K mg base CX k fa fd [x] sp) (hbind:∀ (s:Shared) (u:Value),BindsTo s fd ⟨[u],[]⟩ [(x,u)])
  (hsp:∀ H:Hp,RH H->SqL K H a (ns.map V.int)->sp [.ref a] H (fun v _=>v=.bl true) fun _ _ _=>False)
  (hCX:∀ H e s',CX [] H s₁ (fun _ _ _=>False) e s'->False) :
  codeAny (model P w) callerA (.call (.ref fa) ⟨[.ref a],[]⟩) (fun r s'=>r=.ok (.ret (.bool true))/\OldK s₁.heap s'.heap/\s'.os=s₁.os/\AllBare s'.gens) s₁:=by
 have rv:=Qcl hi
 have lenV:=hi.length
 have core:∀ H:Hp,RH H->SqL K H a (ns.map V.int)->HOk P w H s₁.heap->(∀ b,H b≠none->b=a)->(H a≠none->K.lookup a=none) ->
   codeAny (model P w) callerA (.call (.ref fa) ⟨[.ref a],[]⟩) (fun r s'=>r=.ok (.ret (.bool true))/\OldK s₁.heap s'.heap/\s'.os=s₁.os/\AllBare s'.gens) s₁:=by
  intro H hO hS hok hA hK
  have base_of:∀ {b:Addr} {o:Obj},s₁.heap.get? b=some o->H b=none->(Yx s₁.heap H).get? b=some o:=fun e n=>DN e n
  have noA:∀ {b:Addr} {o:Obj} {es:Array DictEntry} {ep:Nat},s₁.heap.get? b=some o->o.data=.dict es ep->H b=none:=fun {b o es ep} e d=>by
   cases q:H b with
   | none=>rfl
   | some u =>
    have e':b=a:=hA b (by rw [q];simp)
    subst e'
    rw [ha] at e;cases e
    have d':Data.seq vs.toArray _=Data.dict es ep:=d
    cases d'
  have nsK:∀ {b:Addr} {m:Str->Option Value},s₁.heap.Ns b m->(Yx s₁.heap H).Ns b m:=fun {b m} ⟨o,es,ep,e,d,r⟩=>⟨o,es,ep,base_of e (noA e d),d,r⟩
  have hKb:K.In (Yx s₁.heap H):=fun b o e=>base_of (KX b o e) (by
   cases q:H b with
   | none=>rfl
   | some u =>
    have e':b=a:=hA b (by rw [q];simp)
    subst e'
    rw [hK (by rw [q];simp)] at e;cases e)
  have hM:Mod K mg (Yx s₁.heap H):=⟨hKb,nsK hns,⟨mb,nsK hb,hbb⟩,let ⟨mc,h1,h2⟩:=hlim;⟨mc,nsK h1,h2⟩⟩
  have e0:Env0 P w K mg (Yx s₁.heap H) callerA [] s₁ H:=⟨rfl,hM,fun b o e=>B1 e,Nat.le_of_eq (DO _ _),trivial,fun b hb=>absurd (show b∈([]:List Addr) from hb) (by simp),hok,.of_eq hg⟩
  refine codeAny_mono ((F _ hKb (nsK hns)).run callerA [] s₁ H ⟨[.ref a],[]⟩ [.ref a] [.ref a] _ _ hr e0 (hbind s₁ (.ref a)) (.cons rfl .nil) (hsp H hO hS)) fun r s' h=>?_
  cases r with
  | error e=>exact (hCX H e s' h).elim
  | ok fl =>
   cases fl with
   | next=>exact False.elim h
   | brk=>exact False.elim h
   | cont=>exact False.elim h
   | ret u =>
    obtain ⟨v,H',os,bare,un,hok',r',q⟩:=h
    have q':v=.bl true:=q
    subst q'
    obtain rfl:u=Value.bool true:=r'
    refine ⟨rfl,OldK.of_keep fun b o e=>?_,os,bare⟩
    cases q:H b with
    | none=>exact un.keep b o e q (by intro z;exact absurd (show b∈([]:List Addr) from z) (by simp)) (by simp)
    | some u =>
     rcases hO b with z | ⟨ob,xs,z⟩
     ·rw [q] at z;cases z
     ·have z2:=un.frzs b ob _ z
      obtain ⟨e1,_⟩:=hok b _ z
      obtain ⟨e2,_⟩:=hok' b _ z2
      rw [e] at e1;cases e1
      exact e2
 cases hk:K.lookup a with
 | some o =>
  have e:=KX a o hk
  rw [ha] at e
  cases e
  refine core (fun _=>none) (fun _=>.inl rfl) (.inr ⟨_,vs.toArray,_,hk,rfl,rfl,rfl,by rw [List.size_toArray,lenV];exact hl,by simpa using rv⟩) (fun b u z=>by have z':(none:Option HO)=some u:=z;cases z') (fun b z=>absurd rfl z) fun z=>absurd rfl z
 | none =>
  refine core (fun b=>if b=a then some (.frz { cls:=.type "list",data:=.seq vs.toArray } (.lst (ns.map V.int))) else none) (fun b=>?_) (.inl (.inr ⟨{ cls:=.type "list",data:=.seq vs.toArray },if_pos rfl⟩)) (fun b u z=>?_) (fun b z=>?_) fun _=>hk
  ·by_cases hb:b=a
   ·exact .inr ⟨_,_,if_pos hb⟩
   ·exact .inl (if_neg hb)
  ·by_cases hb:b=a
   ·have z':=(if_pos hb).symm.trans z
    cases z'
    subst hb
    exact ⟨ha,by rw [List.length_map];exact hl,vs,_,rv,ha⟩
   ·have z':=(if_neg hb).symm.trans z
    cases z'
  ·by_cases hb:b=a
   ·exact hb
   ·exact absurd (if_neg hb) z
end L2
namespace L2
open PySem PySem.Spec PyProof.Rows
theorem walk_of {l:PySem.W.OpenLaw} {n k:Nat} {q:Program} {loose:List Str} {XP:(Str->Option Value)->Heap->Prop} {YP:World->Heap->Prop} {d:DefRec} {K:Params->PySem.W.Frag} {CX:World->ZF} {sp:World->Sp} {x:Str}
  (hn:l.most=some n) (hn2:n<=sizeLine) (hdf:d.params.defaults=[]) (hr:Room k callerA)
  (hY:∀ (w:World) (h:Heap),YP w h->(K w.params).In h)
  (F:∀ (w:World) (mg:Str->Option Value) (fa:Addr) (h:Heap),(K w.params).In h->h.Ns mainGlobals mg->mg d.name=some (.ref fa) ->
   ∃ fd:FuncData,(∀ (s:Shared) (u:Value),BindsTo s fd ⟨[u],[]⟩ [(x,u)]) /\
    ∀ base:Heap,(K w.params).In base->base.Ns mainGlobals mg->FnOk l.prog w (K w.params) mg base (CX w) k fa fd [x] (sp w))
  (hsp:∀ (w:World) (H:Hp) (a:Addr) (ns:List Int),ns.length<=n->RH H->SqL (K w.params) H a (ns.map V.int)->sp w [.ref a] H (fun v _=>v=.bl true) fun _ _ _=>False)
  (hCX:∀ (w:World) (H:Hp) (s:Shared) (e:Value) (s':Shared),CX w [] H s (fun _ _ _=>False) e s'->False) :
  PySem.W.WalkO q loose XP YP l.row.toRowW d [] (fun f vs=>PySem.call f vs):=by
 refine Att.attach_call hn hdf fun w s₀ s₁ mg mb fa o pm cd doc a vs ns G Y ho hd hcd hmg hobj hints hlen hg=>?_
 have KX:=hY w _ Y
 obtain ⟨fd,hb,hF⟩:=F w mg fa _ KX G.T.g hmg
 exact CP KX G.T.g G.T.b G.T.builtins G.T.nolimit hg hobj hints (Nat.le_trans hlen hn2) hr hF hb (fun H hO hS=>hsp w H a ns hlen hO hS) fun H e s'=>hCX w H s₁ e s'
end L2
namespace L2
open PySem PySem.Spec PyProof.Rows
def QcI (s:Stmt) (j:Nat):Stmt:=match s with
 | .ClassDef _ _ _ body _ _ _ _ _ _ _=>body.getD j (.Pass ⟨0,0,0,0⟩)
 | _=>.Pass ⟨0,0,0,0⟩
def ZH (s:Stmt):Arguments:=match s with
 | .FunctionDef _ a _ _ _ _ _ _ _ _=>a
 | _=>{ posonlyargs:=[],args:=[],vararg:=none,kwonlyargs:=[],kw_defaults:=[],kwarg:=none,defaults:=[] }
def J9 (s:Stmt):List Stmt:=match s with
 | .FunctionDef _ _ b _ _ _ _ _ _ _=>b
 | _=>[]
def Q7 (s:Stmt):Scope:=match s with
 | .FunctionDef _ _ _ _ _ _ sc _ _ _=>sc
 | _=>{ kind:=.function,names:=[],isGenerator:=false,isCoroutine:=false }
abbrev Qk:ZF:=fun _ _ _ _ _ _=>False
abbrev E0:XK:=fun _ _ _=>False
theorem Ia {X:Cx}:RJ Qk X E0:=fun _ _ _ _ _ _ _ h=>h.elim
structure Fun (K:PySem.W.Frag) (x qual:Str) (st:Stmt) (f:Addr) (fd:FuncData):Prop where
 ex:∃ (oc:Value) (od:Option Addr) (kV doc pm:Value) (an:Option Addr) (cdv ct:Value) (osl:Array (Option Value)),
  fd=PySem.W.fnOf x qual (ZH st) (J9 st) (Q7 st) .none kV doc pm an cdv ct/\K.lookup f=some ⟨oc,od,.func fd,osl⟩/\PySem.W.codeIn K cdv qual=true
 kp:PySem.W.keepIn K (.ref f)=true
section
variable {P:Program} {w:World} {K:PySem.W.Frag} {mg:Str->Option Value} {base:Heap}
theorem Fun.ok {x qual:Str} {st:Stmt} {f:Addr} {fd:FuncData} {N ps:List Str} {k:Nat} {sp:Sp} (F:Fun K x qual st f fd) (S:FnScope N ps (Q7 st)) (len:∀ vs H Q E,sp vs H Q E->vs.length=ps.length)
  (hbody:∀ (cdv:Value) (A:Around) (outer:List Env) (s:Shared) (H:Hp) (vs:List V) (Q:VK) (E:XK),Room k (A.deeper (envOfC qual (Q7 st) s.heap.objs.size f cdv))->sp vs H Q E ->
   ∃ t,PSs (Qn Qk P w K mg base N qual (Q7 st) f cdv A outer s H E).nox (J9 st) t/\t { nx:=fun _ H'=>Q .non H',rt:=Q } (start N vs) H):FnOk P w K mg base Qk (k+1) f fd ps sp:=by
 obtain ⟨oc,od,kV,doc,pm,an,cdv,ct,osl,rfl,lk,hcd⟩:=F.ex
 refine K9 lk hcd S len fun A outer s H vs Q E hr hsp=>?_
 obtain ⟨t,h,q⟩:=hbody cdv A outer s H vs Q E hr hsp
 exact ⟨t,h.nox,q⟩
theorem Fun.binds {x qual:Str} {st:Stmt} {f:Addr} {fd:FuncData} {ps:List Str} (F:Fun K x qual st f fd)
  (h:∀ (kV doc pm:Value) (an:Option Addr) (cdv ct:Value) (us:List Value),us.length=ps.length->bindArgs (PySem.W.fnOf x qual (ZH st) (J9 st) (Q7 st) .none kV doc pm an cdv ct) ⟨us,[]⟩=pure (ps.zip us)):Binds K fd ps []:=by
 obtain ⟨oc,od,kV,doc,pm,an,cdv,ct,osl,rfl,lk,hcd⟩:=F.ex
 exact .all (h kV doc pm an cdv ct)
theorem PQ {x qual:Str} {st:Stmt} {f:Addr} {oc:Value} {od an:Option Addr} {osl:Array (Option Value)} {kV doc pm cdv ct:Value} (l:K.lookup f=some ⟨oc,od,.func (PySem.W.fnOf x qual (ZH st) (J9 st) (Q7 st) .none kV doc pm an cdv ct),osl⟩)
  (c:PySem.W.codeIn K cdv qual=true) (k:PySem.W.keepIn K (.ref f)=true):Fun K x qual st f (PySem.W.fnOf x qual (ZH st) (J9 st) (Q7 st) .none kV doc pm an cdv ct):=⟨⟨oc,od,kV,doc,pm,an,cdv,ct,osl,rfl,l,c⟩,k⟩
end
section
variable {X:Cx}
end
theorem Jh {A B:Prop} (h:B):if false=true then A else B:=by
 rw [if_neg Bool.false_ne_true]
 exact h
theorem Jv {A B:Prop} (h:A):if true=true then A else B:=by
 rw [if_pos rfl]
 exact h
end L2
namespace L2
open PySem PySem.Spec PyProof.Rows
section
variable {κ:Type} [DecidableEq κ]
def XM (kvs:List (κ×V)) (k:κ):Option V:=(kvs.find? fun kv=>decide (kv.1=k)).map (·.2)
def Iv (kvs:List (κ×V)) (k:κ) (v:V):List (κ×V) :=
 if (kvs.any fun kv=>decide (kv.1=k))=true then kvs.map (fun kv=>if kv.1=k then (kv.1,v) else kv) else kvs++[(k,v)]
def Lx (kvs:List (κ×V)) (k:κ):List (κ×V):=kvs.filter fun kv=>decide (kv.1≠k)
theorem Qcj {p:κ×V} {r:List (κ×V)} {k:κ} (e:p.1=k):XM (p::r) k=some p.2:=by simp [XM,List.find?_cons,e]
theorem Qci {p:κ×V} {r:List (κ×V)} {k:κ} (e:¬ p.1=k):XM (p::r) k=XM r k:=by simp [XM,List.find?_cons,e]
theorem RelO.getD {o:Option V} {u:Option Value} {d:V} {d':Value} (r:RelO o u) (rd:RelV d d'):RelV (o.getD d) (u.getD d'):=by
 cases o with
 | none=>cases u with
  | none=>exact rd
  | some _=>exact (show False from r).elim
 | some _=>cases u with
  | none=>exact (show False from r).elim
  | some _=>exact r
theorem KV.val {kvs:List (κ×V)} {vs:List (κ×Value)} (r:KV kvs vs) (k:κ):RelO (XM kvs k) (valueAt vs k):=by
 unfold KV at r
 induction r with
 | nil=>exact True.intro
 | @cons p q ps qs h t ih =>
  obtain ⟨h1,h2⟩:=h
  by_cases e:p.1=k
  ·have e':q.1=k:=h1.symm.trans e
   have b:valueAt (q::qs) k=some q.2:=by simp [valueAt,List.find?_cons,e']
   rw [Qcj e,b];exact h2
  ·have e':¬ q.1=k:=fun z=>e (h1.trans z)
   have b:valueAt (q::qs) k=valueAt qs k:=by simp [valueAt,List.find?_cons,e']
   rw [Qci e,b];exact ih
theorem KV.any {kvs:List (κ×V)} {vs:List (κ×Value)} (r:KV kvs vs) (k:κ):(kvs.any fun kv=>decide (kv.1=k))=vs.any fun kv=>decide (kv.1=k):=by
 unfold KV at r
 induction r with
 | nil=>rfl
 | cons h t ih=>rw [List.any_cons,List.any_cons,ih,h.1]
theorem KV.repl {kvs:List (κ×V)} {vs:List (κ×Value)} (r:KV kvs vs) (k:κ) {y:V} {u:Value} (ry:RelV y u) :
  KV (kvs.map fun kv=>if kv.1=k then (kv.1,y) else kv) (vs.map fun kv=>if kv.1=k then (kv.1,u) else kv):=by
 unfold KV at r ⊢
 induction r with
 | nil=>exact .nil
 | @cons p q ps qs h t ih =>
  rw [List.map_cons,List.map_cons]
  refine .cons ?_ ih
  obtain ⟨h1,h2⟩:=h
  by_cases e:p.1=k
  ·rw [if_pos e,if_pos (h1.symm.trans e)];exact ⟨h1,ry⟩
  ·rw [if_neg e,if_neg (fun z=>e (h1.trans z))];exact ⟨h1,h2⟩
theorem KV.put {kvs:List (κ×V)} {vs:List (κ×Value)} (r:KV kvs vs) (k:κ) {y:V} {u:Value} (ry:RelV y u):KV (Iv kvs k y) (stored vs k u):=by
 unfold Iv stored
 rw [r.any k]
 by_cases e:(vs.any fun kv=>decide (kv.1=k))=true
 ·rw [if_pos e,if_pos e];exact r.repl k ry
 ·rw [if_neg e,if_neg e];exact Paired.snoc r ⟨rfl,ry⟩
theorem KV.drop {kvs:List (κ×V)} {vs:List (κ×Value)} (r:KV kvs vs) (k:κ):KV (Lx kvs k) (without vs k):=by
 unfold KV at r ⊢
 unfold Lx without
 induction r with
 | nil=>exact .nil
 | @cons p q ps qs h t ih =>
  obtain ⟨h1,h2⟩:=h
  rw [List.filter_cons,List.filter_cons]
  by_cases e:p.1=k
  ·have a:¬ decide (p.1≠k)=true:=by simp [e]
   have b:¬ decide (q.1≠k)=true:=by simp [h1.symm.trans e]
   rw [if_neg a,if_neg b];exact ih
  ·have e':¬ q.1=k:=fun z=>e (h1.trans z)
   have a:decide (p.1≠k)=true:=by simp [e]
   have b:decide (q.1≠k)=true:=by simp [e']
   rw [if_pos a,if_pos b];exact .cons ⟨h1,h2⟩ ih
theorem KV.length {kvs:List (κ×V)} {vs:List (κ×Value)} (r:KV kvs vs):kvs.length=vs.length:=Paired.length r
end
section
variable {P:Program} {w:World} {H:Hp} {h:Heap} {a:Addr}
end
section
variable {X:Cx} {pins:List (Addr×Obj)} {σ:St} {H:Hp} {s:Shared} {a:Addr} {y v:V} {u r:Value} {o:Option V} {A:Around} {E:Value->Shared->Prop}
end
section
variable {X:Cx} {pins:List (Addr×Obj)} {σ:St} {H:Hp} {s:Shared} {a:Addr} {kvs:List (Jd×V)} {k:Jd} {u:Value} {A:Around} {E:Value->Shared->Prop}
end
section
variable {X:Cx} {o i e value:Expr} {pos pos' tpos:Pos} {td ty tv:TE}
end
section
variable {X:Cx} {pos:Pos}
end
end L2
namespace Wd
open PySem
abbrev Kd:=Sum Int Str
inductive D where
 | non | bl (b:Bool) | int (i:Int) | str (x:Str) | tup (xs:List D) | lst (xs:List D) | scr (ns:List Int) | dic (ks:List Kd) (xs:List D) | exc (c:Nat) (n:D)
abbrev Q2:=List (Option D)
abbrev Q4:=Q2->Option D
abbrev JT:=Q2->Option (List D)
abbrev Wb:=Q2->Option (Option Int)
abbrev Qw:=D->Q2->Option Q2
inductive Fl where
 | nx (e:Q2) | rt (d:D) | bk (e:Q2) | ct (e:Q2) | rz (c:Nat) (d:D) | rm (d z:D)
abbrev Q8:=Q2->Option Fl
def Qc:Nat:=16777216
def Ju {α:Type}:Option D->Option α->Option α->Option α
 | some (.bl c),x,y=>if c=true then x else y
 | _,_,_=>none
def Pl:Option D->Option D
 | some (.bl c)=>some (.bl (!c))
 | _=>none
theorem DR {α:Type} (c:Bool) (x y:Option α):Ju (some (.bl c)) x y=if c=true then x else y:=rfl
mutual
def D.dep:D->Nat
 | .tup xs=>D.depL xs+1
 | .lst xs=>D.depL xs+1
 | .scr _=>1
 | .dic _ xs=>D.depL xs+1
 | _=>0
def D.depL:List D->Nat
 | []=>0
 | x::xs=>max (D.dep x) (D.depL xs)
end
theorem Eb:D.dep .non=0:=by rw [D.dep];all_goals simp
theorem Ea (b:Bool):D.dep (.bl b)=0:=by rw [D.dep];all_goals simp
theorem Vr (i:Int):D.dep (.int i)=0:=by rw [D.dep];all_goals simp
theorem Vs (x:Str):D.dep (.str x)=0:=by rw [D.dep];all_goals simp
theorem Rl (xs:List D):D.dep (.tup xs)=D.depL xs+1:=by rw [D.dep]
theorem TF (xs:List D):D.dep (.lst xs)=D.depL xs+1:=by rw [D.dep]
theorem Ls:D.depL []=0:=by rw [D.depL]
theorem TC (x:D) (xs:List D):D.depL (x::xs)=max (D.dep x) (D.depL xs):=by rw [D.depL]
def RR:Option Bool->Option Bool->Option Bool
 | some a,some b=>some (a&&b)
 | _,_=>none
theorem MJ (a b:Bool):RR (some a) (some b)=some (a&&b):=rfl
mutual
def D.eq:D->D->Option Bool
 | .bl a,e=>match e with
  | .bl b=>some (a==b)
  | _=>none
 | .int i,e=>match e with
  | .int j=>some (decide (i=j))
  | _=>none
 | .str x,e=>match e with
  | .str y=>some (decide (x=y))
  | _=>none
 | .tup xs,e=>match e with
  | .tup ys=>D.eqL xs ys
  | _=>none
 | .lst xs,e=>match e with
  | .lst ys=>D.eqL xs ys
  | _=>none
 | .non,e=>match e with
  | .non=>some true
  | _=>none
 | .scr _,_=>none
 | .dic _ _,_=>none
 | .exc _ _,_=>none
def D.eqL:List D->List D->Option Bool
 | [],[]=>some true
 | x::xs,y::ys=>RR (D.eq x y) (D.eqL xs ys)
 | _,_=>some false
end
theorem Wt (i j:Int):D.eq (.int i) (.int j)=some (decide (i=j)):=by rw [D.eq]
theorem VH (i j:Str):D.eq (.str i) (.str j)=some (decide (i=j)):=by rw [D.eq]
theorem D4 (xs ys:List D):D.eq (.tup xs) (.tup ys)=D.eqL xs ys:=by rw [D.eq]
theorem K1 (xs ys:List D):D.eq (.lst xs) (.lst ys)=D.eqL xs ys:=by rw [D.eq]
theorem D2:D.eqL [] []=some true:=by rw [D.eqL]
theorem D1 (x y:D) (xs ys:List D):D.eqL (x::xs) (y::ys)=RR (D.eq x y) (D.eqL xs ys):=by rw [D.eqL]
def D.cmp (o:Option Bool):Option D:=o.map .bl
def D.cmpN (o:Option Bool):Option D:=o.map fun b=>.bl (!b)
def D.eqO (x y:D):Option D:=if x.dep<=40 then D.cmp (D.eq x y) else none
def D.neO (x y:D):Option D:=if x.dep<=40 then D.cmpN (D.eq x y) else none
def PV:List D->Option (List Int)
 | []=>some []
 | .int i::r=>(PV r).map (i::·)
 | _=>none
def Kq:List Int->List Int->Bool
 | [],_=>true
 | _::_,[]=>false
 | x::xs,y::ys=>if x=y then Kq xs ys else decide (x<y)
def D.lt:D->D->Option D
 | .int i,.int j=>some (.bl (decide (i<j)))
 | _,_=>none
def D.le:D->D->Option D
 | .int i,.int j=>some (.bl (decide (i<=j)))
 | .tup xs,.tup ys=>match PV xs,PV ys with
  | some a,some b=>some (.bl (Kq a b))
  | _,_=>none
 | _,_=>none
def D.gt:D->D->Option D
 | .int i,.int j=>some (.bl (decide (j<i)))
 | _,_=>none
def D.ge:D->D->Option D
 | .int i,.int j=>some (.bl (decide (j<=i)))
 | _,_=>none
def D.len:D->Option D
 | .str x=>if x.length<=Qc then some (.int x.length) else none
 | .tup xs=>some (.int xs.length)
 | .lst xs=>some (.int xs.length)
 | .scr ns=>some (.int ns.length)
 | _=>none
def D.add:D->D->Option D
 | .int i,.int j=>some (.int (i+j))
 | .str x,.str y=>if x.length+y.length<=Qc then some (.str (x++y)) else none
 | .lst xs,.lst ys=>if xs.length+ys.length<=Qc then some (.lst (xs++ys)) else none
 | .tup (x::xs),.tup ys=>if xs.length+1+ys.length<=Qc then some (.tup (x::xs++ys)) else none
 | _,_=>none
def D.sub:D->D->Option D
 | .int i,.int j=>some (.int (i-j))
 | _,_=>none
def D.mul:D->D->Option D
 | .int i,.int j=>if (-(2^64)<i/\i<2^64)\/(-(2^64)<j/\j<2^64) then some (.int (i*j)) else none
 | _,_=>none
def D.mod:D->D->Option D
 | .int i,.int j=>if 0<j then some (.int (i%j)) else none
 | _,_=>none
def D.fdiv:D->D->Option D
 | .int i,.int j=>if 0<j/\j<1073741824 then some (.int (i/j)) else none
 | _,_=>none
def D.pow:D->D->Option D
 | .int i,.int j=>if 0<=j/\j<=1000000/\i.natAbs<2^64 then some (.int (i^j.toNat)) else none
 | _,_=>none
def D.neg:D->Option D
 | .int i=>some (.int (-i))
 | _=>none
theorem Co {i j:Int} (h:-(2^64)<i/\i<2^64):D.mul (.int i) (.int j)=some (.int (i*j)):=if_pos (.inl h)
theorem Cp {i j:Int} (h:-(2^64)<j/\j<2^64):D.mul (.int i) (.int j)=some (.int (i*j)):=if_pos (.inr h)
theorem Cg {i j:Int} (h:0<j):D.mod (.int i) (.int j)=some (.int (i%j)):=if_pos h
theorem D7 {i j:Int} (h:0<j/\j<1073741824):D.fdiv (.int i) (.int j)=some (.int (i/j)):=if_pos h
theorem Qae {i j:Int} (h:0<=j/\j<=1000000/\i.natAbs<2^64):D.pow (.int i) (.int j)=some (.int (i^j.toNat)):=if_pos h
def D.strI:D->Option D
 | .int i=>if i.natAbs<2^1900 then some (.str (Str.ofString (toString i))) else none
 | _=>none
def D.max2:D->D->Option D
 | .int i,.int j=>some (.int (if j > i then j else i))
 | _,_=>none
def Vg:D->String
 | .non=>"NoneType"
 | .bl _=>"bool"
 | .int _=>"int"
 | .str _=>"str"
 | .tup _=>"tuple"
 | .lst _=>"list"
 | .scr _=>"list"
 | .dic _ _=>"dict"
 | .exc _ _=>"exc"
def D.inst (t:String) (d:D):Option D:=match d with
 | .scr _=>none
 | .exc _ _=>none
 | d=>some (.bl (decide (Vg d=t)||(decide (t="int")&&decide (Vg d="bool"))))
def Qu (n:Nat) (i:Int):Option Nat:=if 0<=i then (if i<n then some i.toNat else none) else if -(n:Int)<=i then some (i+n).toNat else none
def D.ix:D->D->Option D
 | .tup xs,.int i=>(Qu xs.length i).bind fun k=>xs[k]?
 | .lst xs,.int i=>(Qu xs.length i).bind fun k=>xs[k]?
 | .scr ns,.int i=>(Qu ns.length i).bind fun k=>(ns[k]?).map .int
 | .str x,.int i=>if x.length<=Qc then (Qu x.length i).bind fun k=>(x.cps[k]?).map fun c=>.str ⟨#[c]⟩ else none
 | _,_=>none
def Jx (n d:Nat):Option Int->Nat
 | none=>d
 | some v=>if v<0 then (v+(n:Int)).toNat else min v.toNat n
def Jf {α:Type} (xs:List α) (lo hi:Option Int):List α:=(xs.drop (Jx xs.length 0 lo)).take (Jx xs.length xs.length hi-Jx xs.length 0 lo)
def D.cut:D->Option Int->Option Int->Option D
 | .lst xs,lo,hi=>some (.lst (Jf xs lo hi))
 | .tup xs,lo,hi=>if Jx xs.length 0 lo=0/\Jx xs.length xs.length hi=xs.length then none else some (.tup (Jf xs lo hi))
 | .scr ns,lo,hi=>some (.lst ((Jf ns lo hi).map .int))
 | _,_,_=>none
def eV (i:Nat):Q4:=fun e=>(e[i]?).join
def eC (d:D):Q4:=fun _=>some d
def Q0 (g:D->D->Option D) (a b:Q4):Q4:=fun e=>(a e).bind fun x=>(b e).bind fun y=>g x y
def QA (g:D->Option D) (a:Q4):Q4:=fun e=>(a e).bind fun x=>g x
def Jm (a:Q4):Q4:=fun e=>Pl (a e)
def QP (a b:Q4):Q4:=fun e=>Ju (a e) (b e) (some (.bl false))
def Qm (a b:Q4):Q4:=fun e=>Ju (a e) (some (.bl true)) (b e)
def YX (c a b:Q4):Q4:=fun e=>Ju (c e) (a e) (b e)
def Ws (g g':D->D->Option D) (a b c:Q4):Q4:=fun e=>(a e).bind fun x=>(b e).bind fun y=>Ju (g x y) ((c e).bind fun z=>g' y z) (some (.bl false))
def lN:JT:=fun _=>some []
def lC (a:Q4) (l:JT):JT:=fun e=>(a e).bind fun x=>(l e).map fun xs=>x::xs
def Qa (l:JT):Q4:=fun e=>(l e).map .tup
def QY (l:JT):Q4:=fun e=>(l e).map .lst
def eK (f:List D->Option D) (l:JT):Q4:=fun e=>(l e).bind f
def Zt (t:String) (a:Q4):Q4:=fun e=>(a e).bind fun x=>D.inst t x
def Xx:Wb:=fun _=>some none
def Zj (a:Q4):Wb:=fun e=>(a e).bind fun d=>match d with
 | .int i=>some (some i)
 | _=>none
def gS (i:Nat):Qw:=fun d e=>some (e.set i (some d))
def YB:List Qw->List D->Q2->Option Q2
 | [],[],e=>some e
 | g::gs,d::ds,e=>(g d e).bind fun e'=>YB gs ds e'
 | _,_,_=>none
def Jt (gs:List Qw):Qw:=fun d e=>match d with
 | .tup ds=>YB gs ds e
 | _=>none
def Ol:Option Fl->Q8->Option Fl
 | some (.nx e),k=>k e
 | some (.rt d),_=>some (.rt d)
 | some (.bk e),_=>some (.bk e)
 | some (.ct e),_=>some (.ct e)
 | some (.rz c d),_=>some (.rz c d)
 | some (.rm d z),_=>some (.rm d z)
 | none,_=>none
def sQ (a b:Q8):Q8:=fun e=>Ol (a e) b
def QD (c:Q4) (a b:Q8):Q8:=fun e=>Ju (c e) (a e) (b e)
def QC (a:Q4):Q8:=fun e=>(a e).map .rt
def QE (a:Q4) (g:Qw):Q8:=fun e=>(a e).bind fun d=>(g d e).map .nx
def QK:Q8:=fun e=>some (.nx e)
def D.app:D->D->Option D
 | .lst xs,d=>if xs.length<Qc then some (.lst (xs++[d])) else none
 | _,_=>none
def D.ext:D->D->Option D
 | .lst xs,.lst ys=>if xs.length+ys.length<=Qc then some (.lst (xs++ys)) else none
 | _,_=>none
def sP (i:Nat) (a:Q4):Q8:=fun e=>(eV i e).bind fun x=>(a e).bind fun d=>(D.app x d).map fun z=>.nx (e.set i (some z))
def YI (i:Nat) (a:Q4):Q8:=fun e=>(eV i e).bind fun x=>(a e).bind fun d=>(D.ext x d).map fun z=>.nx (e.set i (some z))
def Z6:Option Fl->Q8->Option Fl
 | some (.nx e),k=>k e
 | some (.ct e),k=>k e
 | some (.bk e),_=>some (.nx e)
 | some (.rt d),_=>some (.rt d)
 | some (.rz c d),_=>some (.rz c d)
 | some (.rm d z),_=>some (.rm d z)
 | none,_=>none
def ZM (g:Qw) (b:Q8):List D->Q8
 | [],e=>some (.nx e)
 | d::ds,e=>Z6 ((g d e).bind b) (ZM g b ds)
abbrev Jo:=Q2->Option (List D)
def Qq (it:Jo) (g:Qw) (b:Q8):Q8:=fun e=>(it e).bind fun ds=>ZM g b ds e
def rD (lo:Int) (n:Nat):List D:=(List.range n).map fun i:Nat=>.int (lo+(i:Int))
def Zu:Nat->List D->List D
 | _,[]=>[]
 | n,d::ds=>.tup [.int n,d]::Zu (n+1) ds
def D.rng:D->Option (List D)
 | .int n=>if n.natAbs<4611686018427387904 then some (rD 0 n.toNat) else none
 | _=>none
def D.its:D->Option (List D)
 | .lst xs=>some xs
 | .scr ns=>some (ns.map .int)
 | _=>none
def JI (a:Q4):Jo:=fun e=>(a e).bind fun d=>D.rng d
def JP (a:Q4):Jo:=fun e=>(a e).bind fun d=>D.its d
def Yy (a:Q4):Jo:=fun e=>(a e).bind fun d=>(D.its d).map fun ds=>Zu 0 ds
def TK:Option Fl->Option D
 | some (.rt d)=>some d
 | some (.nx _)=>some .non
 | _=>none
def Ja (n:Nat) (ds:List D):Q2:=ds.map some++List.replicate (n-ds.length) none
def QT (n k:Nat) (b:Q8) (ds:List D):Option D:=if ds.length=k then TK (b (Ja n ds)) else none
end Wd
namespace Wd
open PySem
def Z7 (g:Qw) (c el:Q4):List D->Q2->Option (List D)
 | [],_=>some []
 | d::ds,e=>(g d e).bind fun e1=>Ju (c e1) ((el e1).bind fun x=>(Z7 g c el ds e1).map fun r=>x::r) (Z7 g c el ds e1)
def Yl (n:Nat) (caps:List Nat) (e:Q2):Q2:=List.replicate n none++caps.map fun i=>(e[i]?).join
def JV (n:Nat) (caps:List Nat) (it:Jo) (g:Qw) (c el:Q4):Q4:=fun e=>(it e).bind fun ds=>if ds.length<=Qc then (Z7 g c el ds (Yl n caps e)).map .lst else none
end Wd
namespace Wd
open PySem
def VG (x:Str) (lo hi:Option Int):Str:=⟨(Jf x.cps.toList lo hi).toArray⟩
def Xw (x:Str) (n:Int):Str:=⟨(List.replicate n.toNat x.cps.toList).flatten.toArray⟩
def Xd (x:D) (lo hi:Option Int):Option D:=match x with
 | .str z=>if z.length<=Qc then some (.str (VG z lo hi)) else none
 | d=>D.cut d lo hi
def YW (a:Q4) (lo hi:Wb):Q4:=fun e=>(a e).bind fun x=>(lo e).bind fun l=>(hi e).bind fun h=>Xd x l h
def D.strip:D->Option D
 | .str x=>if x.length<=Qc then some (.str (Txt.strip x)) else none
 | _=>none
def D.mulA:D->D->Option D
 | .int i,.int j=>D.mul (.int i) (.int j)
 | .str x,.int n=>if -1073741824<n/\n<1073741824/\x.length*n.toNat<=Qc then some (.str (Xw x n)) else none
 | .lst xs,.int n=>if -1073741824<n/\n<1073741824/\xs.length*n.toNat<=Qc then some (.lst (List.replicate n.toNat xs).flatten) else none
 | _,_=>none
def ZT:D->Bool
 | .str _=>true
 | _=>false
def inD (x:D):List D->Bool
 | []=>false
 | y::ys=>(D.eq y x==some true)||inD x ys
def D.inO (x y:D):Option D:=match y with
 | .tup ys=>if ZT x=true/\ys.all ZT=true then some (.bl (inD x ys)) else none
 | .lst ys=>if ZT x=true/\ys.all ZT=true then some (.bl (inD x ys)) else none
 | _=>none
def D.listOf:D->Option D
 | .lst xs=>some (.lst xs)
 | .tup xs=>some (.lst xs)
 | .scr ns=>some (.lst (ns.map .int))
 | _=>none
end Wd
namespace Wd
open PySem
def YQ:List D->Option (List Bool)
 | []=>some []
 | .bl b::r=>(YQ r).map (b::·)
 | _=>none
end Wd
namespace Wd
open PySem
theorem QaN {a:Q4}:∀ e en,QC a e≠some (.nx en):=fun e en h=>by
 unfold QC at h
 cases q:a e with
 | none=>rw [q] at h;cases h
 | some d=>rw [q] at h;cases h
theorem O9 {a b:Q8} (hb:∀ e en,b e≠some (.nx en)):∀ e en,sQ a b e≠some (.nx en):=fun e en h=>by
 unfold sQ at h
 cases q:a e with
 | none=>rw [q] at h;cases h
 | some f=>rw [q] at h;cases f with
  | nx e1=>exact hb e1 en h
  | _=>cases h
end Wd
namespace Wd
open PySem
def CA:D->Option Kd
 | .str x=>some (.inr x)
 | .int i=>some (.inl i)
 | _=>none
def DJ (k:Kd) (ks:List Kd):Bool:=ks.any fun c=>decide (c=k)
def Lf:List Kd->List D->Kd->D->List D
 | c::ks,d::ds,k,v=>(if c=k then v else d)::Lf ks ds k v
 | _,_,_,_=>[]
def FV (ks:List Kd) (ds:List D) (k:Kd) (v:D):D:=if DJ k ks=true then .dic ks (Lf ks ds k v) else .dic (ks++[k]) (ds++[v])
def D.put (x y v:D):Option D:=match x with
 | .dic ks ds=>(CA y).bind fun k=>if ks.length<Qc then some (FV ks ds k v) else none
 | _=>none
end Wd
namespace Wd
open PySem
end Wd
namespace Wd
open PySem
end Wd
namespace Wd
open PySem
end Wd
namespace Wd
open PySem
end Wd
namespace Wd
open PySem
abbrev Rs:=Sum D (Nat×D)
def D.blkO (c:Nat):D->Option Fl
 | .int i=>if 0<=i/\i<10^60 then some (.rz c (.int i)) else none
 | _=>none
def WS (c:Nat) (a:Q4):Q8:=fun e=>(a e).bind (D.blkO c)
def Wn (n k:Nat) (b:Q8) (ds:List D):Option Rs:=if ds.length=k then match b (Ja n ds) with
 | some (.rt d)=>some (.inl d)
 | some (.nx _)=>some (.inl .non)
 | some (.rz c d)=>some (.inr (c,d))
 | _=>none else none
def QaG (e:Q2):Rs->Fl
 | .inl _=>.nx e
 | .inr (c,n)=>.rz c n
def UX (f:List D->Option Rs) (l:JT):Q8:=fun e=>(l e).bind fun ds=>(f ds).map (QaG e)
def Hy (i j:Nat) (e:Q2):Option Fl->Option Fl
 | some (.nx e')=>some (.nx e')
 | some (.rz c n)=>if c<=6 then some (.nx ((e.set i (some (.exc c n))).set j none)) else none
 | _=>none
def SJ (i j:Nat) (b:Q8):Q8:=fun e=>Hy i j e (b e)
def D.cat:D->D->Option D
 | .lst xs,.lst ys=>if xs.length+ys.length<=Qc then some (.lst (xs++ys)) else none
 | _,_=>none
def D.instX (c:Nat):D->Option D
 | .exc c' _=>if c'<=6 then some (.bl (decide (c'=c))) else none
 | .non=>some (.bl false)
 | _=>none
def D.instV:D->Option D
 | .exc c _=>if c<=6 then some (.bl true) else none
 | .non=>some (.bl false)
 | _=>none
def D.blk:D->Option D
 | .exc c n=>if c=0\/6<c then none else some n
 | _=>none
def D.isN:D->Option D
 | .non=>some (.bl true)
 | _=>some (.bl false)
def D.isNN:D->Option D
 | .non=>some (.bl false)
 | _=>some (.bl true)
end Wd
namespace Wd
open PySem
def UZ:Q8:=fun _=>none
end Wd
namespace Wd
open PySem
def QS (f:Str->Str->Option D):D->D->Option D
 | .str x,.str y=>f x y
 | _,_=>none
def Va (f:Str->Option D):D->Option D
 | .str x=>f x
 | _=>none
def JK (x y:Str):Option D:=some (.bl (Txt.startswith x y))
def Z0 (x y:Str):Option D:=some (.int (Txt.count x y))
def Ud (x y:Str):Option D:=if x.length<=Qc then some (.str (Txt.stripChars x y)) else none
def V8 (x y:Str):Option D:=if (y.length==0)=false/\x.length<=100000 then some (.lst ((Txt.split x y).map .str)) else none
def WU (k:Nat) (x y:Str):Option D:=if (y.length==0)=false/\x.length<=100000/\k<1000 then some (.lst ((Txt.splitMax x y k).map .str)) else none
def V5 (x y:Str):Option D:=if (y.length==0)=false/\x.length<=100000 then some (.tup ([(Txt.partition x y).1,(Txt.partition x y).2.1,(Txt.partition x y).2.2].map .str)) else none
def KW (x:Str):Option D:=some (.bl (Txt.isdigit x))
def IT:List Nat->Option D
 | [c]=>some (.int c)
 | _=>none
def D.ord:D->Option D
 | .str x=>IT x.cps.toList
 | _=>none
def D.intS:D->Option D
 | .str x=>if x.length<=640 then (intText? x).map .int else none
 | _=>none
def V9:List D->Option (List Str)
 | []=>some []
 | .str x::r=>(V9 r).map (x::·)
 | _=>none
def D.joinS (sep:Str):D->Option D
 | .lst ds=>(V9 ds).bind fun N=>if N.length<=100/\∀ y∈N,y.length<=10000 then some (.str (Str.join sep N)) else none
 | _=>none
def D.leS:D->D->Option D
 | .str x,.str y=>some (.bl (!(decide (y.cps.toList<x.cps.toList))))
 | _,_=>none
def D.notInS:D->D->Option D
 | .str y,.str x=>some (.bl (!Txt.contains x y))
 | _,_=>none
def D.allL:D->Option D
 | .lst ds=>(YQ ds).map fun bs=>.bl (bs.all id)
 | _=>none
def D.eqN:D->D->Option D
 | .non,.lst _=>some (.bl false)
 | x,y=>D.eqO x y
def D.repl (y z:Str):D->Option D
 | .str x=>if x.length<=1048576 then some (.str (Txt.replace x y z)) else none
 | _=>none
def D.replI (k:Int) (y z:Str):D->Option D
 | .tup ds=>((Qu ds.length k).bind fun j=>ds[j]?).bind (D.repl y z)
 | _=>none
def D.itsS:D->Option (List D)
 | .str x=>if x.cps.all (·<128)=true then some (x.cps.toList.map fun c=>.str ⟨#[c]⟩) else none
 | _=>none
def W4 (a:Q4):Jo:=fun e=>(a e).bind fun d=>D.itsS d
def Yb:D->Option Str
 | .str x=>if x.length<=100000 then some x else none
 | .int i=>if 0<=i/\i<10^60 then some (Str.ofString (toString i)) else none
 | _=>none
abbrev YM:=Sum Str Q4
def YA:List YM->Q2->Str->Option Str
 | [],_,acc=>some acc
 | .inl a::r,e,acc=>YA r e (acc++a)
 | .inr v::r,e,acc=>(v e).bind fun d=>(Yb d).bind fun x=>YA r e (acc++x)
def Vx (ps:List YM):Q4:=fun e=>(YA ps e Str.empty).map .str
end Wd
namespace Wd
open PySem
inductive Im where
 | pl (d:D) | wd (x:Str) (ns:List Str)
inductive Bk where
 | pl (d:D) | tb (rows:List Str) (lab:D) | pa (is:List Im)
abbrev BM:=List Bk
def Z3:Im->D
 | .pl d=>d
 | .wd x ns=>.tup [.str "word",.str x,.lst (ns.map .str)]
def J3:Bk->D
 | .pl d=>d
 | .tb r l=>.tup [.str "table",.lst (r.map .str),l]
 | .pa is=>.tup [.str "para",.lst (is.map Z3)]
def JM (m:BM):D:=.lst (m.map J3)
def To:D->Option Str
 | .tup (.str k::_)=>some k
 | _=>none
def XA (k:Str) (d:D):Option Bool:=(To d).bind fun x=>if x=k then none else some false
def Vd:Bk->Option Bool
 | .tb _ _=>some true
 | .pa _=>some false
 | .pl d=>XA "table" d
def WL:Bk->Option Bool
 | .tb _ _=>some false
 | .pa _=>some true
 | .pl d=>XA "para" d
def Uj:Im->Option Bool
 | .wd _ _=>some true
 | .pl d=>XA "word" d
def Zm:Bk->Option Bool
 | .tb _ _=>some false
 | .pa is=>match is.getLast? with
  | none=>some false
  | some i=>Uj i
 | .pl d=>XA "para" d
def Z9 (f:Bk->Option Bool) (m:BM):Option Bool:=match m.getLast? with
 | none=>some false
 | some b=>f b
def ZL (f:Bk->Bk) (m:BM):BM:=match m.getLast? with
 | none=>m
 | some b=>m.dropLast++[f b]
def O8 (y:Str):Bk->Bk
 | .tb r l=>.tb (r++[y]) l
 | b=>b
def Pm (y:Str):Im->Im
 | .wd x ns=>.wd x (ns++[y])
 | i=>i
def XC (y:Str):Bk->Bk
 | .pa is=>match is.getLast? with
  | none=>.pa is
  | some i=>.pa (is.dropLast++[Pm y i])
 | b=>b
def X4 (i:Im):Bk->Bk
 | .pa is=>.pa (is++[i])
 | b=>b
def WT:Im->Bool
 | .wd _ ns=>ns.length<100000
 | .pl _=>true
def Y1:Bk->Bool
 | .tb r _=>r.length<100000
 | .pa is=>is.length<100000&&is.all WT
 | .pl _=>true
def JX (m:BM):Bool:=m.length<100000&&m.all Y1
def Vf:D->Im
 | .tup [.str k,.str x,.lst []]=>if k="word" then .wd x [] else .pl (.tup [.str k,.str x,.lst []])
 | d=>.pl d
def WY:D->Bk
 | .tup [.str k,.lst [],.str l]=>if k="table" then .tb [] (.str l) else .pl (.tup [.str k,.lst [],.str l])
 | .tup [.str k,.lst []]=>if k="para" then .pa [] else .pl (.tup [.str k,.lst []])
 | d=>.pl d
end Wd
namespace Wd
open PySem
section
variable {μ:Type}
abbrev J4 (μ:Type):=Q2->μ->Option (Q2×μ)
def loopR (g:Qw) (b:J4 μ):List D->J4 μ
 | [],e,m=>some (e,m)
 | d::ds,e,m=>(g d e).bind fun e1=>(b e1 m).bind fun r=>loopR g b ds r.1 r.2
def V7 (it:Jo) (g:Qw) (b:J4 μ):J4 μ:=fun e m=>(it e).bind fun ds=>loopR g b ds e m
def Jl (a b:J4 μ):J4 μ:=fun e m=>(a e m).bind fun r=>b r.1 r.2
def Jz (vw:Q2->μ->Q2) (cv:Q4) (ba bb:J4 μ):J4 μ:=fun e m=>if e.length<=1000 then match cv (vw e m) with
 | some (.bl true)=>ba e m
 | some (.bl false)=>bb e m
 | _=>none else none
def Il:D->Bool
 | .bl _ | .int _ | .str _ | .non=>true
 | _=>false
def Wi (vw:Q2->μ->Q2) (j:Nat) (ev:Q4):J4 μ:=fun e m=>if e.length<=1000 then (ev (vw e m)).bind fun d=>if Il d=true then some (e.set j (some d),m) else none else none
def Za (s:Q8):J4 μ:=fun e m=>match s e with
 | some (.nx e')=>if e.length<=1000/\e'.length<=1000 then some (e',m) else none
 | _=>none
def VV (x:Str):Str:=(Txt.partition x " ").2.2
def RP (d:D) (m:BM):Option (Bool×BM):=match d with
 | .non=>some (false,m)
 | .tup ds=>if JX m=true then (Z9 WL m).map fun b=>if b=true then (true,ZL (X4 (Vf (.tup ds))) m) else (false,m) else none
 | _=>none
abbrev Zn:=Q2->BM->Option (Bool×BM)
def Sq (e:Q2) (m:BM):Q2:=e.set 0 (some (JM m))
def YO (cv:Q4) (ba bb:Zn):Zn:=fun e m=>match cv (Sq e m) with
 | some (.bl true)=>ba e m
 | some (.bl false)=>bb e m
 | _=>none
def RV:Zn:=fun _ m=>some (false,m)
def Ux (q:Bk->Option Bool) (U:Str->Bk->Bk):Zn:=fun e m=>match eV 1 e with
 | some (.str x)=>if x.length<=100000/\JX m=true then (Z9 q m).map fun b=>if b=true then (true,ZL (U (VV x)) m) else (false,m) else none
 | _=>none
def Wj (fb fi:List D->Option D):Zn:=fun e m=>match eV 1 e with
 | some (.str x)=>if JX m=true/\2<e.length then (fb [.str x]).bind fun d=>match d with
  | .non=>(fi [.str x]).bind fun i=>RP i m
  | .tup ds=>some (true,m++[WY (.tup ds)])
  | _=>none else none
 | _=>none
def Lq (b:Zn) (x:Str) (m:BM):Option (Bool×BM):=b [none,some (.str x),none] m
def Xf (n k:Nat) (b:Q2->Option (List D)) (ds:List D):Option (List D):=if ds.length=k then b (Ja n ds) else none
def Y7 (j:Nat) (f:Str->BM->Option (Bool×BM)):J4 BM:=fun e m=>match eV j e with
 | some (.str x)=>if e.length<=1000 then (f x m).bind fun r=>if r.1=true then some (e,r.2) else none else none
 | _=>none
def X3:Option D->Bool
 | some (.bl false)=>true
 | _=>false
def SI (i:Nat) (b:J4 BM) (cl:Q4):Q2->Option (List D):=fun e=>if i<e.length/\e.length<=1000 then (b (e.set i none) []).bind fun r=>if r.1.length<=1000/\X3 (cl (r.1.set i (some (JM r.2))))=true then some (r.2.map J3) else none else none
abbrev BL:=BM×List Str
def Jb (i j:Nat) (e:Q2) (m:BL):Q2:=(e.set i (some (JM m.1))).set j (some (.lst (m.2.map .str)))
def XU (ev:Q4):J4 BL:=fun e m=>match ev e with
 | some (.str x)=>if e.length<=1000/\m.2.length<100000 then some (e,(m.1,m.2++[x])) else none
 | _=>none
def Uw (ev:Q4):J4 BL:=fun e m=>(ev e).bind fun d=>if e.length<=1000/\m.1.length<100000 then some (e,(m.1++[.pl d],m.2)) else none
def Vl:J4 BL:=fun e m=>if e.length<=1000/\m.1.length<100000 then some (e,(m.1++[.pa []],m.2)) else none
def RU (ev:Q4):J4 BL:=fun e m=>(ev e).bind fun d=>if e.length<=1000/\JX m.1=true/\Z9 WL m.1=some true then some (e,(ZL (X4 (.pl d)) m.1,m.2)) else none
def Rt:Option (Option D)->Option (Option D)->Bool
 | some (some (.lst [])),some (some (.lst []))=>true
 | _,_=>false
def WR (i j:Nat) (b:J4 BL):Q8:=fun e=>if Rt e[i]? e[j]?=true/\e.length<=1000/\i≠j then (b ((e.set i none).set j none) ([],[])).bind fun r=>if r.1.length<=1000 then some (.nx (Jb i j r.1 r.2)) else none else none
def Xq:D->Bool
 | .tup (.str k::.lst es::_)=>es.length<=100000
 | .tup (.str k::_)=>!(decide (k="para")||decide (k="table"))
 | _=>false
def CW:D->Nat
 | .lst es=>es.length
 | _=>0
def KQ:D->Bool
 | .lst _=>true
 | _=>false
def WQ (i j l:Nat) (fw:List D->Option D) (al:JT) (fr:List D->Option (List D)) (ar:JT) (cv:Q4):Q8:=fun e=>(al e).bind fun ds=>(fw ds).bind fun dw=>(ar (e.set i (some dw))).bind fun dr=>(fr dr).bind fun T =>
 if KQ dw=true/\CW dw<=2000000/\T.length<=100000/\T.all Xq=true/\i<e.length/\j<e.length/\l<e.length/\X3 (cv ((e.set i (some dw)).set j (some (.lst T))))=true then some (.nx (((e.set i none).set j none).set l none)) else none
def UY (i:Nat) (b:Q8):Q8:=fun e=>match eV i e,b e with
 | some (.lst ds),some (.nx e')=>if e.length<=1000/\e'.length=e.length then some (.nx ((List.replicate e.length none).set i (some (.lst ds)))) else none
 | _,_=>none
def TB (n k:Nat) (b:(List D->Option D)->Q8):Nat->List D->Option D
 | 0=>fun _=>none
 | i+1=>QT n k (b (TB n k b i))
end
end Wd
namespace Wd
open PySem PySem.Spec PyProof.Rows L2
abbrev Fg:=PySem.W.Frag
def Sm (F H:Hp):Prop:=∀ a o,F a=some o->H a=some o
theorem Sm.refl (F:Hp):Sm F F:=fun _ _ h=>h
theorem Sm.trans {F G H:Hp} (a:Sm F G) (b:Sm G H):Sm F H:=fun x o h=>b x o (a x o h)
theorem Sm.none {F H:Hp} (s:Sm F H) {a:Addr} (h:H a=none):F a=none:=by
 cases e:F a with
 | none=>rfl
 | some o=>rw [s a o e] at h;simp at h
theorem Sm.upd {F H:Hp} (s:Sm F H) {p:Addr} (o:HO) (h:F p=Option.none):Sm F (L2.upd H p o):=fun a x e=>by
 have:a≠p:=fun z=>by rw [z,h] at e;simp at e
 rw [QB this];exact s a x e
theorem Sm.upd2 {F H:Hp} (s:Sm F H) (p:Addr) (o:HO):Sm (L2.upd F p o) (L2.upd H p o):=fun a x e=>by
 by_cases z:a=p
 ·subst z;rw [QQ] at e ⊢;exact e
 ·rw [QB z] at e ⊢;exact s a x e
theorem Sm.sqL {K:Fg} {F H:Hp} (s:Sm F H) {a:Addr} {xs:List V} (h:SqL K F a xs):SqL K H a xs:=by
 rcases h with (h | ⟨o,h⟩) | h
 ·exact .inl (.inl (s _ _ h))
 ·exact .inl (.inr ⟨o,s _ _ h⟩)
 ·exact .inr h
def QcE:Nat->Str
 | 0=>"NoStyle"
 | 1=>"TooWide"
 | 2=>"TooHigh"
 | 3=>"Twice"
 | 4=>"Loose"
 | 5=>"NoLabel"
 | _=>"NoRow"
def Dh (x:Str) (o:Obj):Bool:=match o.data with
 | .cls cd=>decide (cd.name=x)
 | _=>false
def Qz (K:Fg) (c:Nat):Addr:=((K.find? fun p=>Dh (QcE c) p.2).map (·.1)).getD 0
def Y5 (a C:Addr) (dx:Option Addr) (h:Heap):Prop:=∃ vs t,h.get? a=some { cls:=.ref C,dict:=dx,data:=.fields vs }/\vs.size=6/\vs[0]?=some (.ref t)
mutual
inductive Rep (K:Fg) (F:Hp):V->D->Prop where
 | non:Rep K F .non .non
 | bl (b:Bool):Rep K F (.bl b) (.bl b)
 | int (i:Int):Rep K F (.int i) (.int i)
 | str (x:Str):Rep K F (.str x) (.str x)
 | tup {a:Addr} {xs:List V} {ds:List D} (h:F a=some (.tup xs)) (r:Reps K F xs ds):Rep K F (.ref a) (.tup ds)
 | lst {a:Addr} {xs:List V} {ds:List D} (h:F a=some (.lst xs)) (r:Reps K F xs ds):Rep K F (.ref a) (.lst ds)
 | scr {a:Addr} {ns:List Int} (h:SqL K F a (ns.map V.int)):Rep K F (.ref a) (.scr ns)
 | exc0 {a:Addr} (h:F a=some (.ext (Y5 a (Qz K 0) none))):Rep K F (.ref a) (.exc 0 .non)
 | exc {a dx:Addr} {c:Nat} {i:Int} (h:F a=some (.ext (Y5 a (Qz K c) (some dx)))) (hx:F dx=some (.xd [("row",.int i)])):Rep K F (.ref a) (.exc c (.int i))
 | dic {a:Addr} {o:Obj} {ks:List Kd} {xs:List V} {ds:List D} (h:F a=some (.frz o (.dK (ks.zip xs)))) (hl:ks.length=xs.length) (r:Reps K F xs ds):Rep K F (.ref a) (.dic ks ds)
inductive Reps (K:Fg) (F:Hp):List V->List D->Prop where
 | nil:Reps K F [] []
 | cons {x:V} {d:D} {xs:List V} {ds:List D} (h:Rep K F x d) (r:Reps K F xs ds):Reps K F (x::xs) (d::ds)
end
theorem Rep.mono {K:Fg} {F F':Hp} (s:Sm F F') {v:V} {d:D} (r:Rep K F v d):Rep K F' v d:=Rep.rec (motive_1:=fun v d _=>Rep K F' v d) (motive_2:=fun v d _=>Reps K F' v d) .non .bl .int .str (fun h _ i=>.tup (s _ _ h) i) (fun h _ i=>.lst (s _ _ h) i) (fun h=>.scr (s.sqL h)) (fun h=>.exc0 (s _ _ h)) (fun h x=>.exc (s _ _ h) (s _ _ x)) (fun h l _ i=>.dic (s _ _ h) l i) .nil (fun _ _ i j=>.cons i j) r
theorem Reps.mono {K:Fg} {F F':Hp} (s:Sm F F') {v:List V} {d:List D} (r:Reps K F v d):Reps K F' v d:=Reps.rec (motive_1:=fun v d _=>Rep K F' v d) (motive_2:=fun v d _=>Reps K F' v d) .non .bl .int .str (fun h _ i=>.tup (s _ _ h) i) (fun h _ i=>.lst (s _ _ h) i) (fun h=>.scr (s.sqL h)) (fun h=>.exc0 (s _ _ h)) (fun h x=>.exc (s _ _ h) (s _ _ x)) (fun h l _ i=>.dic (s _ _ h) l i) .nil (fun _ _ i j=>.cons i j) r
section
variable {K:Fg} {F H:Hp}
theorem Rep.iI {v:V} {i:Int} (h:Rep K F v (.int i)):v=.int i:=by cases h;rfl
theorem Reps.ind {M:List V->List D->Prop} (n:M [] []) (c:∀ {x:V} {d:D} {xs:List V} {ds:List D},Rep K F x d->Reps K F xs ds->M xs ds->M (x::xs) (d::ds)) {xs:List V} {ds:List D} (h:Reps K F xs ds):M xs ds :=
 Reps.rec (motive_1:=fun _ _ _=>True) (motive_2:=fun v d _=>M v d) trivial (fun _=>trivial) (fun _=>trivial) (fun _=>trivial) (fun _ _ _=>trivial) (fun _ _ _=>trivial) (fun _=>trivial) (fun _=>trivial) (fun _ _=>trivial) (fun _ _ _ _=>trivial) n (fun h r _ ih=>c h r ih) h
theorem Reps.length {vs:List V} {ds:List D} (h:Reps K F vs ds):vs.length=ds.length:=h.ind (M:=fun v d=>v.length=d.length) rfl fun _ _ ih=>congrArg Nat.succ ih
theorem Reps.get {vs:List V} {ds:List D} {i:Nat} {d:D} (h:Reps K F vs ds) (e:ds[i]?=some d):∃ v,vs[i]?=some v/\Rep K F v d:=by
 refine h.ind (M:=fun v d'=>∀ i,d'[i]?=some d->∃ y,v[i]?=some y/\Rep K F y d) (fun i e=>by simp at e) (fun h r ih i e=>?_) i e
 cases i with
 | zero=>obtain rfl:=Option.some.inj e;exact ⟨_,rfl,h⟩
 | succ i=>exact ih i e
theorem Reps.getV {vs:List V} {ds:List D} {i:Nat} {v:V} (h:Reps K F vs ds) (e:vs[i]?=some v):∃ d,ds[i]?=some d/\Rep K F v d:=by
 refine h.ind (M:=fun v' d=>∀ i,v'[i]?=some v->∃ y,d[i]?=some y/\Rep K F v y) (fun i e=>by simp at e) (fun h r ih i e=>?_) i e
 cases i with
 | zero=>obtain rfl:=Option.some.inj e;exact ⟨_,rfl,h⟩
 | succ i=>exact ih i e
theorem Reps.append {vs ws:List V} {ds es:List D} (h:Reps K F vs ds) (s:Reps K F ws es):Reps K F (vs++ws) (ds++es):=h.ind (M:=fun v d=>Reps K F (v++ws) (d++es)) s fun h _ ih=>.cons h ih
theorem Reps.drop {vs:List V} {ds:List D} (n:Nat) (h:Reps K F vs ds):Reps K F (vs.drop n) (ds.drop n):=by
 refine h.ind (M:=fun v d=>Reps K F v d/\∀ n,Reps K F (v.drop n) (d.drop n)) ⟨.nil,fun n=>by simp only [List.drop_nil];exact .nil⟩ (fun h r ih=>⟨.cons h r,fun n=>?_⟩) |>.2 n
 cases n with
 | zero=>exact .cons h r
 | succ n=>exact ih.2 n
theorem Reps.take {vs:List V} {ds:List D} (n:Nat) (h:Reps K F vs ds):Reps K F (vs.take n) (ds.take n):=by
 refine h.ind (M:=fun v d=>∀ n,Reps K F (v.take n) (d.take n)) (fun n=>by simp only [List.take_nil];exact .nil) (fun h r ih n=>?_) n
 cases n with
 | zero=>exact .nil
 | succ n=>exact .cons h (ih n)
theorem Reps.ints:∀ (ns:List Int),Reps K F (ns.map V.int) (ns.map D.int)
 | []=>.nil
 | n::ns=>.cons (.int n) (Reps.ints ns)
end
def ho:Option (List Kd)->List V->HO
 | none,xs=>.lst xs
 | some ks,xs=>.dK (ks.zip xs)
def ZG:Option (List Kd)->List D->D
 | none,ds=>.lst ds
 | some ks,ds=>.dic ks ds
def Zo:Option (List Kd)->List V->Prop
 | none,_=>True
 | some ks,xs=>ks.length=xs.length
def hz (o:Obj):Option (List Kd)->List V->HO
 | none,xs=>.lst xs
 | some ks,xs=>.frz o (.dK (ks.zip xs))
theorem Rep.hz {K:Fg} {F:Hp} {p:Addr} {o:Obj}:∀ {k:Option (List Kd)} {xs:List V} {ds:List D},F p=some (hz o k xs)->Zo k xs->Reps K F xs ds->Rep K F (.ref p) (ZG k ds)
 | none,_,_,h,_,r=>.lst h r
 | some _,_,_,h,hl,r=>.dic h hl r
inductive RdO (K:Fg) (F H:Hp) (v:V) (d:D):Prop
 | mk (p:Addr) (k:Option (List Kd)) (xs:List V) (ds:List D) (h1:v=.ref p) (h2:H p=some (ho k xs)) (h3:Reps K F xs ds) (h4:d=ZG k ds) (h5:Zo k xs):RdO K F H v d
inductive RdD (K:Fg) (F H:Hp) (v:V) (d:D):Prop
 | inl (r:Rep K F v d):RdD K F H v d
 | inr (r:RdO K F H v d):RdD K F H v d
structure Gr (F H F' H':Hp):Prop where
 ff:Sm F F'
 hh:Sm H H'
 fh:Sm F' H'
 fr:∀ a o,F' a=some o->F a=some o\/H a=none
theorem Gr.refl {F H:Hp} (s:Sm F H):Gr F H F H:=⟨.refl _,.refl _,s,fun _ _ h=>.inl h⟩
theorem Gr.trans {F H F1 H1 F2 H2:Hp} (a:Gr F H F1 H1) (b:Gr F1 H1 F2 H2):Gr F H F2 H2 :=
 ⟨a.ff.trans b.ff,a.hh.trans b.hh,b.fh,fun x o h=>by
  rcases b.fr x o h with h | h
  ·exact a.fr x o h
  ·exact .inr (a.hh.none h)⟩
theorem Gr.new {F H:Hp} (s:Sm F H) {p:Addr} (h:H p=none) (o:HO):Gr F H (upd F p o) (upd H p o) :=
 ⟨(Sm.refl F).upd o (s.none h),(Sm.refl H).upd o h,s.upd2 p o,fun a x e=>by
  by_cases z:a=p
  ·subst z;exact .inr h
  ·rw [QB z] at e;exact .inl e⟩
theorem Gr.newO {F H:Hp} (s:Sm F H) {p:Addr} (h:H p=none) (o:HO):Gr F H F (upd H p o) :=
 ⟨.refl F,(Sm.refl H).upd o h,s.upd o (s.none h),fun _ _ e=>.inl e⟩
theorem RdD.gr {K:Fg} {F H F' H':Hp} {v:V} {d:D} (g:Gr F H F' H') (r:RdD K F H v d):RdD K F' H' v d:=by
 rcases r with r | ⟨p,k,xs,ds,rfl,h,r,rfl,hk⟩
 ·exact .inl (r.mono g.ff)
 ·exact .inr ⟨p,k,xs,ds,rfl,g.hh _ _ h,r.mono g.ff,rfl,hk⟩
structure Fz where
 f:Hp
 h:Hp
 p:Nat->Option Addr
abbrev np:Nat->Option Addr:=fun _=>none
abbrev yp (p:Addr):Nat->Option Addr:=fun _=>some p
def Qe (i:Nat):Nat:=1000+i
inductive OwnAt (K:Fg) (F0:Fz) (F H:Hp) (o:Option (Option V)) (d:D):Prop
 | mk (p:Addr) (k:Option (List Kd)) (xs:List V) (ds:List D) (h1:o=some (some (.ref p))) (h2:F0.h p=none) (h3:F p=none) (h4:H p=some (ho k xs)) (h5:Reps K F xs ds) (h6:d=ZG k ds) (h7:Zo k xs):OwnAt K F0 F H o d
structure RS (K:Fg) (H₀:Hp) (F0:Fz) (F H:Hp) (σ:L2.St) (e:Q2) (O:List Nat):Prop where
 fh:Sm F H
 hh:Sm F0.h H
 ff:Sm F0.f F
 fr:∀ a o,F a=some o->F0.f a=some o\/F0.h a=none
 slot:∀ i d,e[i]?=some (some d)->i∉O->∃ v,σ[i]?=some (some v)/\Rep K F v d
 own:∀ i d,e[i]?=some (some d)->i∈O->OwnAt K F0 F H σ[i]? d
 dis:∀ i j p d d',i∈O->j∈O->e[i]?=some (some d)->e[j]?=some (some d')->σ[i]?=some (some (.ref p))->σ[j]?=some (some (.ref p))->i=j
 pin:∀ i,Qe i∈O->∃ p,F0.p i=some p/\σ[i]?=some (some (.ref p))
 len:σ.length=e.length
theorem RS.grow {K:Fg} {H₀:Hp} {F0:Fz} {F H F' H':Hp} {σ:L2.St} {e:Q2} {O:List Nat} (r:RS K H₀ F0 F H σ e O) (g:Gr F H F' H'):RS K H₀ F0 F' H' σ e O where
 fh:=g.fh
 hh:=r.hh.trans g.hh
 ff:=r.ff.trans g.ff
 fr:=fun a o h=>by
  rcases g.fr a o h with h | h
  ·exact r.fr a o h
  ·exact .inr (r.hh.none h)
 slot:=fun i d h hi=>by
  obtain ⟨v,h1,h2⟩:=r.slot i d h hi
  exact ⟨v,h1,h2.mono g.ff⟩
 own:=fun i d h hi=>by
  obtain ⟨p,k,xs,ds,h1,h2,h3,h4,h5,h6,h7⟩:=r.own i d h hi
  refine ⟨p,k,xs,ds,h1,h2,?_,g.hh _ _ h4,h5.mono g.ff,h6,h7⟩
  cases q:F' p with
  | none=>rfl
  | some o =>
   rcases g.fr p o q with z | z
   ·rw [h3] at z;simp at z
   ·rw [h4] at z;simp at z
 dis:=r.dis
 pin:=r.pin
 len:=r.len
section
variable (X:Cx) (O:List Nat)
inductive tD (ev:Q4) (σ:L2.St) (H:Hp) (Q:VK):Prop
 | mk (F0:Fz) (F:Hp) (e:Q2) (d:D) (h1:RS X.K X.H₀ F0 F H σ e O) (h2:ev e=some d) (h3:∀ v F' H',Gr F H F' H'->Rep X.K F' v d->Q v H'):tD ev σ H Q
inductive tR (ev:Q4) (σ:L2.St) (H:Hp) (Q:VK):Prop
 | mk (F0:Fz) (F:Hp) (e:Q2) (d:D) (h1:RS X.K X.H₀ F0 F H σ e O) (h2:ev e=some d) (h3:∀ v F' H',Gr F H F' H'->RdD X.K F' H' v d->Q v H'):tR ev σ H Q
inductive tO (ev:Q4) (σ:L2.St) (H:Hp) (Q:VK):Prop
 | mk (F0:Fz) (F:Hp) (e:Q2) (d:D) (h1:RS X.K X.H₀ F0 F H σ e O) (h2:ev e=some d) (h3:∀ p k xs ds F' H',Gr F H F' H'->H p=none->F' p=none->H' p=some (ho k xs)->Reps X.K F' xs ds->d=ZG k ds->Zo k xs->Q (.ref p) H'):tO ev σ H Q
inductive tDT (ev:Q4) (σ:L2.St) (H:Hp) (Q:Bool->Hp->Prop):Prop
 | mk (F0:Fz) (F:Hp) (e:Q2) (b:Bool) (h1:RS X.K X.H₀ F0 F H σ e O) (h2:ev e=some (.bl b)) (h3:∀ F' H',Gr F H F' H'->Q b H'):tDT ev σ H Q
inductive tL (l:JT) (σ:L2.St) (H:Hp) (Q:List V->Hp->Prop):Prop
 | mk (F0:Fz) (F:Hp) (e:Q2) (ds:List D) (h1:RS X.K X.H₀ F0 F H σ e O) (h2:l e=some ds) (h3:∀ vs F' H',Gr F H F' H'->Reps X.K F' vs ds->Q vs H'):tL l σ H Q
inductive tOI (l:Wb) (σ:L2.St) (H:Hp) (Q:Option Int->Hp->Prop):Prop
 | mk (F0:Fz) (F:Hp) (e:Q2) (o:Option Int) (h1:RS X.K X.H₀ F0 F H σ e O) (h2:l e=some o) (h3:∀ F' H',Gr F H F' H'->Q o H'):tOI l σ H Q
end
section
variable {X:Cx} {O:List Nat} {e a b c:Expr} {pos:Pos}
theorem PE.imp {t t':TE} (h:PE X e t) (q:∀ σ H Q,t' σ H Q->t σ H Q):PE X e t':=fun pins s σ H Q I z=>h pins s σ H Q I (q σ H Q z)
theorem PT.imp {t t':TT} (h:PT X e t) (q:∀ σ H Q,t' σ H Q->t σ H Q):PT X e t':=fun pins s σ H Q I z=>h pins s σ H Q I (q σ H Q z)
theorem PW.imp {t t':TT} (h:PW X e t) (q:∀ σ H Q,t' σ H Q->t σ H Q):PW X e t':=fun w pins s σ H Q I z=>h w pins s σ H Q I (q σ H Q z)
theorem PA.imp {es:List Expr} {t t':TA} (h:PA X es t) (q:∀ σ H Q,t' σ H Q->t σ H Q):PA X es t':=fun p pins s σ H Q I z=>h p pins s σ H Q I (q σ H Q z)
theorem PS.imp {st:Stmt} {t t':TS} (h:PS X st t) (q:∀ D σ H,t' D σ H->t D σ H):PS X st t':=fun pins s σ H D I z=>h pins s σ H D I (q D σ H z)
theorem PSs.imp {st:List Stmt} {t t':TS} (h:PSs X st t) (q:∀ D σ H,t' D σ H->t D σ H):PSs X st t':=fun pins s σ H D I z=>h pins s σ H D I (q D σ H z)
theorem dr {ev:Q4} (h:PE X e (tD X O ev)):PE X e (tR X O ev):=PE.imp h <| by rintro σ H Q ⟨F0,F,en,d,r,w,k⟩;exact ⟨F0,F,en,d,r,w,fun v F' H' g q=>k v F' H' g (.inl q)⟩
theorem dC {v:V} {d:D} (hr:∀ K F,Rep K F v d) (h:PE X e (tC v)):PE X e (tD X O (eC d)) :=
 PE.imp h <| by
  rintro σ H Q ⟨F0,F,en,d',r,w,k⟩
  obtain rfl:=Option.some.inj w
  exact k v F H (.refl r.fh) (hr _ _)
theorem Yq {j}:PE X (.Constant .none j pos) (tD X O (eC .non)):=dC (fun _ _=>.non) UR
theorem Wl {b:Bool} {j}:PE X (.Constant (.bool b) j pos) (tD X O (eC (.bl b))):=dC (fun _ _=>.bl b) VW
theorem Z8 {i:Int} {j}:PE X (.Constant (.int i) j pos) (tD X O (eC (.int i))):=dC (fun _ _=>.int i) V6
theorem Q5 {x:Str} {j}:PE X (.Constant (.str x) j pos) (tD X O (eC (.str x))):=dC (fun _ _=>.str x) VX
theorem Z2 {i:Nat} {en:Q2} {d:D} (h:eV i en=some d):en[i]?=some (some d):=by
 unfold eV at h
 cases q:en[i]? with
 | none=>rw [q] at h;simp at h
 | some o=>rw [q] at h;cases o with
  | none=>simp at h
  | some x=>obtain rfl:=Option.some.inj h;rfl
theorem Ql (i:Nat) {x:Str} (hN:X.N[i]?=some x:=by rfl) (hv:ZZ X.env.scope x:=by first | exact Or.inl rfl | exact Or.inr (Or.inl rfl) | exact Or.inr (Or.inr rfl)) (hO:i∉O:=by decide) (hd:(x==("__debug__":Str))=false:=by decide) (hcd:(x==("__classdict__":Str))=false:=by decide) :
  PE X (.Name x pos) (tD X O (eV i)) :=
 PE.imp (Qp hN hv hd hcd) <| by
  rintro σ H Q ⟨F0,F,en,d,r,w,k⟩
  obtain ⟨v,h1,h2⟩:=r.slot i d (Z2 w) hO
  exact ⟨v,h1,k v F H (.refl r.fh) h2⟩
theorem Vt (i:Nat) {x:Str} (hN:X.N[i]?=some x:=by rfl) (hv:ZZ X.env.scope x:=by first | exact Or.inl rfl | exact Or.inr (Or.inl rfl) | exact Or.inr (Or.inr rfl)) (hd:(x==("__debug__":Str))=false:=by decide) (hcd:(x==("__classdict__":Str))=false:=by decide) :
  PE X (.Name x pos) (tR X O (eV i)) :=
 PE.imp (Qp hN hv hd hcd) <| by
  rintro σ H Q ⟨F0,F,en,d,r,w,k⟩
  by_cases hO:i∈O
  ·obtain ⟨p,kk,xs,ds,h1,_,_,h4,h5,h6,h7⟩:=r.own i d (Z2 w) hO
   exact ⟨_,h1,k _ F H (.refl r.fh) (.inr ⟨p,kk,xs,ds,rfl,h4,h5,h6,h7⟩)⟩
  ·obtain ⟨v,h1,h2⟩:=r.slot i d (Z2 w) hO
   exact ⟨v,h1,k v F H (.refl r.fh) (.inl h2)⟩
def J8 (X:Cx) (r:R2) (g:D->D->Option D):Prop:=∀ (F H:Hp) (x y:V) (dx dy d:D) (Q:VK),Sm F H->RdD X.K F H x dx->RdD X.K F H y dy->g dx dy=some d->(∀ v F' H',Gr F H F' H'->Rep X.K F' v d->Q v H')->r x y H Q
theorem Yk {α β γ:Type} {a:Option α} {b:Option β} {g:α->β->Option γ} {d:γ} (h:(a.bind fun x=>b.bind fun y=>g x y)=some d):∃ x y,a=some x/\b=some y/\g x y=some d:=by
 cases a with
 | none=>simp at h
 | some x=>cases b with
  | none=>simp at h
  | some y=>exact ⟨x,y,rfl,rfl,h⟩
theorem QR {α β:Type} {a:Option α} {g:α->Option β} {d:β} (h:(a.bind fun x=>g x)=some d):∃ x,a=some x/\g x=some d:=by
 cases a with
 | none=>simp at h
 | some x=>exact ⟨x,rfl,h⟩
theorem JQ {α β:Type} {a:Option α} {g:α->β} {d:β} (h:a.map g=some d):∃ x,a=some x/\g x=d:=by
 cases a with
 | none=>simp at h
 | some x=>obtain rfl:=Option.some.inj h;exact ⟨x,rfl,rfl⟩
theorem S2 {r:R2} {g:D->D->Option D} {ea eb:Q4} (ho:J8 X r g) {σ:L2.St} {H:Hp} {Q:VK} (h:tD X O (Q0 g ea eb) σ H Q):Yi r (tR X O ea) (tR X O eb) σ H Q:=by
 obtain ⟨F0,F,en,d,rs,w,k⟩:=h
 obtain ⟨dx,dy,e1,e2,e3⟩:=Yk w
 refine ⟨F0,F,en,dx,rs,e1,fun x F1 H1 g1 r1=>?_⟩
 refine ⟨F0,F1,en,dy,rs.grow g1,e2,fun y F2 H2 g2 r2=>?_⟩
 exact ho F2 H2 x y dx dy d Q g2.fh (r1.gr g2) r2 e3 fun v F' H' g3 r3=>k v F' H' ((g1.trans g2).trans g3) r3
theorem Q6 {op:Operator} {r:R2} {g:D->D->Option D} {ea eb:Q4} (ho:OpR X (binaryOp op) r/\J8 X r g) (ha:PE X a (tR X O ea)) (hb:PE X b (tR X O eb)):PE X (.BinOp a op b pos) (tD X O (Q0 g ea eb)) :=
 PE.imp (Ih ho.1 ha hb) fun σ H Q=>S2 ho.2
theorem ZQ {op:CmpOp} {r:R2} {g:D->D->Option D} {ea eb:Q4} (ho:OpR X (compareOp op) r/\J8 X r g) (ha:PE X a (tR X O ea)) (hb:PE X b (tR X O eb)) (hm:behindInMarks op b=false):PE X (.Compare a [op] [b] pos) (tD X O (Q0 g ea eb)) :=
 PE.imp (Ah ho.1 ha hb hm) fun σ H Q=>S2 ho.2
theorem EW {ea eb:Q4} {r:R2} (ho:IxR X r/\J8 X r D.ix) (ha:PE X a (tR X O ea)) (hb:PE X b (tR X O eb)) (hs:RL b:=by intro _ _;rfl):PE X (.Subscript a b pos) (tD X O (Q0 D.ix ea eb)) :=
 PE.imp (Zk ho.1 ha hb hs) fun σ H Q=>S2 ho.2
end
end Wd
namespace Wd
open PySem PySem.Spec PyProof.Rows L2
section
variable {K:Fg} {F H:Hp} {v:V}
theorem RdD.int {i:Int} (r:RdD K F H v (.int i)):v=.int i:=by
 rcases r with r | ⟨_,k,_,_,_,_,_,z,_⟩
 ·cases r;rfl
 ·cases k<;>cases z
theorem RdD.bl {b:Bool} (r:RdD K F H v (.bl b)):v=.bl b:=by
 rcases r with r | ⟨_,k,_,_,_,_,_,z,_⟩
 ·cases r;rfl
 ·cases k<;>cases z
theorem RdD.str {x:Str} (r:RdD K F H v (.str x)):v=.str x:=by
 rcases r with r | ⟨_,k,_,_,_,_,_,z,_⟩
 ·cases r;rfl
 ·cases k<;>cases z
theorem RdD.non (r:RdD K F H v .non):v=.non:=by
 rcases r with r | ⟨_,k,_,_,_,_,_,z,_⟩
 ·cases r;rfl
 ·cases k<;>cases z
theorem RdD.tup {ds:List D} (r:RdD K F H v (.tup ds)):∃ p xs,v=.ref p/\F p=some (.tup xs)/\Reps K F xs ds:=by
 rcases r with r | ⟨_,k,_,_,_,_,_,z,_⟩
 ·cases r with
  | tup h r=>exact ⟨_,_,rfl,h,r⟩
 ·cases k<;>cases z
theorem RdD.lst {ds:List D} (s:Sm F H) (r:RdD K F H v (.lst ds)):∃ p xs,v=.ref p/\H p=some (.lst xs)/\Reps K F xs ds:=by
 rcases r with r | ⟨p,k,xs,ds',h1,h2,h3,z,_⟩
 ·cases r with
  | lst h r=>exact ⟨_,_,rfl,s _ _ h,r⟩
 ·cases k with
  | none=>cases z;exact ⟨p,xs,h1,h2,h3⟩
  | some ks=>cases z
theorem RdD.dic {ks:List Kd} {ds:List D} (s:Sm F H) (r:RdD K F H v (.dic ks ds)):∃ p xs,v=.ref p/\Rd H p (.dK (ks.zip xs))/\ks.length=xs.length/\Reps K F xs ds:=by
 rcases r with r | ⟨p,k,xs,ds',h1,h2,h3,z,h4⟩
 ·cases r with
  | dic h hl r=>exact ⟨_,_,rfl,.inr ⟨_,s _ _ h⟩,hl,r⟩
 ·cases k with
  | none=>cases z
  | some ks'=>cases z;exact ⟨p,xs,h1,.inl h2,h4,h3⟩
theorem RdD.scr {ns:List Int} (r:RdD K F H v (.scr ns)):∃ p,v=.ref p/\SqL K F p (ns.map V.int):=by
 rcases r with r | ⟨_,k,_,_,_,_,_,z,_⟩
 ·cases r with
  | scr h=>exact ⟨_,rfl,h⟩
 ·cases k<;>cases z
theorem RdD.rep {d:D} (s:Sm F H) (hd:∀ ks ds,d≠.dic ks ds) (r:RdD K F H v d):Rep K H v d:=by
 rcases r with r | ⟨p,k,xs,ds',rfl,h2,h3,rfl,h4⟩
 ·exact r.mono s
 ·cases k with
  | none=>exact .lst h2 (h3.mono s)
  | some ks=>exact absurd rfl (hd ks ds')
end
section
variable {X:Cx}
theorem ZC:sizeLine=Qc:=by decide
theorem GI {dx dy d:D} (h:D.add dx dy=some d):(∃ i j,dx=.int i/\dy=.int j/\d=.int (i+j))\/(∃ x y,dx=.str x/\dy=.str y/\x.length+y.length<=Qc/\d=.str (x++y))\/(∃ xs ys,dx=.lst xs/\dy=.lst ys/\xs.length+ys.length<=Qc/\d=.lst (xs++ys))\/∃ x xs ys,dx=.tup (x::xs)/\dy=.tup ys/\xs.length+1+ys.length<=Qc/\d=.tup (x::xs++ys):=by
 cases dx with
 | int i=>cases dy with
  | int j=>exact .inl ⟨i,j,rfl,rfl,(Option.some.inj h).symm⟩
  | _=>contradiction
 | str x=>cases dy with
  | str y =>
   replace h:(if x.length+y.length<=Qc then some (D.str (x++y)) else none)=some d:=h
   split at h
   ·exact .inr (.inl ⟨x,y,rfl,rfl,‹_›,(Option.some.inj h).symm⟩)
   ·contradiction
  | _=>contradiction
 | lst xs=>cases dy with
  | lst ys =>
   replace h:(if xs.length+ys.length<=Qc then some (D.lst (xs++ys)) else none)=some d:=h
   split at h
   ·exact .inr (.inr (.inl ⟨xs,ys,rfl,rfl,‹_›,(Option.some.inj h).symm⟩))
   ·contradiction
  | _=>contradiction
 | tup xs=>cases xs with
  | nil=>contradiction
  | cons x xs=>cases dy with
   | tup ys =>
    replace h:(if xs.length+1+ys.length<=Qc then some (D.tup (x::xs++ys)) else none)=some d:=h
    split at h
    ·exact .inr (.inr (.inr ⟨x,xs,ys,rfl,rfl,‹_›,(Option.some.inj h).symm⟩))
    ·contradiction
   | _=>contradiction
 | _=>contradiction
theorem QO:OpR X (binaryOp .Add) (fun x y H Q=>((∃ i j,x=.int i/\y=.int j/\Q (.int (i+j)) H)\/(∃ i j,x=.str i/\y=.str j/\i.length+j.length<=sizeLine/\Q (.str (i++j)) H))\/(Pz x y H Q\/O0 X.K x y H Q)) /\
  J8 X (fun x y H Q=>((∃ i j,x=.int i/\y=.int j/\Q (.int (i+j)) H)\/(∃ i j,x=.str i/\y=.str j/\i.length+j.length<=sizeLine/\Q (.str (i++j)) H))\/(Pz x y H Q\/O0 X.K x y H Q)) D.add:=by
 refine ⟨(OpR.or (OpR.or A8 A9) (OpR.or IK AA)),fun F H x y dx dy d Q s rx ry e k=>?_⟩
 rcases GI e with ⟨i,j,rfl,rfl,rfl⟩ | ⟨i,j,rfl,rfl,hz,rfl⟩ | ⟨xs,ys,rfl,rfl,hz,rfl⟩ | ⟨z,xs,ys,rfl,rfl,hz,rfl⟩
 ·exact .inl (.inl ⟨i,j,rx.int,ry.int,k _ F H (.refl s) (.int _)⟩)
 ·exact .inl (.inr ⟨i,j,rx.str,ry.str,by rw [ZC];exact hz,k _ F H (.refl s) (.str _)⟩)
 ·obtain ⟨p,us,rfl,h1,r1⟩:=rx.lst s
  obtain ⟨q,ws,rfl,h2,r2⟩:=ry.lst s
  refine .inr (.inl ⟨p,q,us,ws,rfl,rfl,h1,h2,by rw [ZC,r1.length,r2.length];exact hz,fun l hl=>?_⟩)
  have g:=Gr.new s hl (.lst (us++ws))
  exact k _ _ _ g (.lst QQ ((r1.append r2).mono g.ff))
 ·obtain ⟨p,us,rfl,h1,r1⟩:=rx.tup
  obtain ⟨q,ws,rfl,h2,r2⟩:=ry.tup
  have hu:us≠[]:=fun z=>by subst z;cases r1
  refine .inr (.inr ⟨p,q,us,ws,rfl,rfl,SqT.of (s _ _ h1),SqT.of (s _ _ h2),hu,?_,fun z=>?_,fun _ l hl=>?_⟩)
  ·rw [ZC,r1.length,r2.length];exact hz
  ·subst z
   cases r2
   refine k _ F H (.refl s) ?_
   rw [List.append_nil]
   exact .tup h1 r1
  ·have g:=Gr.new s hl (.tup (us++ws))
   exact k _ _ _ g (.tup QQ ((r1.append r2).mono g.ff))
theorem Tg {g:D->D->Option D} (h:∀ dx dy d,g dx dy=some d->∃ i j,dx=.int i/\dy=.int j) {C:Int->Int->Prop} {f:Int->Int->V} {fd:Int->Int->D} (hg:∀ i j d,g (.int i) (.int j)=some d->C i j/\d=fd i j) (hf:∀ K F i j,Rep K F (f i j) (fd i j)):J8 X (rI C f) g:=fun F H x y dx dy d Q s rx ry e k=>by
 obtain ⟨i,j,rfl,rfl⟩:=h dx dy d e
 obtain ⟨c,rfl⟩:=hg i j d e
 exact ⟨i,j,rx.int,ry.int,c,k _ F H (.refl s) (hf _ _ i j)⟩
theorem Th {g:D->D->Option D} (h:∀ dx dy d,g dx dy=some d->∃ i j,dx=.int i/\dy=.int j) {f:Int->Int->V} {fd:Int->Int->D} (hg:∀ i j d,g (.int i) (.int j)=some d->d=fd i j) (hf:∀ K F i j,Rep K F (f i j) (fd i j)):J8 X (ZB f) g:=fun F H x y dx dy d Q s rx ry e k=>by
 obtain ⟨i,j,rfl,rfl⟩:=h dx dy d e
 cases hg i j d e
 exact ⟨i,j,rx.int,ry.int,k _ F H (.refl s) (hf _ _ i j)⟩
theorem AW:OpR X (binaryOp .Sub) (ZB fun i j=>.int (i-j))/\J8 X (ZB fun i j=>.int (i-j)) D.sub :=
 ⟨AV,Th (fd:=fun i j=>.int (i-j)) (fun dx dy d e=>by cases dx<;>cases dy<;>simp [D.sub] at e ⊢) (fun i j d e=>by obtain rfl:=Option.some.inj e;rfl) fun _ _ _ _=>.int _⟩
theorem AO:OpR X (binaryOp .Mult) (rI CMul fun i j=>.int (i*j))/\J8 X (rI CMul fun i j=>.int (i*j)) D.mul :=
 ⟨IQ,Tg (fd:=fun i j=>.int (i*j)) (fun dx dy d e=>by cases dx<;>cases dy<;>simp [D.mul] at e ⊢) (fun i j d e=>by
  simp only [D.mul] at e
  split at e
  ·rename_i h;obtain rfl:=Option.some.inj e;exact ⟨h,rfl⟩
  ·simp at e) fun _ _ _ _=>.int _⟩
theorem Qo:OpR X (binaryOp .Mod) (rI (fun _ j=>0<j) fun i j=>.int (i%j))/\J8 X (rI (fun _ j=>0<j) fun i j=>.int (i%j)) D.mod :=
 ⟨AN,Tg (fd:=fun i j=>.int (i%j)) (fun dx dy d e=>by cases dx<;>cases dy<;>simp [D.mod] at e ⊢) (fun i j d e=>by
  simp only [D.mod] at e
  split at e
  ·rename_i h;obtain rfl:=Option.some.inj e;exact ⟨h,rfl⟩
  ·simp at e) fun _ _ _ _=>.int _⟩
theorem Z4:OpR X (binaryOp .FloorDiv) (rI Sw fun i j=>.int (i/j))/\J8 X (rI Sw fun i j=>.int (i/j)) D.fdiv :=
 ⟨AD,Tg (fd:=fun i j=>.int (i/j)) (fun dx dy d e=>by cases dx<;>cases dy<;>simp [D.fdiv] at e ⊢) (fun i j d e=>by
  simp only [D.fdiv] at e
  split at e
  ·rename_i h;obtain rfl:=Option.some.inj e;exact ⟨h,rfl⟩
  ·simp at e) fun _ _ _ _=>.int _⟩
theorem IS:OpR X (binaryOp .Pow) (rI Sx fun i j=>.int (i^j.toNat))/\J8 X (rI Sx fun i j=>.int (i^j.toNat)) D.pow :=
 ⟨AS,Tg (fd:=fun i j=>.int (i^j.toNat)) (fun dx dy d e=>by cases dx<;>cases dy<;>simp [D.pow] at e ⊢) (fun i j d e=>by
  simp only [D.pow] at e
  split at e
  ·rename_i h;obtain rfl:=Option.some.inj e;exact ⟨h,rfl⟩
  ·simp at e) fun _ _ _ _=>.int _⟩
theorem IP:OpR X (compareOp .Lt) (ZB fun i j=>.bl (decide (i<j)))/\J8 X (ZB fun i j=>.bl (decide (i<j))) D.lt :=
 ⟨AM,Th (fd:=fun i j=>.bl (decide (i<j))) (fun dx dy d e=>by cases dx<;>cases dy<;>simp [D.lt] at e ⊢) (fun i j d e=>by obtain rfl:=Option.some.inj e;rfl) fun _ _ _ _=>.bl _⟩
theorem YE:OpR X (compareOp .Gt) (ZB fun i j=>.bl (decide (j<i)))/\J8 X (ZB fun i j=>.bl (decide (j<i))) D.gt :=
 ⟨AG,Th (fd:=fun i j=>.bl (decide (j<i))) (fun dx dy d e=>by cases dx<;>cases dy<;>simp [D.gt] at e ⊢) (fun i j d e=>by obtain rfl:=Option.some.inj e;rfl) fun _ _ _ _=>.bl _⟩
theorem AF:OpR X (compareOp .GtE) (ZB fun i j=>.bl (decide (j<=i)))/\J8 X (ZB fun i j=>.bl (decide (j<=i))) D.ge :=
 ⟨AE,Th (fd:=fun i j=>.bl (decide (j<=i))) (fun dx dy d e=>by cases dx<;>cases dy<;>simp [D.ge] at e ⊢) (fun i j d e=>by obtain rfl:=Option.some.inj e;rfl) fun _ _ _ _=>.bl _⟩
theorem Uv {xs:List V} {ds:List D} {F:Hp} {i:Int} {d:D} (r:Reps X.K F xs ds) (e:((Qu ds.length i).bind fun k=>ds[k]?)=some d):∃ v,Jy xs i=some v/\Rep X.K F v d:=by
 obtain ⟨k,e1,e2⟩:=QR e
 obtain ⟨v,h1,h2⟩:=r.get e2
 refine ⟨v,?_,h2⟩
 unfold Jy
 rw [r.length,show YC ds.length i=some k from e1]
 exact h1
theorem A7:J8 X (XF X.K) D.ix:=fun F H x y dx dy d Q s rx ry e k=>by
 cases dx<;>cases dy<;>try (simp [D.ix] at e;done)
 case str.int z i =>
  simp only [D.ix] at e
  split at e
  ·rename_i hz
   obtain ⟨j,e1,e2⟩:=QR e
   obtain ⟨c,e3,rfl⟩:=JQ e2
   refine .inr (.inr ⟨z,i,c,rx.str,ry.int,by rw [ZC];exact hz,?_,k _ F H (.refl s) (.str _)⟩)
   unfold Jy
   have hl:z.cps.toList.length=z.length:=by simp [Str.length]
   rw [hl,show YC z.length i=some j from e1]
   simpa using e3
  ·simp at e
 case tup.int ds i =>
  obtain ⟨p,xs,rfl,h,r⟩:=rx.tup
  obtain ⟨v,h1,h2⟩:=Uv r e
  exact .inr (.inl ⟨p,xs,i,v,rfl,ry.int,SqT.of (s _ _ h),h1,k _ F H (.refl s) h2⟩)
 case lst.int ds i =>
  obtain ⟨p,xs,rfl,h,r⟩:=rx.lst s
  obtain ⟨v,h1,h2⟩:=Uv r e
  exact .inl ⟨p,xs,i,v,rfl,ry.int,SqL.of h,h1,k _ F H (.refl s) h2⟩
 case scr.int ns i =>
  obtain ⟨p,rfl,h⟩:=rx.scr
  have r:Reps X.K F (ns.map V.int) (ns.map D.int):=Reps.ints ns
  have e':((Qu (ns.map D.int).length i).bind fun k=>(ns.map D.int)[k]?)=some d:=by
   rw [List.length_map]
   simp only [D.ix] at e
   simpa using e
  obtain ⟨v,h1,h2⟩:=Uv r e'
  exact .inl ⟨p,_,i,v,rfl,ry.int,s.sqL h,h1,k _ F H (.refl s) h2⟩
theorem AK:IxR X (XF X.K)/\J8 X (XF X.K) D.ix:=⟨Zf,A7⟩
theorem Qs {O:List Nat} {a b:Expr} {pos:Pos} {ea eb:Q4} (ha:PE X a (tR X O ea)) (hb:PE X b (tR X O eb)) (hs:RL b:=by intro _ _;rfl):PE X (.Subscript a b pos) (tD X O (Q0 D.ix ea eb)):=EW AK ha hb hs
end
end Wd
namespace Wd
open PySem PySem.Spec PyProof.Rows L2
def Zd (ds es:List D) (j:Nat):Bool:=match ds[j]?,es[j]? with
 | some d,some e=>(D.eq d e).getD false
 | _,_=>false
theorem Eu (d e:D) (ds es:List D) (j:Nat):Zd (d::ds) (e::es) (j+1)=Zd ds es j:=by simp [Zd]
theorem TL:∀ (ds es:List D) (b:Bool),D.eqL ds es=some b ->
  (∀ (j:Nat) (d e:D),ds[j]?=some d->es[j]?=some e->∃ c,D.eq d e=some c)/\b=((List.range (min ds.length es.length)).all (Zd ds es)&&ds.length==es.length)
 | [],[],b,h=>by
  rw [D.eqL] at h;obtain rfl:=Option.some.inj h
  exact ⟨fun j d e h=>by simp at h,by simp⟩
 | [],e::es,b,h=>by
  rw [D.eqL] at h
  ·obtain rfl:=Option.some.inj h;exact ⟨fun j d e h=>by simp at h,by simp⟩
  all_goals simp
 | d::ds,[],b,h=>by
  rw [D.eqL] at h
  ·obtain rfl:=Option.some.inj h;exact ⟨fun j d e _ h=>by simp at h,by simp⟩
  all_goals simp
 | d::ds,e::es,b,h=>by
  rw [D.eqL] at h
  cases q1:D.eq d e with
  | none=>rw [q1] at h;cases h
  | some b1 =>
   cases q2:D.eqL ds es with
   | none=>rw [q1,q2] at h;cases h
   | some b2 =>
    rw [q1,q2,MJ] at h
    obtain rfl:=Option.some.inj h
    obtain ⟨i1,i2⟩:=TL ds es b2 q2
    refine ⟨fun j d' e' h1 h2=>?_,?_⟩
    ·cases j with
     | zero=>simp at h1 h2;subst h1 h2;exact ⟨b1,q1⟩
     | succ j=>exact i1 j d' e' (by simpa using h1) (by simpa using h2)
    ·have hm:min (d::ds).length (e::es).length=min ds.length es.length+1:=Nat.add_min_add_right ..
     rw [hm,List.range_succ_eq_map,List.all_cons,List.all_map]
     have h0:Zd (d::ds) (e::es) 0=b1:=by simp [Zd,q1]
     have hf:(Zd (d::ds) (e::es)∘Nat.succ)=Zd ds es:=funext fun j=>Eu d e ds es j
     rw [h0,hf,i2]
     simp [Bool.and_assoc]
theorem K6 {K:Fg} {H:Hp} {xs:List V} {ds es:List D} {b:Bool} (r1:Reps K H xs ds) (r2:Reps K H xs es) (h:D.eqL ds es=some b):b=true:=by
 refine Reps.rec (motive_1:=fun x d _=>∀ (e:D) (b:Bool),Rep K H x e->D.eq d e=some b->b=true) (motive_2:=fun xs ds _=>∀ (es:List D) (b:Bool),Reps K H xs es->D.eqL ds es=some b->b=true) ?_ ?_ ?_ ?_ ?_ ?_ ?_ ?_ ?_ ?_ ?_ ?_ r1 es b r2 h
 ·intro e b r h;cases r;rw [D.eq] at h;obtain rfl:=Option.some.inj h;rfl
 ·intro c e b r h;cases r;rw [D.eq] at h;obtain rfl:=Option.some.inj h;exact beq_self_eq_true c
 ·intro c e b r h;cases r;rw [D.eq] at h;obtain rfl:=Option.some.inj h;exact decide_eq_true rfl
 ·intro c e b r h;cases r;rw [D.eq] at h;obtain rfl:=Option.some.inj h;exact decide_eq_true rfl
 ·intro a xs ds h1 r1 i e b r h
  cases r with
  | tup h2 r2=>rw [h1] at h2;cases h2;rw [D.eq] at h;exact i _ _ r2 h
  | lst h2 r2=>rw [h1] at h2;simp at h2
  | _=>rw [D.eq] at h;cases h;exact nofun
 ·intro a xs ds h1 r1 i e b r h
  cases r with
  | lst h2 r2=>rw [h1] at h2;cases h2;rw [D.eq] at h;exact i _ _ r2 h
  | tup h2 r2=>rw [h1] at h2;simp at h2
  | _=>rw [D.eq] at h;cases h;exact nofun
 ·intro a ns h1 e b r h;rw [D.eq] at h;simp at h
 ·intro a h1 e b r h;rw [D.eq] at h;simp at h
 ·intro a dx c i h1 hx e b r h;rw [D.eq] at h;simp at h
 ·intros;rename_i h;rw [D.eq] at h;simp at h
 ·intro e b r h;cases r;rw [D.eqL] at h;obtain rfl:=Option.some.inj h;rfl
 ·intro x d xs ds h1 r1 i1 i2 es b r h
  cases r with
  | @cons _ e _ es h2 r2 =>
   rw [D.eqL] at h
   cases q1:D.eq d e with
   | none=>rw [q1] at h;cases h
   | some b1 =>
    cases q2:D.eqL ds es with
    | none=>rw [q1,q2] at h;cases h
    | some b2 =>
     rw [q1,q2,MJ] at h
     obtain rfl:=Option.some.inj h
     rw [i1 _ _ h2 q1,i2 _ _ r2 q2]
     rfl
theorem Gb (i j:Int):(i==j)=decide (i=j):=by by_cases h:i=j<;>simp [h]
theorem Lr:∀ {ds:List D} {j:Nat} {d:D},ds[j]?=some d->d.dep<=D.depL ds
 | [],_,_,h=>by simp at h
 | d::ds,0,_,h=>by simp at h;subst h;rw [TC];exact Nat.le_max_left _ _
 | d::ds,j+1,x,h=>by
  rw [TC]
  exact Nat.le_trans (Lr (ds:=ds) (j:=j) (by simpa using h)) (Nat.le_max_right _ _)
section
variable {X:Cx} {pins:List (Addr×Obj)} {σ:L2.St} {H:Hp} {s:Shared}
def Um (A:Around) (s:Shared) (v u:Value) (b:Bool):Prop:=SeqAt.RcAt A s v u b/\SeqAt.EqAt A s v u b/\SeqAt.RcNeAt A s v u (!b)
theorem Kc (I:Inv X pins σ H s) {n:Nat} {ds es:List D} {xs ys:List V} {us ws:List Value} {A:Around} {b:Bool} (hn:D.depL ds<=n) (hA:A.units+n<cLine)
  (ih:∀ (d e:D) (x y:V) (v u:Value) (b:Bool),d.dep<=n->Rep X.K H x d->Rep X.K H y e->RelV x v->RelV y u->D.eq d e=some b->Um A s v u b)
  (r1:Reps X.K H xs ds) (r2:Reps X.K H ys es) (v1:Vals xs us) (v2:Vals ys ws) (h:D.eqL ds es=some b) :
  ∀ j (h1:j<us.toArray.size) (h2:j<ws.toArray.size),SeqAt.EqAt A s us.toArray[j] ws.toArray[j] (Zd ds es j):=fun j h1 h2=>by
 obtain ⟨q1,q2⟩:=TL ds es b h
 have l1:=r1.length
 have l2:=r2.length
 have l3:=v1.length
 have l4:=v2.length
 simp only [List.size_toArray] at h1 h2
 have hd:j<ds.length:=by omega
 have he:j<es.length:=by omega
 obtain ⟨x,hx,rx⟩:=r1.get (List.getElem?_eq_getElem hd)
 obtain ⟨y,hy,ry⟩:=r2.get (List.getElem?_eq_getElem he)
 obtain ⟨u,hu,ru⟩:=v1.get hx
 obtain ⟨w,hw,rw'⟩:=v2.get hy
 obtain ⟨c,hc⟩:=q1 j _ _ (List.getElem?_eq_getElem hd) (List.getElem?_eq_getElem he)
 have e1:us.toArray[j]=u:=by
  rw [List.getElem?_eq_getElem h1] at hu
  simpa using Option.some.inj hu
 have e2:ws.toArray[j]=w:=by
  rw [List.getElem?_eq_getElem h2] at hw
  simpa using Option.some.inj hw
 have e3:Zd ds es j=c:=by simp [Zd,List.getElem?_eq_getElem hd,List.getElem?_eq_getElem he,hc]
 rw [e1,e2,e3]
 exact (ih _ _ x y u w c (Nat.le_trans (Lr (List.getElem?_eq_getElem hd)) hn) rx ry ru rw' hc).2.1
theorem O5 {A:Around} {p q:Addr} {b:Bool} (h:SeqAt.RcAt A s (.ref p) (.ref q) b) (hn:SeqAt.RcNeAt A s (.ref p) (.ref q) (!b)) (hs:p=q->b=true):Um A s (.ref p) (.ref q) b:=by
 refine ⟨h,?_,hn⟩
 by_cases e:p=q
 ·rw [hs e,e];exact SeqAt.EqAt.same _
 ·exact SeqAt.EqAt.of_refs e h
theorem K5 (I:Inv X pins σ H s) {d e:D} {x y:V} {v u:Value} {A:Around} {b:Bool} (hd:d.dep=0) (hu:A.units<cLine) (rx:Rep X.K H x d) (ry:Rep X.K H y e) (rv:RelV x v) (ru:RelV y u) (h:D.eq d e=some b):Um A s v u b:=by
 cases rx with
 | tup h1 r1=>rw [Rl] at hd;omega
 | lst h1 r1=>rw [TF] at hd;omega
 | scr h1=>rw [D.eq] at h;simp at h
 | dic h1 hl1 r1=>rw [D.eq] at h;simp at h
 | exc0 h1=>rw [D.eq] at h;simp at h
 | exc h1 hx1=>rw [D.eq] at h;simp at h
 | non =>
  cases (show v=Value.none from rv)
  cases ry with
  | non =>
   cases (show u=Value.none from ru)
   simp only [D.eq] at h
   obtain rfl:=Option.some.inj h
   exact ⟨SeqAt.RcAt.none_none,SeqAt.EqAt.same _,SeqAt.RcNeAt.none_none⟩
  | _=>rw [D.eq] at h;cases h;exact nofun
 | bl c =>
  cases (show v=Value.bool c from rv)
  cases ry with
  | bl c2 =>
   cases (show u=Value.bool c2 from ru)
   simp only [D.eq] at h
   have hb:b=(c==c2):=(Option.some.inj h).symm
   subst hb
   exact ⟨SeqAt.RcAt.bool_bool _ _,SeqAt.EqAt.bool_bool _ _,SeqAt.RcNeAt.bool_bool _ _⟩
  | _=>rw [D.eq] at h;cases h;exact nofun
 | int i =>
  obtain ⟨tv,qv⟩:=(show ∃ t,v=Value.int i t from rv);cases qv
  cases ry with
  | int i2 =>
   obtain ⟨tu,qu⟩:=(show ∃ t,u=Value.int i2 t from ru);cases qu
   simp only [D.eq] at h
   have hb:b=(i==i2):=by rw [<- Option.some.inj h,Gb]
   subst hb
   exact ⟨SeqAt.RcAt.int_int _ _ _ _,SeqAt.EqAt.int_int _ _ _ _,SeqAt.RcNeAt.int_int _ _ _ _⟩
  | _=>rw [D.eq] at h;cases h;exact nofun
 | str z =>
  obtain ⟨tv,qv⟩:=(show ∃ t,v=Value.str z t from rv);cases qv
  cases ry with
  | str z2 =>
   obtain ⟨tu,qu⟩:=(show ∃ t,u=Value.str z2 t from ru);cases qu
   simp only [D.eq] at h
   have hb:b=(z==z2):=by
    rw [<- Option.some.inj h]
    by_cases q:z=z2<;>simp [q]
   subst hb
   exact ⟨SeqAt.RcAt.str_str _ _ _ _,SeqAt.EqAt.str_str _ _ _ _,SeqAt.RcNeAt.str_str _ _ _ _⟩
  | _=>rw [D.eq] at h;cases h;exact nofun
theorem K2 (I:Inv X pins σ H s):∀ (n:Nat) (d e:D) (x y:V) (v u:Value) (A:Around) (b:Bool),d.dep<=n->A.units+n<cLine->Rep X.K H x d->Rep X.K H y e->RelV x v->RelV y u->D.eq d e=some b->Um A s v u b:=by
 have L:∀ {a:Addr} {xs:List V},H a=some (.lst xs)->∃ its:List Value,Vals xs its/\s.heap.IsList a its.toArray:=fun h=>let ⟨its,r,pl,_⟩:=I.list (SqL.of h);⟨its,r,pl.isList⟩
 have T:∀ {a:Addr} {xs:List V},H a=some (.tup xs)->∃ its:List Value,Vals xs its/\s.heap.IsTuple a its.toArray:=fun h=>let ⟨its,r,pl,_⟩:=I.tuple (SqT.of h);⟨its,r,pl⟩
 intro n
 induction n with
 | zero =>
  intro d e x y v u A b hd hA rx ry rv ru h
  exact K5 I (by omega) (by omega) rx ry rv ru h
 | succ n ih =>
  intro d e x y v u A b hd hA rx ry rv ru h
  have hu:A.units<cLine:=by omega
  have hA1:A.in1.units+n<cLine:=by show A.units+1+n<cLine;omega
  by_cases h0:d.dep=0
  ·exact K5 I h0 hu rx ry rv ru h
  cases rx with
  | non=>exact absurd Eb h0
  | bl c=>exact absurd (Ea c) h0
  | int c=>exact absurd (Vr c) h0
  | str c=>exact absurd (Vs c) h0
  | scr h1 =>
   rw [D.eq] at h
   ·simp at h
   all_goals simp
  | exc0 h1=>rw [D.eq] at h;simp at h
  | exc h1 hx1=>rw [D.eq] at h;simp at h
  | dic h1 hl1 r1=>rw [D.eq] at h;simp at h
  | @tup p xs ds h1 r1 =>
   cases (show v=Value.ref p from rv)
   rw [Rl] at hd
   obtain ⟨us,v1,t1⟩:=T h1
   cases ry with
   | @tup q ys es h2 r2 =>
    cases (show u=Value.ref q from ru)
    obtain ⟨ws,v2,t2⟩:=T h2
    rw [D.eq] at h
    have hi:=Kc (A:=A.in1) I (by omega) hA1 (fun d e x y v u b hd rx ry rv ru h=>ih d e x y v u A.in1 b hd hA1 rx ry rv ru h) r1 r2 v1 v2 h
    have hr:=SeqAt.RcAt.tuples t1 t2 hu hi
    have hn:=SeqAt.RcNeAt.tuples t1 t2 hu hi
    have hb:b=((List.range (min us.toArray.size ws.toArray.size)).all (Zd ds es)&&us.toArray.size==ws.toArray.size):=by
     rw [(TL ds es b h).2]
     simp only [List.size_toArray]
     rw [<- v1.length,<- v2.length,r1.length,r2.length]
    rw [<- hb] at hr hn
    refine O5 hr hn fun z=>?_
    subst z
    rw [h1] at h2;cases h2
    exact K6 r1 r2 h
   | _=>rw [D.eq] at h;cases h;exact nofun
  | @lst p xs ds h1 r1 =>
   cases (show v=Value.ref p from rv)
   rw [TF] at hd
   obtain ⟨us,v1,t1⟩:=L h1
   cases ry with
   | @lst q ys es h2 r2 =>
    cases (show u=Value.ref q from ru)
    obtain ⟨ws,v2,t2⟩:=L h2
    rw [D.eq] at h
    have hb:=(TL ds es b h).2
    have l1:=r1.length
    have l2:=r2.length
    have l3:=v1.length
    have l4:=v2.length
    by_cases hz:ds.length=es.length
    ·have hi:=Kc (A:=A.in1) I (by omega) hA1 (fun d e x y v u b hd rx ry rv ru h=>ih d e x y v u A.in1 b hd hA1 rx ry rv ru h) r1 r2 v1 v2 h
     have hr:=SeqAt.RcAt.lists t1 t2 (by simp only [List.size_toArray];omega) hu hi
     have hn:=SeqAt.RcNeAt.lists t1 t2 (by simp only [List.size_toArray];omega) hu hi
     have hb':b=((List.range us.toArray.size).all (Zd ds es)):=by
      rw [hb]
      simp only [List.size_toArray]
      rw [<- l3,l1,hz,Nat.min_self]
      simp
     rw [<- hb'] at hr hn
     refine O5 hr hn fun z=>?_
     subst z
     rw [h1] at h2;cases h2
     exact K6 r1 r2 h
    ·have hr:=SeqAt.RcAt.lists_lengths (A:=A) t1 t2 (by simp only [List.size_toArray,bne_iff_ne];omega) hu
     have hn:=SeqAt.RcNeAt.lists_lengths (A:=A) t1 t2 (by simp only [List.size_toArray,bne_iff_ne];omega) hu
     have hb':b=false:=by rw [hb];simp [hz]
     rw [hb']
     refine O5 hr hn fun z=>?_
     subst z
     rw [h1] at h2;cases h2
     omega
   | _=>rw [D.eq] at h;cases h;exact nofun
theorem K3 {dx dy:D} {b:Bool} (h:D.eq dx dy=some b) (ks:List Kd) (ds:List D):dx≠.dic ks ds:=by
 rintro rfl
 cases dy<;>simp [D.eq] at h
theorem K4 {dx dy:D} {b:Bool} (h:D.eq dx dy=some b) (ks:List Kd) (ds:List D):dy≠.dic ks ds:=by
 rintro rfl
 cases dx<;>simp [D.eq] at h
def UT (X:Cx) (g:Bool->Bool):R2:=fun x y H Q=>∃ F dx dy b,Sm F H/\RdD X.K F H x dx/\RdD X.K F H y dy/\dx.dep<=40/\D.eq dx dy=some b/\Q (.bl (g b)) H
theorem Yd (hu:X.A.units+64<cLine):OpR X (compareOp .Eq) (UT X id)/\J8 X (UT X id) D.eqO:=by
 refine ⟨fun pins s σ H x y v u Q I rx ry z=>?_,fun F H x y dx dy d Q sm rx ry e k=>?_⟩
 ·obtain ⟨F,dx,dy,b,sm,r1,r2,hd,h,q⟩:=z
  have:=(K2 I 40 dx dy x y v u X.A b hd (by omega) (r1.rep sm (K3 h)) (r2.rep sm (K4 h)) rx ry h).1
  exact this X.prog X.w X.xe _ ⟨.bl b,H,I,rfl,q⟩
 ·simp only [D.eqO] at e
  split at e
  ·rename_i hd
   obtain ⟨b,e1,rfl⟩:=JQ e
   exact ⟨F,dx,dy,b,sm,rx,ry,hd,e1,k _ F H (.refl sm) (.bl b)⟩
  ·simp at e
theorem XD (hu:X.A.units+64<cLine):OpR X (compareOp .NotEq) (UT X (!·))/\J8 X (UT X (!·)) D.neO:=by
 refine ⟨fun pins s σ H x y v u Q I rx ry z=>?_,fun F H x y dx dy d Q sm rx ry e k=>?_⟩
 ·obtain ⟨F,dx,dy,b,sm,r1,r2,hd,h,q⟩:=z
  have:=(K2 I 40 dx dy x y v u X.A b hd (by omega) (r1.rep sm (K3 h)) (r2.rep sm (K4 h)) rx ry h).2.2
  exact this X.prog X.w X.xe _ ⟨.bl (!b),H,I,rfl,q⟩
 ·simp only [D.neO] at e
  split at e
  ·rename_i hd
   obtain ⟨b,e1,rfl⟩:=JQ e
   exact ⟨F,dx,dy,b,sm,rx,ry,hd,e1,k _ F H (.refl sm) (.bl (!b))⟩
  ·simp at e
end
end Wd
namespace Wd
open PySem PySem.Spec PyProof.Rows L2
section
open PySem.SeqAt
open PySem.AutoSeq1 (wpAny_loadPart')
open PySem.MeetsSeq PySem.MeetsSeq2 PySem.MeetsSeq3
end
section
variable {X:Cx} {O:List Nat} {e a b c:Expr} {pos:Pos}
theorem Ox {ev:Q4} {σ:L2.St} {H:Hp} {Q:Bool->Hp->Prop} (h:tDT X O ev σ H Q):tD X O ev σ H fun x H'=>∃ k,x=.bl k/\Q k H':=by
 obtain ⟨F0,F,en,b,rs,w,k⟩:=h
 refine ⟨F0,F,en,.bl b,rs,w,fun v F' H' g r=>?_⟩
 cases r
 exact ⟨b,rfl,k F' H' g⟩
theorem QbY {ev:Q4} {σ:L2.St} {H:Hp} {Q:Bool->Hp->Prop} (h:tDT X O ev σ H Q):tR X O ev σ H fun x H'=>∃ k,x=.bl k/\Q k H':=by
 obtain ⟨F0,F,en,b,rs,w,k⟩:=h
 refine ⟨F0,F,en,.bl b,rs,w,fun v F' H' g r=>?_⟩
 exact ⟨b,r.bl,k F' H' g⟩
theorem Z1 {op:CmpOp} {r:R2} {g:D->D->Option D} {ea eb:Q4} (ho:OpR X (compareOp op) r/\J8 X r g) (ha:PE X a (tR X O ea)) (hb:PE X b (tR X O eb)) (hm:behindInMarks op b=false):PT X (.Compare a [op] [b] pos) (tDT X O (Q0 g ea eb)) :=
 PT.imp (SD ho.1 ha hb hm) fun σ H Q h=>S2 ho.2 (Ox h)
theorem Qg {ev:Q4} (h:PE X e (tR X O ev)) (he:∀ whole,isTrue e X.env whole=(do let v <- whole;standAt e.pos;holding [v] (truthy v)):=by intro _;rfl):PT X e (tDT X O ev) :=
 PT.imp (Iu h he) fun σ H Q h=>QbY h
theorem VM {α:Type} {o:Option D} {x y:Option α} {r:α} (h:Ju o x y=some r):∃ c,o=some (.bl c)/\(if c=true then x else y)=some r:=by
 cases o with
 | none=>cases h
 | some d=>cases d with
  | bl c=>exact ⟨c,rfl,h⟩
  | _=>cases h
theorem tDT.of {ev:Q4} {F0:Fz} {F:Hp} {en:Q2} {σ:L2.St} {H:Hp} {Q:Bool->Hp->Prop} {b:Bool} (rs:RS X.K X.H₀ F0 F H σ en O) (w:ev en=some (.bl b)) (k:∀ F' H',Gr F H F' H'->Q b H'):tDT X O ev σ H Q:=⟨F0,F,en,b,rs,w,k⟩
theorem GU {ea eb:Q4} {σ:L2.St} {H:Hp} {Q:Bool->Hp->Prop} (h:tDT X O (QP ea eb) σ H Q):Ho (tDT X O ea) (tDT X O eb) σ H Q:=by
 obtain ⟨F0,F,en,b,rs,w,k⟩:=h
 obtain ⟨c,e1,e2⟩:=VM w
 refine ⟨F0,F,en,c,rs,e1,fun F1 H1 g1=>?_⟩
 cases c with
 | true=>exact Jv (.of (rs.grow g1) e2 fun F' H' g=>k F' H' (g1.trans g))
 | false=>cases e2;exact Jh (k F1 H1 g1)
theorem AX {ea eb:Q4} {σ:L2.St} {H:Hp} {Q:Bool->Hp->Prop} (h:tDT X O (Qm ea eb) σ H Q):Hv (tDT X O ea) (tDT X O eb) σ H Q:=by
 obtain ⟨F0,F,en,b,rs,w,k⟩:=h
 obtain ⟨c,e1,e2⟩:=VM w
 refine ⟨F0,F,en,c,rs,e1,fun F1 H1 g1=>?_⟩
 cases c with
 | true=>cases e2;exact Jv (k F1 H1 g1)
 | false=>exact Jh (.of (rs.grow g1) e2 fun F' H' g=>k F' H' (g1.trans g))
theorem JO {ev:Q4} {op} (h:PT X a (tDT X O ev)):PW X (.BoolOp op [a] pos) (tDT X O ev):=by
 cases op
 ·exact Qai h
 ·exact Qak h
theorem JS {rest:List Expr} {ea eb:Q4} (ha:PT X a (tDT X O ea)) (hb:PW X (.BoolOp .And (b::rest) pos) (tDT X O eb)):PW X (.BoolOp .And (a::b::rest) pos) (tDT X O (QP ea eb)) :=
 PW.imp (Qah ha hb) fun σ H Q h=>GU h
theorem Zc {rest:List Expr} {ea eb:Q4} (ha:PT X a (tDT X O ea)) (hb:PW X (.BoolOp .Or (b::rest) pos) (tDT X O eb)):PW X (.BoolOp .Or (a::b::rest) pos) (tDT X O (Qm ea eb)) :=
 PW.imp (Qaj ha hb) fun σ H Q h=>AX h
theorem Vv {ev:Q4} (ha:PT X a (tDT X O ev)):PT X (.UnaryOp .Not a pos) (tDT X O (Jm ev)) :=
 PT.imp (Ir ha) <| by
  rintro σ H Q ⟨F0,F,en,b,rs,w,k⟩
  have w':Pl (ev en)=some (.bl b):=w
  cases q:ev en with
  | none=>rw [q] at w';cases w'
  | some d =>
   rw [q] at w'
   cases d with
   | bl c=>cases w';exact ⟨F0,F,en,c,rs,q,k⟩
   | _=>cases w'
theorem YS {ev:Q4} {op} (h:PE X a (tD X O ev)):PE X (.BoolOp op [a] pos) (tD X O ev):=Am h
theorem Yn {rest:List Expr} {ea eb:Q4} (ha:PE X a (tR X O ea)) (hb:PE X (.BoolOp .And (b::rest) pos) (tD X O eb)):PE X (.BoolOp .And (a::b::rest) pos) (tD X O (QP ea eb)) :=
 PE.imp (Ae ha hb) <| by
  rintro σ H Q ⟨F0,F,en,d,rs,w,k⟩
  obtain ⟨c,e1,e2⟩:=VM w
  refine ⟨F0,F,en,.bl c,rs,e1,fun v F1 H1 g1 r1=>⟨c,r1.bl,?_⟩⟩
  cases c with
  | true=>exact Jv ⟨F0,F1,en,d,rs.grow g1,e2,fun v F' H' g r=>k v F' H' (g1.trans g) r⟩
  | false=>obtain rfl:=Option.some.inj e2;exact Jh (k _ F1 H1 g1 (.bl _))
theorem Ln {rest:List Expr} {ea eb:Q4} (ha:PE X a (tR X O ea)) (hb:PE X (.BoolOp .Or (b::rest) pos) (tD X O eb)):PE X (.BoolOp .Or (a::b::rest) pos) (tD X O (Qm ea eb)) :=
 PE.imp (An ha hb) <| by
  rintro σ H Q ⟨F0,F,en,d,rs,w,k⟩
  obtain ⟨c,e1,e2⟩:=VM w
  refine ⟨F0,F,en,.bl c,rs,e1,fun v F1 H1 g1 r1=>⟨c,r1.bl,?_⟩⟩
  cases c with
  | true=>obtain rfl:=Option.some.inj e2;exact Jv (k _ F1 H1 g1 (.bl _))
  | false=>exact Jh ⟨F0,F1,en,d,rs.grow g1,e2,fun v F' H' g r=>k v F' H' (g1.trans g) r⟩
theorem EY {ev:Q4} (ha:PE X a (tR X O ev)):PE X (.UnaryOp .Not a pos) (tD X O (Jm ev)) :=
 PE.imp (Ak ha) <| by
  rintro σ H Q ⟨F0,F,en,d,rs,w,k⟩
  have w':Pl (ev en)=some d:=w
  cases q:ev en with
  | none=>rw [q] at w';cases w'
  | some x =>
   rw [q] at w'
   cases x with
   | bl c=>obtain rfl:=Option.some.inj w';exact ⟨F0,F,en,.bl c,rs,q,fun v F' H' g r=>⟨c,r.bl,k _ F' H' g (.bl _)⟩⟩
   | _=>cases w'
theorem Wm {ec ea eb:Q4} (hc:PT X c (tDT X O ec)) (ha:PE X a (tD X O ea)) (hb:PE X b (tD X O eb)):PE X (.IfExp c a b pos) (tD X O (YX ec ea eb)) :=
 PE.imp (UP hc ha hb) <| by
  rintro σ H Q ⟨F0,F,en,d,rs,w,k⟩
  obtain ⟨c,e1,e2⟩:=VM w
  refine ⟨F0,F,en,c,rs,e1,fun F1 H1 g1=>?_⟩
  cases c with
  | true=>exact Jv ⟨F0,F1,en,d,rs.grow g1,e2,fun v F' H' g r=>k v F' H' (g1.trans g) r⟩
  | false=>exact Jh ⟨F0,F1,en,d,rs.grow g1,e2,fun v F' H' g r=>k v F' H' (g1.trans g) r⟩
theorem Yp {ev:Q4} (ha:PE X a (tR X O ev)):PE X (.UnaryOp .USub a pos) (tD X O (QA D.neg ev)) :=
 PE.imp (Ii G0 ha) <| by
  rintro σ H Q ⟨F0,F,en,d,rs,w,k⟩
  obtain ⟨x,e1,e2⟩:=QR w
  cases x with
  | int i=>obtain rfl:=Option.some.inj e2;exact ⟨F0,F,en,.int i,rs,e1,fun v F' H' g r=>⟨i,r.int,k _ F' H' g (.int _)⟩⟩
  | _=>cases e2
theorem FC {g g':D->D->Option D} {r r':R2} {ea eb ec:Q4} (ho:J8 X r g) (ho':J8 X r' g') {σ:L2.St} {H:Hp} {Q:VK} (h:tD X O (Ws g g' ea eb ec) σ H Q):Hq r r' (tR X O ea) (tR X O eb) (tR X O ec) σ H Q:=by
 obtain ⟨F0,F,en,d,rs,w,k⟩:=h
 obtain ⟨dx,dy,e1,e2,e3⟩:=Yk w
 obtain ⟨c,e4,e5⟩:=VM e3
 refine ⟨F0,F,en,dx,rs,e1,fun x F1 H1 g1 r1=>?_⟩
 refine ⟨F0,F1,en,dy,rs.grow g1,e2,fun y F2 H2 g2 r2=>?_⟩
 refine ho F2 H2 x y dx dy (.bl c) _ g2.fh (r1.gr g2) r2 e4 fun v F3 H3 g3 r3=>?_
 cases r3
 refine ⟨c,rfl,?_⟩
 have g13:=(g1.trans g2).trans g3
 cases c with
 | true =>
  obtain ⟨dz,e6,e7⟩:=QR e5
  refine Jv ⟨F0,F3,en,dz,rs.grow g13,e6,fun z F4 H4 g4 r4=>?_⟩
  exact ho' F4 H4 y z dy dz d _ g4.fh ((r2.gr g3).gr g4) r4 e7 fun v F' H' g5 r5=>k v F' H' ((g13.trans g4).trans g5) r5
 | false=>obtain rfl:=Option.some.inj e5;exact Jh (k _ F3 H3 g13 (.bl _))
theorem Ll {op op':CmpOp} {g g':D->D->Option D} {r r':R2} {ea eb ec:Q4} (ho:OpR X (compareOp op) r/\J8 X r g) (ho':OpR X (compareOp op') r'/\J8 X r' g') (ha:PE X a (tR X O ea)) (hb:PE X b (tR X O eb)) (hc:PE X c (tR X O ec)) (hm:lastMarks [op,op'] [b,c]=false:=by with_unfolding_all rfl) :
  PE X (.Compare a [op,op'] [b,c] pos) (tD X O (Ws g g' ea eb ec)):=PE.imp (Ag ho.1 ho'.1 ha hb hc hm) fun σ H Q h=>FC ho.2 ho'.2 h
theorem Dz:PA X [] (tL X O lN):=PA.imp Qt fun σ H Q ⟨F0,F,en,ds,rs,w,k⟩=>by obtain rfl:=Option.some.inj w;exact k [] F H (.refl rs.fh) .nil
theorem Vp {es:List Expr} {ea:Q4} {l:JT} (ha:PE X a (tD X O ea)) (hr:PA X es (tL X O l)) (hs:starEach (a::es) X.env=(false,eval a X.env)::starEach es X.env:=by rfl):PA X (a::es) (tL X O (lC ea l)) :=
 PA.imp (Qh ha hr hs) <| by
  rintro σ H Q ⟨F0,F,en,ds,rs,w,k⟩
  obtain ⟨d,e1,e2⟩:=QR w
  obtain ⟨ds',e3,rfl⟩:=JQ e2
  refine ⟨F0,F,en,d,rs,e1,fun v F1 H1 g1 r1=>?_⟩
  exact ⟨F0,F1,en,ds',rs.grow g1,e3,fun vs F2 H2 g2 r2=>k (v::vs) F2 H2 (g1.trans g2) (.cons (r1.mono g2.ff) r2)⟩
theorem X6:∀ (e:Q2) (d:List D),lN e=some d->d.length<=0:=fun e d h=>by obtain rfl:=Option.some.inj h;exact Nat.le_refl 0
theorem ZK {n:Nat} {ea:Q4} {l:JT} (h:∀ (e:Q2) (d:List D),l e=some d->d.length<=n):∀ (e:Q2) (d:List D),lC ea l e=some d->d.length<=n+1:=fun e d w=>by
 obtain ⟨x,e1,e2⟩:=QR w
 obtain ⟨ds,e3,rfl⟩:=JQ e2
 exact Nat.succ_le_succ (h e ds e3)
theorem JF {es:List Expr} {l:JT} {x1} (h:PA X es (tL X O l)) (hz:∀ (e:Q2) (d:List D),l e=some d->d.length<=Qc):PE X (.Tuple es x1 pos) (tD X O (Qa l)) :=
 PE.imp (SA h) <| by
  rintro σ H Q ⟨F0,F,en,d,rs,w,k⟩
  obtain ⟨ds,e1,rfl⟩:=JQ w
  refine ⟨F0,F,en,ds,rs,e1,fun vs F1 H1 g1 r1=>⟨by rw [r1.length,ZC];exact hz en ds e1,fun p hp=>?_⟩⟩
  have g:=Gr.new g1.fh hp (.tup vs)
  exact k _ _ _ (g1.trans g) (.tup QQ (r1.mono g.ff))
theorem Jg {es:List Expr} {l:JT} (h:PA X es (tL X O l)) (hz:∀ (e:Q2) (d:List D),l e=some d->d.length<=Qc):PE X (.List es pos) (tD X O (QY l)) :=
 PE.imp (WM h) <| by
  rintro σ H Q ⟨F0,F,en,d,rs,w,k⟩
  obtain ⟨ds,e1,rfl⟩:=JQ w
  refine ⟨F0,F,en,ds,rs,e1,fun vs F1 H1 g1 r1=>⟨by rw [r1.length,ZC];exact hz en ds e1,fun p hp=>?_⟩⟩
  have g:=Gr.new g1.fh hp (.lst vs)
  exact k _ _ _ (g1.trans g) (.lst QQ (r1.mono g.ff))
theorem Zb {es:List Expr} {l:JT} (h:PA X es (tL X O l)) (hz:∀ (e:Q2) (d:List D),l e=some d->d.length<=Qc):PE X (.List es pos) (tO X O (QY l)) :=
 PE.imp (WM h) <| by
  rintro σ H Q ⟨F0,F,en,d,rs,w,k⟩
  obtain ⟨ds,e1,rfl⟩:=JQ w
  refine ⟨F0,F,en,ds,rs,e1,fun vs F1 H1 g1 r1=>⟨by rw [r1.length,ZC];exact hz en ds e1,fun p hp=>?_⟩⟩
  have g:=Gr.newO g1.fh hp (.lst vs)
  exact k p none vs ds F1 _ (g1.trans g) (g1.hh.none hp) (g1.fh.none hp) QQ r1 rfl trivial
theorem Rp:PO X none (tOI X O Xx):=by
 rintro pins s σ H Q I ⟨F0,F,en,o,rs,w,k⟩
 obtain rfl:=Option.some.inj w
 exact Qaa pins s σ H Q I (k F H (.refl rs.fh))
theorem Xg {ev:Q4} (h:PE X e (tR X O ev)):PO X (some e) (tOI X O (Zj ev)):=by
 rintro pins s σ H Q I ⟨F0,F,en,o,rs,w,k⟩
 obtain ⟨d,e1,e2⟩:=QR w
 cases d with
 | int i=>obtain rfl:=Option.some.inj e2;exact Qab h pins s σ H Q I ⟨F0,F,en,.int i,rs,e1,fun v F' H' g r=>⟨i,r.int,k F' H' g⟩⟩
 | _=>simp at e2
theorem Rh {K:Fg} {F:Hp} {xs:List V} {ds:List D} (r:Reps K F xs ds) (lo hi:Option Int):Reps K F (Zr xs lo hi) (Jf ds lo hi):=by
 unfold Zr Jf
 rw [r.length]
 exact (r.drop _).take _
def C1 (X:Cx) (r:List V->Hp->VK->Prop) (g:D->Option D):Prop:=∀ (F H:Hp) (x:V) (dx d:D) (Q:VK),Sm F H->RdD X.K F H x dx->g dx=some d->(∀ v F' H',Gr F H F' H'->Rep X.K F' v d->Q v H')->r [x] H Q
theorem VU {ev:Q4} (ha:PE X a (tR X O ev)) (hs:starEach [a] X.env=[(false,eval a X.env)]:=by rfl):PA X [a] (Qy (tR X O ev) J7):=Qh ha Qt hs
theorem JN {id:String} {x:Str} {p:Pos} {r:List V->Hp->VK->Prop} {g:D->Option D} {ev:Q4} (hc:CallR X (.builtin id) r/\C1 X r g) (hg:Gl X x) (hm:X.mg x=none) (hv:bootBuiltins x=some (.builtin id)) (ha:PE X a (tR X O ev)) (hn:x≠"__name__":=by decide) (hdb:(x==("__debug__":Str))=false:=by decide)
  (he:starEach [a] X.env=[(false,eval a X.env)]:=by rfl):PE X (.Call (.Name x p) [a] [] pos) (tD X O (QA g ev)) :=
 PE.imp (UO hc.1 hg hm hv (VU ha he) hn hdb he rfl) <| by
  rintro σ H Q ⟨F0,F,en,d,rs,w,k⟩
  obtain ⟨dx,e1,e2⟩:=QR w
  exact ⟨F0,F,en,dx,rs,e1,fun v F' H' g r=>hc.2 F' H' v dx d Q g.fh r e2 fun v2 F2 H2 g2 r2=>k v2 F2 H2 (g.trans g2) r2⟩
theorem T9 {T:String} {x:Str} {p:Pos} {r:List V->Hp->VK->Prop} {g:D->Option D} {ev:Q4} (hc:CallR X (.type T) r/\C1 X r g) (hg:Gl X x) (hm:X.mg x=none) (hv:bootBuiltins x=some (.type T)) (ha:PE X a (tR X O ev)) (hn:x≠"__name__":=by decide) (hdb:(x==("__debug__":Str))=false:=by decide)
  (he:starEach [a] X.env=[(false,eval a X.env)]:=by rfl):PE X (.Call (.Name x p) [a] [] pos) (tD X O (QA g ev)) :=
 PE.imp (Ig hc.1 hg hm hv (VU ha he) hn hdb he rfl) <| by
  rintro σ H Q ⟨F0,F,en,d,rs,w,k⟩
  obtain ⟨dx,e1,e2⟩:=QR w
  exact ⟨F0,F,en,dx,rs,e1,fun v F' H' g r=>hc.2 F' H' v dx d Q g.fh r e2 fun v2 F2 H2 g2 r2=>k v2 F2 H2 (g.trans g2) r2⟩
theorem JY:CallR X (.builtin "len") (fun xs H Q=>(∃ p ys,xs=[.ref p]/\(SqL X.K H p ys\/SqT X.K H p ys)/\Q (.int ys.length) H)\/∃ z,xs=[.str z]/\z.length<=sizeLine/\Q (.int z.length) H) /\
  C1 X (fun xs H Q=>(∃ p ys,xs=[.ref p]/\(SqL X.K H p ys\/SqT X.K H p ys)/\Q (.int ys.length) H)\/∃ z,xs=[.str z]/\z.length<=sizeLine/\Q (.int z.length) H) D.len:=by
 refine ⟨CallR.or Gu Gv,fun F H x dx d Q s rx e k=>?_⟩
 cases dx with
 | str z =>
  simp only [D.len] at e
  split at e
  ·rename_i hz
   obtain rfl:=Option.some.inj e
   exact .inr ⟨z,by rw [rx.str],by rw [ZC];exact hz,k _ F H (.refl s) (.int _)⟩
  ·simp at e
 | tup ds =>
  obtain rfl:=Option.some.inj e
  obtain ⟨p,xs,rfl,h,r⟩:=rx.tup
  exact .inl ⟨p,xs,rfl,.inr (SqT.of (s _ _ h)),by rw [r.length];exact k _ F H (.refl s) (.int _)⟩
 | lst ds =>
  obtain rfl:=Option.some.inj e
  obtain ⟨p,xs,rfl,h,r⟩:=rx.lst s
  exact .inl ⟨p,xs,rfl,.inl (SqL.of h),by rw [r.length];exact k _ F H (.refl s) (.int _)⟩
 | scr ns =>
  obtain rfl:=Option.some.inj e
  obtain ⟨p,rfl,h⟩:=rx.scr
  exact .inl ⟨p,_,rfl,.inl (s.sqL h),by rw [List.length_map];exact k _ F H (.refl s) (.int _)⟩
 | _=>cases e
theorem log2_lt {n:Nat} (h:n<2^1900):n.log2<1920:=by
 by_cases z:n=0
 ·subst z;decide
 ·have:=(Nat.log2_lt z (k:=1900)).mpr h
  omega
theorem LO:CallR X (.type "str") (fun xs H Q=>∃ i,xs=[.int i]/\i.natAbs.log2<1920/\Q (.str (toString i)) H)/\C1 X (fun xs H Q=>∃ i,xs=[.int i]/\i.natAbs.log2<1920/\Q (.str (toString i)) H) D.strI:=by
 refine ⟨F9,fun F H x dx d Q s rx e k=>?_⟩
 cases dx with
 | int i =>
  simp only [D.strI] at e
  split at e
  ·rename_i hz
   obtain rfl:=Option.some.inj e
   exact ⟨i,by rw [rx.int],log2_lt hz,k _ F H (.refl s) (.str _)⟩
  ·simp at e
 | _=>cases e
def C2 (X:Cx) (r:List V->Hp->VK->Prop) (g:D->D->Option D):Prop:=∀ (F H:Hp) (x y:V) (dx dy d:D) (Q:VK),Sm F H->RdD X.K F H x dx->RdD X.K F H y dy->g dx dy=some d->(∀ v F' H',Gr F H F' H'->Rep X.K F' v d->Q v H')->r [x,y] H Q
theorem ET {id:String} {x:Str} {p:Pos} {r:List V->Hp->VK->Prop} {g:D->D->Option D} {ea eb:Q4} (hc:CallR X (.builtin id) r/\C2 X r g) (hg:Gl X x) (hm:X.mg x=none) (hv:bootBuiltins x=some (.builtin id)) (ha:PE X a (tR X O ea)) (hb:PE X b (tR X O eb)) (hn:x≠"__name__":=by decide) (hdb:(x==("__debug__":Str))=false:=by decide)
  (he:starEach [a,b] X.env=[(false,eval a X.env),(false,eval b X.env)]:=by rfl) (he2:starEach [b] X.env=[(false,eval b X.env)]:=by rfl):PE X (.Call (.Name x p) [a,b] [] pos) (tD X O (Q0 g ea eb)) :=
 PE.imp (UO hc.1 hg hm hv (Qh ha (VU hb he2) (by rw [he,he2])) hn hdb (by rw [he,he2]) (by rw [he2];rfl)) <| by
  rintro σ H Q ⟨F0,F,en,d,rs,w,k⟩
  obtain ⟨dx,dy,e1,e2,e3⟩:=Yk w
  refine ⟨F0,F,en,dx,rs,e1,fun v F1 H1 g1 r1=>?_⟩
  exact ⟨F0,F1,en,dy,rs.grow g1,e2,fun u F2 H2 g2 r2=>hc.2 F2 H2 v u dx dy d Q g2.fh (r1.gr g2) r2 e3 fun v3 F3 H3 g3 r3=>k v3 F3 H3 ((g1.trans g2).trans g3) r3⟩
theorem Gy (hc:X.calm=true):CallR X (.builtin "max") (fun xs H Q=>∃ i j,xs=[.int i,.int j]/\Q (.int (if j > i then j else i)) H)/\C2 X (fun xs H Q=>∃ i j,xs=[.int i,.int j]/\Q (.int (if j > i then j else i)) H) D.max2:=by
 refine ⟨Gx hc,fun F H x y dx dy d Q s rx ry e k=>?_⟩
 cases dx<;>cases dy<;>try (simp [D.max2] at e;done)
 case int.int i j=>obtain rfl:=Option.some.inj e;exact ⟨i,j,by rw [rx.int,ry.int],k _ F H (.refl s) (.int _)⟩
def Qan (X:Cx) (T:String):List V->Hp->VK->Prop:=fun xs H Q=>∃ x t b,xs=[x,.ty T]/\TyOf X.K H x t/\PySem.W.kitOne X.K t (.type T)=some b/\Q (.bl b) H
theorem Gs (T:String):CallR X (.builtin "isinstance") (Qan X T):=by
 rintro pins s σ H xs us Q I r ⟨x,t,b,hx,ty,e,q⟩
 subst hx
 obtain ⟨u,w,rfl,rx,rw'⟩:=Sl r
 cases (show w=Value.type T from rw')
 exact Dq I rx ty e fun tk=>⟨.bl b,H,I.tok tk,rfl,q⟩
def RK (d:D):Prop:=(∀ ns,d≠.scr ns)/\∀ c n,d≠.exc c n
def Wf (K:Fg) (T:String):Prop:=∀ d:D,RK d->PySem.W.kitOne K (.type (Vg d)) (.type T)=some (decide (Vg d=T)||(decide (T="int")&&decide (Vg d="bool")))
theorem Qce {F H:Hp} {x:V} {d:D} (s:Sm F H) (hd:RK d) (r:RdD X.K F H x d):TyOf X.K H x (.type (Vg d)):=by
 cases d with
 | non=>rw [r.non];exact .non
 | bl b=>rw [r.bl];exact .bl b
 | int i=>rw [r.int];exact .int i
 | str z=>rw [r.str];exact .str z
 | tup ds=>obtain ⟨p,xs,rfl,h,_⟩:=r.tup;exact .tup (s _ _ h)
 | lst ds=>obtain ⟨p,xs,rfl,h,_⟩:=r.lst s;exact .lst h
 | dic ks ds=>obtain ⟨p,xs,rfl,h,_⟩:=r.dic s;rcases h with h | ⟨o,h⟩;exact .dK h;exact .frzD h
 | scr ns=>exact absurd rfl (hd.1 ns)
 | exc c n=>exact absurd rfl (hd.2 c n)
theorem Yo {T:String} {x y:Str} {p p2:Pos} {ev:Q4} (kt:Wf X.K T) (hg:Gl X x) (hm:X.mg x=none) (hv:bootBuiltins x=some (.builtin "isinstance")) (hg2:Gl X y) (hm2:X.mg y=none) (hv2:bootBuiltins y=some (.type T)) (ha:PE X a (tR X O ev)) (hn:x≠"__name__":=by decide) (hdb:(x==("__debug__":Str))=false:=by decide)
  (hn2:y≠"__name__":=by decide) (hdb2:(y==("__debug__":Str))=false:=by decide)
  (he:starEach [a,.Name y p2] X.env=[(false,eval a X.env),(false,eval (.Name y p2) X.env)]:=by rfl) (he2:starEach [.Name y p2] X.env=[(false,eval (.Name y p2) X.env)]:=by rfl):PE X (.Call (.Name x p) [a,.Name y p2] [] pos) (tD X O (Zt T ev)) :=
 PE.imp (UO (Gs T) hg hm hv (Qh ha (Qh (Ic hg2 hm2 hv2 (show RelV (.ty T) (.type T) from rfl) hn2 hdb2) Qt he2) (by rw [he,he2])) hn hdb (by rw [he,he2]) (by rw [he2];rfl)) <| by
  rintro σ H Q ⟨F0,F,en,d,rs,w,k⟩
  obtain ⟨dx,e1,e2⟩:=QR w
  have hs:RK dx/\d=.bl (decide (Vg dx=T)||(decide (T="int")&&decide (Vg dx="bool"))):=by
   cases dx with
   | scr ns=>cases e2
   | exc c n=>exact nomatch e2
   | _=>obtain rfl:=Option.some.inj e2;exact ⟨⟨(fun _ z=>nomatch z),(fun _ _ z=>nomatch z)⟩,rfl⟩
  refine ⟨F0,F,en,dx,rs,e1,fun v F1 H1 g1 r1=>?_⟩
  refine ⟨v,_,_,rfl,Qce g1.fh hs.1 r1,kt dx hs.1,?_⟩
  rw [hs.2] at k
  exact k _ F1 H1 g1 (.bl _)
end
end Wd
namespace Wd
open PySem PySem.Spec PyProof.Rows L2
structure Ex (H₀:Hp) (F0:Fz) (F H:Hp):Prop where
 fh:Sm F H
 hh:Sm F0.h H
 ff:Sm F0.f F
 fr:∀ a o,F a=some o->F0.f a=some o\/F0.h a=none
theorem RS.ex {K:Fg} {H₀:Hp} {F0:Fz} {F H:Hp} {σ:L2.St} {e:Q2} {O:List Nat} (r:RS K H₀ F0 F H σ e O):Ex H₀ F0 F H:=⟨r.fh,r.hh,r.ff,r.fr⟩
theorem Ex.gr {H₀:Hp} {F0:Fz} {F H:Hp} (x:Ex H₀ F0 F H):Gr F0.f F0.h F H:=⟨x.ff,x.hh,x.fh,x.fr⟩
inductive RetO (K:Fg) (H₀ F H:Hp) (v:V) (d:D):Prop
 | mk (p:Addr) (k:Option (List Kd)) (xs:List V) (ds:List D) (h1:v=.ref p) (h2:H₀ p=none) (h3:F p=none) (h4:H p=some (ho k xs)) (h5:Reps K F xs ds) (h6:d=ZG k ds) (h7:Zo k xs):RetO K H₀ F H v d
def RM (K:Fg) (H₀ F H:Hp) (w:Bool) (v:V) (d:D):Prop :=
 if w=true then RetO K H₀ F H v d else Rep K F v d
def Fly (s₀:Heap) (H:Hp) (ea:Addr) (h:Heap):Prop:=s₀.objs.size<=ea/\∃ oe vs,h.get? ea=some oe/\oe.data=.fields vs/\vs.size=6/\(vs[1]?=some .none\/∃ T oT ts,vs[1]?=some (.ref T)/\s₀.objs.size<=T/\H T=none/\T≠ea/\h.get? T=some oT/\oT.data=.fields ts/\ts[3]?=some .none)
def XW (X:Cx) (F0:Fz) (c:Nat) (n:D):Prop:=∀ (pins:List (Addr×Obj)) (σ:L2.St) (F H:Hp) (s:Shared) (ea:Addr),Inv X pins σ H s->Ex X.H₀ F0 F H->Rep X.K F (.ref ea) (.exc c n)->Fly X.s₀.heap H ea s.heap->X.xe (.ref ea) s
def FlOk (X:Cx) (O' OL:List Nat) (w:Bool) (F0:Fz) (F:Hp) (Dn:Ends):Fl->Prop
 | .nx e'=>∀ σ' F' H',Sm F F'->RS X.K X.H₀ F0 F' H' σ' e' O'->Dn.nx σ' H'
 | .bk e'=>∀ σ' F' H',Sm F F'->RS X.K X.H₀ F0 F' H' σ' e' OL->Dn.bk σ' H'
 | .ct e'=>∀ σ' F' H',Sm F F'->RS X.K X.H₀ F0 F' H' σ' e' OL->Dn.ct σ' H'
 | .rt d=>∀ v F' H',Ex X.H₀ F0 F' H'->RM X.K F0.h F' H' w v d->Dn.rt v H'
 | .rz c n=>XW X F0 c n
 | .rm d z=>∀ v F' H',Ex X.H₀ F0 F' H'->Rep X.K F' v d->(∃ i p k xs ds,F0.p i=some p/\F' p=none/\H' p=some (ho k xs)/\Reps X.K F' xs ds/\z=ZG k ds/\Zo k xs)->Dn.rt v H'
inductive tS (X:Cx) (O O' OL:List Nat) (w:Bool) (b:Q8) (Dn:Ends) (σ:L2.St) (H:Hp):Prop
 | mk (F0:Fz) (F:Hp) (e:Q2) (fl:Fl) (h1:RS X.K X.H₀ F0 F H σ e O) (h2:b e=some fl) (h3:FlOk X O' OL w F0 F Dn fl):tS X O O' OL w b Dn σ H
theorem FlOk.mono {X:Cx} {O' OL:List Nat} {w:Bool} {F0:Fz} {F F1:Hp} {Dn:Ends} {fl:Fl} (h:FlOk X O' OL w F0 F Dn fl) (s:Sm F F1):FlOk X O' OL w F0 F1 Dn fl:=by
 cases fl with
 | nx e=>exact fun σ' F' H' q r=>h σ' F' H' (s.trans q) r
 | bk e=>exact fun σ' F' H' q r=>h σ' F' H' (s.trans q) r
 | ct e=>exact fun σ' F' H' q r=>h σ' F' H' (s.trans q) r
 | rt d=>exact h
 | rz c d=>exact h
 | rm d z=>exact h
section
variable {X:Cx} {O O1 O2 O' OL:List Nat} {w:Bool} {st:Stmt} {rest:List Stmt} {e:Expr} {pos:Pos}
theorem Sn:PSs X [] (tS X O O OL w QK):=PSs.imp Yg <| by
 rintro Dn σ H ⟨F0,F,en,fl,rs,z,k⟩
 obtain rfl:=Option.some.inj z
 exact k σ F H (.refl _) rs
theorem So {b:Q8} (h:PS X st (tS X O O' OL w b)):PSs X [st] (tS X O O' OL w b):=Jw h
theorem Ss {a b:Q8} (h1:PS X st (tS X O O1 OL w a)) (h2:PSs X rest (tS X O1 O' OL w b)):PSs X (st::rest) (tS X O O' OL w (sQ a b)) :=
 PSs.imp (Jj h1 h2) <| by
  rintro Dn σ H ⟨F0,F,en,fl,rs,z,k⟩
  have z':Ol (a en) b=some fl:=z
  cases q:a en with
  | none=>rw [q] at z';cases z'
  | some f1 =>
   rw [q] at z'
   refine ⟨F0,F,en,f1,rs,q,?_⟩
   cases f1 with
   | nx e1=>exact fun σ' F' H' s r=>⟨F0,F',e1,fl,r,z',k.mono s⟩
   | bk e1=>obtain rfl:=Option.some.inj z';exact k
   | ct e1=>obtain rfl:=Option.some.inj z';exact k
   | rt d=>obtain rfl:=Option.some.inj z';exact k
   | rz c d=>obtain rfl:=Option.some.inj z';exact k
   | rm d z=>obtain rfl:=Option.some.inj z';exact k
theorem RS.exg {K:Fg} {H₀:Hp} {F0:Fz} {F H F' H':Hp} {σ:L2.St} {e:Q2} {O:List Nat} (r:RS K H₀ F0 F H σ e O) (g:Gr F H F' H'):Ex H₀ F0 F' H':=(r.grow g).ex
theorem QI {ev:Q4} (h:PE X e (tD X O ev)):PS X (.Return (some e) pos) (tS X O O' OL false (QC ev)):=PS.imp (ZA h) <| by
 rintro Dn σ H ⟨F0,F,en,fl,rs,z,k⟩
 obtain ⟨d,e1,rfl⟩:=JQ z
 exact ⟨F0,F,en,d,rs,e1,fun v F' H' g r=>k v F' H' (rs.exg g) r⟩
theorem Ek (i:Nat) (hi:i∈O) {x:Str} {p:Pos} (hN:X.N[i]?=some x:=by rfl) (hv:ZZ X.env.scope x:=by first | exact Or.inl rfl | exact Or.inr (Or.inl rfl) | exact Or.inr (Or.inr rfl)) (hd:(x==("__debug__":Str))=false:=by decide) (hcd:(x==("__classdict__":Str))=false:=by decide) :
  PS X (.Return (some (.Name x p)) pos) (tS X O O' OL true (QC (eV i))):=PS.imp (ZA (Qp hN hv hd hcd)) fun Dn σ H ⟨F0,F,en,fl,rs,z,k⟩=>by
 obtain ⟨d,e1,rfl⟩:=JQ z
 obtain ⟨p,kk,xs,ds,h1,h2,h3,h4,h5,h6,h7⟩:=rs.own i d (Z2 e1) hi
 exact ⟨_,h1,k _ F H rs.ex (show RM X.K F0.h F H true (.ref p) d from ⟨p,kk,xs,ds,rfl,h2,h3,h4,h5,h6,h7⟩)⟩
theorem QN {c:Expr} {a b:List Stmt} {ec:Q4} {ea eb:Q8} (hc:PT X c (tDT X O ec)) (ha:PSs X a (tS X O O' OL w ea)) (hb:PSs X b (tS X O O' OL w eb)):PS X (.If c a b pos) (tS X O O' OL w (QD ec ea eb)) :=
 PS.imp (Ye hc ha hb) <| by
  rintro Dn σ H ⟨F0,F,en,fl,rs,z,k⟩
  obtain ⟨c,e1,e2⟩:=VM z
  refine ⟨F0,F,en,c,rs,e1,fun F1 H1 g1=>?_⟩
  cases c with
  | true=>exact Jv ⟨F0,F1,en,fl,rs.grow g1,e2,k.mono g1.ff⟩
  | false=>exact Jh ⟨F0,F1,en,fl,rs.grow g1,e2,k.mono g1.ff⟩
def dl (i:Nat) (O:List Nat):List Nat:=O.filter fun j=>!(j==i)
def ad (i:Nat) (O:List Nat):List Nat:=O.filter (fun j=>decide (j<i))++i::O.filter (fun j=>decide (i<j))
theorem mem_dl {i j:Nat}:j∈dl i O↔j∈O/\j≠i:=by unfold dl;simp
theorem mem_ad {i j:Nat}:j∈ad i O↔j=i\/j∈O:=by
 unfold ad
 simp only [List.mem_append,List.mem_filter,List.mem_cons,decide_eq_true_eq]
 constructor
 ·rintro (h | h | h)
  ·exact .inr h.1
  ·exact .inl h
  ·exact .inr h.1
 ·rintro (h | h)
  ·exact .inr (.inl h)
  ·rcases Nat.lt_trichotomy j i with z | z | z
   ·exact .inl ⟨h,z⟩
   ·exact .inr (.inl z)
   ·exact .inr (.inr ⟨h,z⟩)
theorem JD {α:Type} {l:List α} {i j:Nat} {x:α} (hi:i<l.length):(l.set i x)[j]?=if i=j then some x else l[j]?:=by
 rw [List.getElem?_set]
 split
 ·rename_i h;subst h;simp [hi]
 ·rfl
theorem RS.put {K:Fg} {H₀:Hp} {F0:Fz} {F H:Hp} {σ:L2.St} {en:Q2} {i:Nat} {v:V} {d:D} (r:RS K H₀ F0 F H σ en O) (h:Rep K F v d) (hi:i<en.length) (hq:Qe i∉O):RS K H₀ F0 F H (σ.set i (some v)) (en.set i (some d)) (dl i O) where
 fh:=r.fh
 hh:=r.hh
 ff:=r.ff
 fr:=r.fr
 slot:=fun j d' e1 hj=>by
  rw [JD hi] at e1
  rw [JD (by rw [r.len];exact hi)]
  split at e1
  ·rename_i z;cases e1;rw [if_pos z];exact ⟨v,rfl,h⟩
  ·rename_i z
   rw [if_neg z]
   exact r.slot j d' e1 fun q=>hj (mem_dl.mpr ⟨q,fun w=>z w.symm⟩)
 own:=fun j d' e1 hj=>by
  obtain ⟨h1,h2⟩:=mem_dl.mp hj
  rw [JD hi,if_neg (Ne.symm h2)] at e1
  rw [JD (by rw [r.len];exact hi),if_neg (Ne.symm h2)]
  exact r.own j d' e1 h1
 dis:=fun j k p d1 d2 hj hk f1 f2 e1 e2=>by
  obtain ⟨h1,h2⟩:=mem_dl.mp hj
  obtain ⟨h3,h4⟩:=mem_dl.mp hk
  rw [JD (by rw [r.len];exact hi),if_neg (Ne.symm h2)] at e1
  rw [JD (by rw [r.len];exact hi),if_neg (Ne.symm h4)] at e2
  rw [JD hi,if_neg (Ne.symm h2)] at f1
  rw [JD hi,if_neg (Ne.symm h4)] at f2
  exact r.dis j k p d1 d2 h1 h3 f1 f2 e1 e2
 pin:=fun j hj=>by
  obtain ⟨h1,_⟩:=mem_dl.mp hj
  obtain ⟨p,e1,e2⟩:=r.pin j h1
  refine ⟨p,e1,?_⟩
  rw [List.getElem?_set_ne (fun z:i=j=>hq (by rw [z];exact h1))]
  exact e2
 len:=by rw [List.length_set,List.length_set];exact r.len
theorem RS.putO {K:Fg} {H₀:Hp} {F0:Fz} {F H:Hp} {σ:L2.St} {en:Q2} {i:Nat} {p:Addr} {kk:Option (List Kd)} {xs:List V} {ds:List D} (r:RS K H₀ F0 F H σ en O) (h0:F0.h p=none) (hf:F p=none) (hp:H p=some (ho kk xs)) (hk:Zo kk xs) (hr:Reps K F xs ds) (hi:i<en.length) (hq:Qe i∉O) (hiq:∀ j,i≠Qe j)
  (hn:∀ j d,j∈O->en[j]?=some (some d)->j≠i->σ[j]?≠some (some (.ref p))):RS K H₀ F0 F H (σ.set i (some (.ref p))) (en.set i (some (ZG kk ds))) (ad i O) where
 fh:=r.fh
 hh:=r.hh
 ff:=r.ff
 fr:=r.fr
 slot:=fun j d' e1 hj=>by
  have hj1:j≠i:=fun z=>hj (mem_ad.mpr (.inl z))
  have hj2:j∉O:=fun z=>hj (mem_ad.mpr (.inr z))
  rw [JD hi,if_neg (Ne.symm hj1)] at e1
  rw [JD (by rw [r.len];exact hi),if_neg (Ne.symm hj1)]
  exact r.slot j d' e1 hj2
 own:=fun j d' e1 hj=>by
  rw [JD hi] at e1
  rw [JD (by rw [r.len];exact hi)]
  split at e1
  ·rename_i z;cases e1;rw [if_pos z];exact ⟨p,kk,xs,ds,rfl,h0,hf,hp,hr,rfl,hk⟩
  ·rename_i z
   rw [if_neg z]
   rcases mem_ad.mp hj with q | q
   ·exact absurd q.symm z
   ·exact r.own j d' e1 q
 dis:=fun j k q d1 d2 hj hk f1 f2 e1 e2=>by
  rw [JD (by rw [r.len];exact hi)] at e1 e2
  rw [JD hi] at f1 f2
  by_cases z1:i=j
  ·by_cases z2:i=k
   ·rw [<- z1,<- z2]
   ·rw [if_pos z1] at e1
    cases e1
    rw [if_neg z2] at e2
    rcases mem_ad.mp hk with w | w
    ·exact absurd w.symm z2
    ·rw [if_neg z2] at f2
     exact absurd e2 (hn k d2 w f2 (Ne.symm z2))
  ·rw [if_neg z1] at e1
   rcases mem_ad.mp hj with w | w
   ·exact absurd w.symm z1
   ·by_cases z2:i=k
    ·rw [if_pos z2] at e2
     cases e2
     rw [if_neg z1] at f1
     exact absurd e1 (hn j d1 w f1 (Ne.symm z1))
    ·rw [if_neg z2] at e2
     rcases mem_ad.mp hk with w2 | w2
     ·exact absurd w2.symm z2
     ·rw [if_neg z1] at f1
      rw [if_neg z2] at f2
      exact r.dis j k q d1 d2 w w2 f1 f2 e1 e2
 pin:=fun j hj=>by
  rcases mem_ad.mp hj with z | h1
  ·exact absurd z.symm (hiq j)
  ·obtain ⟨p,e1,e2⟩:=r.pin j h1
   refine ⟨p,e1,?_⟩
   rw [List.getElem?_set_ne (fun z:i=j=>hq (by rw [z];exact h1))]
   exact e2
 len:=by rw [List.length_set,List.length_set];exact r.len
theorem RS.write {K:Fg} {H₀:Hp} {F0:Fz} {F H:Hp} {σ:L2.St} {en:Q2} {i:Nat} {p:Addr} {kk:Option (List Kd)} {xs:List V} {ds:List D} (r:RS K H₀ F0 F H σ en O) (hi:i∈O) {d0:D} (he:en[i]?=some (some d0)) (hσ:σ[i]?=some (some (.ref p))) (h0:F0.h p=none) (hf:F p=none) (hk:Zo kk xs) (hr:Reps K F xs ds) :
  RS K H₀ F0 F (upd H p (ho kk xs)) σ (en.set i (some (ZG kk ds))) O :=
 have hl:i<en.length:=by
  cases Nat.lt_or_ge i en.length with
  | inl h=>exact h
  | inr h=>rw [List.getElem?_eq_none h] at he;simp at he
 {
 fh:=r.fh.upd _ hf
 hh:=r.hh.upd _ h0
 ff:=r.ff
 fr:=r.fr
 slot:=fun j d' e1 hj=>by
  have z:i≠j:=fun z=>hj (z▸hi)
  rw [JD hl,if_neg z] at e1
  exact r.slot j d' e1 hj
 own:=fun j d' e1 hj=>by
  rw [JD hl] at e1
  split at e1
  ·rename_i z;cases e1;subst z
   exact ⟨p,kk,xs,ds,hσ,h0,hf,QQ,hr,rfl,hk⟩
  ·rename_i z
   obtain ⟨q,k2,ys,es,h1,h2,h3,h4,h5,h6,h7⟩:=r.own j d' e1 hj
   refine ⟨q,k2,ys,es,h1,h2,h3,?_,h5,h6,h7⟩
   rw [QB (fun w:q=p=>z (r.dis i j p _ _ hi hj he e1 hσ (by rw [<- w];exact h1)))]
   exact h4
 dis:=fun j k q d1 d2 hj hk f1 f2 g1 g2=>by
  rw [JD hl] at f1 f2
  have k1:∃ d,en[j]?=some (some d):=by
   split at f1
   ·rename_i z;subst z;exact ⟨_,he⟩
   ·exact ⟨_,f1⟩
  have k2:∃ d,en[k]?=some (some d):=by
   split at f2
   ·rename_i z;subst z;exact ⟨_,he⟩
   ·exact ⟨_,f2⟩
  obtain ⟨_,k1⟩:=k1
  obtain ⟨_,k2⟩:=k2
  exact r.dis j k q _ _ hj hk k1 k2 g1 g2
 pin:=r.pin
 len:=by rw [List.length_set];exact r.len }
theorem RS.rel {K:Fg} {H₀:Hp} {F0:Fz} {F H:Hp} {σ:L2.St} {en:Q2} (ob:Addr->Obj) (i:Nat) (r:RS K H₀ F0 F H σ en O) :
  ∃ F' H',Sm F F'/\RS K H₀ F0 F' H' σ en (dl i O)/\(H'=H\/∃ p kk xs,H p=some (ho kk xs)/\H'=upd H p (hz (ob p) kk xs)):=by
 have none_:(∀ d,en[i]?=some (some d)->i∉O)->∃ F' H',Sm F F'/\RS K H₀ F0 F' H' σ en (dl i O)/\(H'=H\/∃ p kk xs,H p=some (ho kk xs)/\H'=upd H p (hz (ob p) kk xs)):=fun hn=>by
  refine ⟨F,H,.refl F,⟨r.fh,r.hh,r.ff,r.fr,fun j d e1 hj=>?_,fun j d e1 hj=>r.own j d e1 (mem_dl.mp hj).1,fun j k p d1 d2 hj hk=>r.dis j k p d1 d2 (mem_dl.mp hj).1 (mem_dl.mp hk).1,fun j hj=>r.pin j (mem_dl.mp hj).1,r.len⟩,.inl rfl⟩
  exact r.slot j d e1 fun w=>hj (mem_dl.mpr ⟨w,fun z=>hn d (z▸e1) (z▸w)⟩)
 by_cases hi:i∈O
 ·cases q:en[i]? with
  | none=>exact none_ fun d e=>by rw [q] at e;simp at e
  | some o =>
   cases o with
   | none=>exact none_ fun d e=>by rw [q] at e;simp at e
   | some d0 =>
    obtain ⟨p,kk,xs,ds,h1,h2,h3,h4,h5,h6,h7⟩:=r.own i d0 q hi
    have sf:Sm F (upd F p (hz (ob p) kk xs)):=(Sm.refl F).upd _ h3
    refine ⟨upd F p (hz (ob p) kk xs),upd H p (hz (ob p) kk xs),sf,⟨fun a o e1=>?_,fun a o e1=>?_,r.ff.trans sf,fun a o e1=>?_,fun j d e1 hj=>?_,fun j d e1 hj=>?_,fun j k p d1 d2 hj hk=>r.dis j k p d1 d2 (mem_dl.mp hj).1 (mem_dl.mp hk).1,fun j hj=>r.pin j (mem_dl.mp hj).1,r.len⟩,.inr ⟨p,kk,xs,h4,rfl⟩⟩
    ·by_cases z:a=p
     ·subst z;rw [QQ] at e1 ⊢;exact e1
     ·rw [QB z] at e1 ⊢;exact r.fh a o e1
    ·have z:a≠p:=fun z=>by rw [z,h2] at e1;simp at e1
     rw [QB z];exact r.hh a o e1
    ·by_cases z:a=p
     ·subst z;exact .inr h2
     ·rw [QB z] at e1;exact r.fr a o e1
    ·by_cases z:j=i
     ·subst z
      rw [q] at e1;cases e1
      subst h6
      exact ⟨_,h1,Rep.hz QQ h7 (h5.mono sf)⟩
     ·obtain ⟨v,w1,w2⟩:=r.slot j d e1 fun w=>hj (mem_dl.mpr ⟨w,z⟩)
      exact ⟨v,w1,w2.mono sf⟩
    ·obtain ⟨w1,w2⟩:=mem_dl.mp hj
     obtain ⟨p',k2',ys,es,k1,k2,k3,k4,k5,k6,k7⟩:=r.own j d e1 w1
     have ne:p'≠p:=fun z:p'=p=>w2 (r.dis j i p _ _ w1 hi e1 q (by rw [<- z];exact k1) h1)
     refine ⟨p',k2',ys,es,k1,k2,?_,?_,k5.mono sf,k6,k7⟩
     ·rw [QB ne];exact k3
     ·rw [QB ne];exact k4
 ·exact none_ fun _ _=>hi
theorem RS.put' {K:Fg} {H₀:Hp} {F0:Fz} {F H:Hp} {σ:L2.St} {en:Q2} (i:Nat) {v:V} {d:D} (r:RS K H₀ F0 F H σ en O) (h:Rep K F v d) (hq:Qe i∉O):RS K H₀ F0 F H (σ.set i (some v)) (en.set i (some d)) (dl i O):=by
 by_cases hi:i<en.length
 ·exact r.put h hi hq
 ·have e1:en.set i (some d)=en:=List.set_eq_of_length_le (by omega)
  have e2:σ.set i (some v)=σ:=List.set_eq_of_length_le (by rw [r.len];omega)
  rw [e1,e2]
  refine ⟨r.fh,r.hh,r.ff,r.fr,fun j d f1 hj=>?_,fun j d f1 hj=>r.own j d f1 (mem_dl.mp hj).1,fun j k p d1 d2 hj hk=>r.dis j k p d1 d2 (mem_dl.mp hj).1 (mem_dl.mp hk).1,fun j hj=>r.pin j (mem_dl.mp hj).1,r.len⟩
  have:j≠i:=fun z=>by
   rw [z,List.getElem?_eq_none (by omega)] at f1
   simp at f1
  exact r.slot j d f1 fun w=>hj (mem_dl.mpr ⟨w,this⟩)
theorem RS.putO' {K:Fg} {H₀:Hp} {F0:Fz} {F H:Hp} {σ:L2.St} {en:Q2} (i:Nat) {p:Addr} {kk:Option (List Kd)} {xs:List V} {ds:List D} (r:RS K H₀ F0 F H σ en O) (h0:F0.h p=none) (hf:F p=none) (hp:H p=some (ho kk xs)) (hk:Zo kk xs) (hr:Reps K F xs ds)
  (hn:∀ j d,j∈O->en[j]?=some (some d)->j≠i->σ[j]?≠some (some (.ref p))) (hq:Qe i∉O) (hiq:∀ j,i≠Qe j):RS K H₀ F0 F H (σ.set i (some (.ref p))) (en.set i (some (ZG kk ds))) (ad i O):=by
 by_cases hi:i<en.length
 ·exact r.putO h0 hf hp hk hr hi hq hiq hn
 ·have e1:en.set i (some (ZG kk ds))=en:=List.set_eq_of_length_le (by omega)
  have e2:σ.set i (some (V.ref p))=σ:=List.set_eq_of_length_le (by rw [r.len];omega)
  have n1:en[i]?=none:=List.getElem?_eq_none (by omega)
  have n2:σ[i]?=none:=List.getElem?_eq_none (by rw [r.len];omega)
  rw [e1,e2]
  refine ⟨r.fh,r.hh,r.ff,r.fr,fun j d f1 hj=>r.slot j d f1 fun w=>hj (mem_ad.mpr (.inr w)),fun j d f1 hj=>?_,fun j k q d1 d2 hj hk g1 g2 f1 f2=>?_,fun j hj=>?_,r.len⟩
  ·rcases mem_ad.mp hj with z | z
   ·rw [z,n1] at f1;simp at f1
   ·exact r.own j d f1 z
  ·rcases mem_ad.mp hj with z | z
   ·rw [z,n2] at f1;simp at f1
   ·rcases mem_ad.mp hk with z2 | z2
    ·rw [z2,n2] at f2;simp at f2
    ·exact r.dis j k q d1 d2 z z2 g1 g2 f1 f2
  ·rcases mem_ad.mp hj with z | h1
   ·exact absurd z.symm (hiq j)
   ·exact r.pin j h1
theorem KH {X:Cx} {pins:List (Addr×Obj)} {σ:L2.St} {H:Hp} {s:Shared} (I:Inv X pins σ H s) {p:Addr} {kk:Option (List Kd)} {xs:List V} (h:H p=some (ho kk xs)):Inv X pins σ (upd H p (hz ((s.heap.get? p).getD default) kk xs)) s:=by
 cases kk with
 | none =>
  have e:upd H p (hz ((s.heap.get? p).getD default) none xs)=H:=by
   funext b
   by_cases z:b=p
   ·subst z;rw [QQ];exact h.symm
   ·rw [QB z]
  rw [e];exact I
 | some ks =>
  have h':H p=some (.dK (ks.zip xs)):=h
  have ok:ObjOk X.prog X.w H s.heap p (.dK (ks.zip xs)):=I.hok p _ h'
  obtain ⟨z1,z2,vs,rel,o,es,ep,ho,rest⟩:=ok
  rw [ho]
  show Inv X pins σ (upd H p (.frz o (.dK (ks.zip xs)))) s
  have ne:∀ {b:Addr} {u:HO},H b=some u->(∀ kvs,u≠.dK kvs)->b≠p:=fun e n z=>by rw [z,h'] at e;obtain rfl:=Option.some.inj e;exact n _ rfl
  have I2:=I.step (h':=s.heap) (H':=upd H p (.frz o (.dK (ks.zip xs)))) (g':=s.gens) (d':=s.drawn) (t':=s.toks) (ch:=[]) (fun b hb=>by simp at hb) (fun b o _ _ _ e _=>e) (fun b o _ _ _ e _=>⟨o.slots,e⟩) (fun b o _ e n=>by rw [QB (fun z=>by rw [z,h'] at n;simp at n)];exact n)
   (fun b o _ e=>⟨o,e⟩) (fun b xs e=>by rw [QB (ne e (fun _ z=>nomatch z))];exact e) (fun b xs u e=>by rw [QB (ne e (fun _ z=>nomatch z))];exact e) (fun b ps e=>⟨#[],by rw [QB (ne e (fun _ z=>nomatch z)),e];simp⟩) (fun m hm=>hm) (fun b u e=>?_) I.bare
  ·exact I2
  ·by_cases hb:b=p
   ·subst hb
    rw [QQ] at e
    obtain rfl:=Option.some.inj e
    exact ⟨ho,z1,z2,vs,rel,o,es,ep,ho,rest⟩
   ·rw [QB hb] at e
    exact (I.hok b u e).stay (fun c v _ q=>q) (fun c q=>by rw [QB (ne q (fun _ z=>nomatch z))];exact q) fun c xs q=>by rw [QB (ne q (fun _ z=>nomatch z))];exact q
theorem QaF {X:Cx} {pins:List (Addr×Obj)} {F0:Fz} {F H:Hp} {σ:L2.St} {en:Q2} {s:Shared} (i:Nat) (I:Inv X pins σ H s) (r:RS X.K X.H₀ F0 F H σ en O):∃ F' H',Inv X pins σ H' s/\Sm F F'/\RS X.K X.H₀ F0 F' H' σ en (dl i O):=by
 obtain ⟨F',H',sf,r',h⟩:=r.rel (fun p=>(s.heap.get? p).getD default) i
 refine ⟨F',H',?_,sf,r'⟩
 rcases h with h | ⟨p,kk,xs,hp,h⟩
 ·rw [h];exact I
 ·rw [h];exact KH I hp
theorem Y8 (i:Nat) {b:Q8} {sts:List Stmt} (h:PSs X sts (tS X (dl i O) O' OL w b)):PSs X sts (tS X O O' OL w b):=by
 rintro pins s σ H D I ⟨F0,F,en,fl,rs,z,k⟩
 obtain ⟨F',H',I',sf,rs'⟩:=QaF i I rs
 exact h pins s σ H' D I' ⟨F0,F',en,fl,rs',z,k.mono sf⟩
end
end Wd
namespace Wd
open PySem PySem.Spec PyProof.Rows L2
section
variable {X:Cx} {O O1 O2 O' OL:List Nat} {w:Bool} {st:Stmt} {rest:List Stmt} {e:Expr} {pos:Pos}
inductive tG (X:Cx) (O O':List Nat) (g:Qw) (v:V) (σ:L2.St) (H:Hp) (Q:L2.St->Hp->Prop):Prop
 | mk (F0:Fz) (F:Hp) (en:Q2) (d:D) (e':Q2) (h1:RS X.K X.H₀ F0 F H σ en O) (h2:Rep X.K F v d) (h3:g d en=some e') (h4:∀ σ' H' F',Gr F H F' H'->RS X.K X.H₀ F0 F' H' σ' e' O'->Q σ' H'):tG X O O' g v σ H Q
inductive tGs (X:Cx) (O O':List Nat) (gs:List Qw) (vs:List V) (σ:L2.St) (H:Hp) (Q:L2.St->Hp->Prop):Prop
 | mk (F0:Fz) (F:Hp) (en:Q2) (ds:List D) (e':Q2) (h1:RS X.K X.H₀ F0 F H σ en O) (h2:Reps X.K F vs ds) (h3:YB gs ds en=some e') (h4:∀ σ' H' F',Gr F H F' H'->RS X.K X.H₀ F0 F' H' σ' e' O'->Q σ' H'):tGs X O O' gs vs σ H Q
theorem PG.imp {t t':TG} (h:PG X e t) (q:∀ v σ H Q,t' v σ H Q->t v σ H Q):PG X e t':=fun pins s σ H v u Q I r z=>h pins s σ H v u Q I r (q v σ H Q z)
theorem PGs.imp {es:List Expr} {t t':VD} (h:PGs X es t) (q:∀ v σ H Q,t' v σ H Q->t v σ H Q):PGs X es t':=fun pins s σ H v u Q I r z=>h pins s σ H v u Q I r (q v σ H Q z)
theorem J0 (i:Nat) {x:Str} (hN:X.N.Nodup) (hi:X.N[i]?=some x:=by rfl) (hx:VC X.env.scope x:=by first | exact Or.inl rfl | exact Or.inr rfl) (hf:X.fn x=true\/X.env.scope.names.lookup x=some .local:=by first | exact .inl rfl | exact .inr rfl) (hq:Qe i∉O:=by decide):PG X (.Name x pos) (tG X O (dl i O) (gS i)) :=
 PG.imp (Ij hN hi hx hf) <| by
  rintro v σ H Q ⟨F0,F,en,d,e',rs,r,z,k⟩
  obtain rfl:=Option.some.inj z
  exact k _ H F (.refl rs.fh) (rs.put' i r hq)
theorem Rn:PGs X [] (tGs X O O []):=PGs.imp Ar <| by
 rintro vs σ H Q ⟨F0,F,en,ds,e',rs,r,z,k⟩
 cases r with
 | nil=>obtain rfl:=Option.some.inj z;exact ⟨rfl,k σ H F (.refl rs.fh) rs⟩
 | cons h r=>simp [YB] at z
theorem Wq {es:List Expr} {g:Qw} {gs:List Qw} (h1:PG X e (tG X O O1 g)) (h2:PGs X es (tGs X O1 O' gs)) (hs:(assignEach (e::es) X.env).map (·.2)=assign e X.env::(assignEach es X.env).map (·.2):=by rfl):PGs X (e::es) (tGs X O O' (g::gs)) :=
 PGs.imp (Aq h1 h2 hs) <| by
  rintro vs σ H Q ⟨F0,F,en,ds,e',rs,r,z,k⟩
  cases r with
  | nil=>simp [YB] at z
  | @cons x d xs ds h r =>
   have z':((g d en).bind fun e'=>YB gs ds e')=some e':=z
   obtain ⟨e1,q1,q2⟩:=QR z'
   refine ⟨x,xs,rfl,F0,F,en,d,e1,rs,h,q1,fun σ' H' F' s rs'=>?_⟩
   exact ⟨F0,F',e1,ds,e',rs',r.mono s.ff,q2,fun σ2 H2 F2 s2 rs2=>k σ2 H2 F2 (s.trans s2) rs2⟩
theorem Rm {es:List Expr} {k0:Nat} {gs:List Qw} (hc:X.calm=true) (h:PGs X es (tGs X O O' gs)) (hl:gs.length=es.length) (hn:(assignEach es X.env).length=es.length:=by rfl) (hst:(assignEach es X.env).findIdx? (·.1)=none:=by rfl):PG X (.Tuple es k0 pos) (tG X O O' (Jt gs)) :=
 PG.imp (Ap hc h hn hst) <| by
  rintro v σ H Q ⟨F0,F,en,d,e',rs,r,z,k⟩
  cases r with
  | @tup a xs ds h r =>
   have z':YB gs ds en=some e':=z
   have len:∀ (gs:List Qw) (ds:List D) (en e':Q2),YB gs ds en=some e'->ds.length=gs.length:=by
    intro gs
    induction gs with
    | nil=>intro ds en e' h;cases ds with
     | nil=>rfl
     | cons _ _=>simp [YB] at h
    | cons g gs ih=>intro ds en e' h;cases ds with
     | nil=>simp [YB] at h
     | cons d ds =>
      have h':((g d en).bind fun e'=>YB gs ds e')=some e':=h
      obtain ⟨e1,_,q2⟩:=QR h'
      rw [List.length_cons,List.length_cons,ih ds e1 e' q2]
   exact ⟨a,xs,rfl,SqT.of (rs.fh _ _ h),by rw [r.length,len gs ds en e' z',hl],F0,F,en,ds,e',rs,r,z',k⟩
  | _=>cases z
theorem Qb (i:Nat) {x:Str} {p:Pos} {ev:Q4} (hN:X.N.Nodup) (he:PE X e (tD X O ev)) (hi:X.N[i]?=some x:=by rfl) (hx:VC X.env.scope x:=by first | exact Or.inl rfl | exact Or.inr rfl) (hs:swapsWith e (some (.Name x p)) pos.line X.env=pure false:=by rfl)
  (hf:X.fn x=true\/X.env.scope.names.lookup x=some .local:=by first | exact .inl rfl | exact .inr rfl) (hq:Qe i∉O:=by decide):PS X (.Assign [.Name x p] e pos) (tS X O (dl i O) OL w (QE ev (gS i))) :=
 PS.imp (VY hN hi hx he hs hf) <| by
  rintro Dn σ H ⟨F0,F,en,fl,rs,z,k⟩
  obtain ⟨d,e1,e2⟩:=QR z
  obtain ⟨e',e3,rfl⟩:=JQ e2
  obtain rfl:=Option.some.inj e3
  exact ⟨F0,F,en,d,rs,e1,fun v F1 H1 g1 r1=>k _ F1 H1 g1.ff ((rs.grow g1).put' i r1 hq)⟩
theorem ZJ (i:Nat) {x:Str} {p:Pos} {ev:Q4} (hN:X.N.Nodup) (he:PE X e (tO X O ev)) (hi:X.N[i]?=some x:=by rfl) (hx:VC X.env.scope x:=by first | exact Or.inl rfl | exact Or.inr rfl) (hs:swapsWith e (some (.Name x p)) pos.line X.env=pure false:=by rfl)
  (hf:X.fn x=true\/X.env.scope.names.lookup x=some .local:=by first | exact .inl rfl | exact .inr rfl) (hq:Qe i∉O:=by decide) (hil:i<1000:=by decide):PS X (.Assign [.Name x p] e pos) (tS X O (ad i O) OL w (QE ev (gS i))) :=
 PS.imp (VY hN hi hx he hs hf) <| by
  rintro Dn σ H ⟨F0,F,en,fl,rs,z,k⟩
  obtain ⟨d,e1,e2⟩:=QR z
  obtain ⟨e',e3,rfl⟩:=JQ e2
  obtain rfl:=Option.some.inj e3
  refine ⟨F0,F,en,d,rs,e1,fun p kk xs ds F1 H1 g1 n1 n2 h r e4 hk=>?_⟩
  subst e4
  refine k _ F1 H1 g1.ff ((rs.grow g1).putO' i (rs.hh.none n1) n2 h hk r (fun j d' hj q2 _ q=>?_) hq (fun j z=>by unfold Qe at z;omega))
  obtain ⟨p',_,ys,es,h1,_,_,h4,_⟩:=rs.own j d' q2 hj
  rw [h1] at q
  cases q
  rw [n1] at h4
  simp at h4
end
end Wd
namespace Wd
open PySem PySem.Spec PyProof.Rows L2
section
variable {X:Cx} {O O1 O2 O' OL:List Nat} {w:Bool} {st:Stmt} {rest:List Stmt} {e a:Expr} {pos:Pos}
theorem Jc (i:Nat) (hi:i∈O) {x:Str} {p apos cpos:Pos} {ev:Q4} (he:PE X e (tD X O ev)) (hN:X.N[i]?=some x:=by rfl) (hv:ZZ X.env.scope x:=by first | exact Or.inl rfl | exact Or.inr (Or.inl rfl) | exact Or.inr (Or.inr rfl)) (hd:(x==("__debug__":Str))=false:=by decide) (hcd:(x==("__classdict__":Str))=false:=by decide)
  (hbase:attributeBase (.Name x p) "append" X.env (eval (.Name x p) X.env)=eval (.Name x p) X.env:=by rfl) (hline:(apos.endLine==cpos.line)=true:=by rfl) (hs:starEach [e] X.env=[(false,eval e X.env)]:=by rfl)
  (hfew:((backTo cpos (starEach [e] X.env)).all (fun x=>!x.1)&&(backToKw cpos (keywordEach [] X.env)).all (fun x=>x.1.isSome)&&decide ([e].length+([]:List Keyword).length+(if ([]:List Keyword).isEmpty then 0 else 1)<30))=true:=by rfl)
  (hsw:swapsWith (.Call (.Attribute (.Name x p) "append" apos) [e] [] cpos) none pos.line X.env=pure false:=by rfl) :
  PS X (.Expr (.Call (.Attribute (.Name x p) "append" apos) [e] [] cpos) pos) (tS X O O OL w (sP i ev)) :=
 PS.imp (Y0 (ZN PySem.F.plainAttrs_list PySem.F.slot_list_append PySem.F.type_list_append Zy (Qp hN hv hd hcd) (Qh he Qt hs) hbase hfew hline hs rfl) hsw) <| by
  rintro Dn σ H ⟨F0,F,en,fl,rs,z,k⟩
  obtain ⟨dx,dy,e1,e2,e3⟩:=Yk z
  obtain ⟨dz,e4,rfl⟩:=JQ e3
  obtain ⟨q,kk,xs,ds,h1,h2,h3,h4,h5,h6,h7⟩:=rs.own i dx (Z2 e1) hi
  subst h6
  cases kk with
  | some ks=>cases e4
  | none =>
  simp only [ho,ZG] at h4 e4 e1
  refine ⟨_,h1,.inl ⟨rfl,xs,SqL.of h4⟩,F0,F,en,dy,rs,e2,fun y F1 H1 g1 r1=>?_⟩
  simp only [D.app] at e4
  split at e4
  ·rename_i hz
   obtain rfl:=(Option.some.inj e4).symm
   have rs1:=rs.grow g1
   obtain ⟨q',kk',xs',ds',k1,k2,k3,k4,k5,k6,k7⟩:=rs1.own i _ (Z2 e1) hi
   rw [h1] at k1
   cases k1
   cases kk' with
   | some ks=>cases k6
   | none =>
   cases k6
   simp only [ho] at k4
   have hx:xs'=xs:=by
    have:=g1.hh _ _ h4
    rw [k4] at this
    cases this;rfl
   subst hx
   refine ⟨q,xs',y,rfl,rfl,k4,?_,?_⟩
   ·rw [ZC,k5.length];exact hz
   ·exact k _ F1 _ g1.ff (rs1.write (kk:=none) hi (Z2 e1) h1 k2 k3 trivial (k5.append (.cons r1 .nil)))
  ·simp at e4
theorem TH (i:Nat) (hi:i∈O) {x:Str} {p apos cpos:Pos} {ev:Q4} (he:PE X e (tR X O ev)) (hN:X.N[i]?=some x:=by rfl) (hv:ZZ X.env.scope x:=by first | exact Or.inl rfl | exact Or.inr (Or.inl rfl) | exact Or.inr (Or.inr rfl)) (hd:(x==("__debug__":Str))=false:=by decide) (hcd:(x==("__classdict__":Str))=false:=by decide)
  (hbase:attributeBase (.Name x p) "extend" X.env (eval (.Name x p) X.env)=eval (.Name x p) X.env:=by rfl) (hline:(apos.endLine==cpos.line)=true:=by rfl) (hs:starEach [e] X.env=[(false,eval e X.env)]:=by rfl)
  (hfew:((backTo cpos (starEach [e] X.env)).all (fun x=>!x.1)&&(backToKw cpos (keywordEach [] X.env)).all (fun x=>x.1.isSome)&&decide ([e].length+([]:List Keyword).length+(if ([]:List Keyword).isEmpty then 0 else 1)<30))=true:=by rfl)
  (hsw:swapsWith (.Call (.Attribute (.Name x p) "extend" apos) [e] [] cpos) none pos.line X.env=pure false:=by rfl) :
  PS X (.Expr (.Call (.Attribute (.Name x p) "extend" apos) [e] [] cpos) pos) (tS X O O OL w (YI i ev)) :=
 PS.imp (Y0 (ZN PySem.F.plainAttrs_list PySem.F.slot_list_extend PySem.F.type_list_extend Ci (Qp hN hv hd hcd) (VU he hs) hbase hfew hline hs rfl) hsw) <| by
  rintro Dn σ H ⟨F0,F,en,fl,rs,z,k⟩
  obtain ⟨dx,dy,e1,e2,e3⟩:=Yk z
  obtain ⟨dz,e4,rfl⟩:=JQ e3
  obtain ⟨q,kk,xs,ds,h1,h2,h3,h4,h5,h6,h7⟩:=rs.own i dx (Z2 e1) hi
  subst h6
  cases kk with
  | some ks=>cases e4
  | none =>
  simp only [ho,ZG] at h4 e4 e1
  refine ⟨_,h1,.inl ⟨rfl,xs,SqL.of h4⟩,F0,F,en,dy,rs,e2,fun y F1 H1 g1 r1=>?_⟩
  cases dy with
  | lst es =>
   simp only [D.ext] at e4
   split at e4
   ·rename_i hz
    obtain rfl:=(Option.some.inj e4).symm
    obtain ⟨q2,ys,rfl,m1,m2⟩:=r1.lst g1.fh
    have rs1:=rs.grow g1
    obtain ⟨q',kk',xs',ds',k1,k2,k3,k4,k5,k6,k7⟩:=rs1.own i _ (Z2 e1) hi
    rw [h1] at k1
    cases k1
    cases kk' with
    | some ks=>cases k6
    | none =>
    cases k6
    simp only [ho] at k4
    have hx:xs'=xs:=by
     have:=g1.hh _ _ h4
     rw [k4] at this
     cases this;rfl
    subst hx
    refine ⟨q,q2,xs',ys,rfl,rfl,k4,m1,?_,?_⟩
    ·rw [ZC,k5.length,m2.length];exact hz
    ·exact k _ F1 _ g1.ff (rs1.write (kk:=none) hi (Z2 e1) h1 k2 k3 trivial (k5.append m2))
   ·simp at e4
  | _=>cases e4
end
inductive spD (K:Fg) (f:List D->Option D) (vs:List V) (H:Hp) (Q:VK) (ux0:XK):Prop
 | mk (F:Hp) (ds:List D) (d:D) (h1:Sm F H) (h2:Reps K F vs ds) (h3:f ds=some d) (h4:∀ v F' H',Gr F H F' H'->Rep K F' v d->Q v H'):spD K f vs H Q ux0
inductive spO (K:Fg) (f:List D->Option D) (vs:List V) (H:Hp) (Q:VK) (ux0:XK):Prop
 | mk (F:Hp) (ds:List D) (d:D) (h1:Sm F H) (h2:Reps K F vs ds) (h3:f ds=some d) (h4:∀ p k xs es F' H',Gr F H F' H'->H p=none->F' p=none->H' p=some (ho k xs)->Reps K F' xs es->d=ZG k es->Zo k xs->Q (.ref p) H'):spO K f vs H Q ux0
def QM (P:Program) (w:World) (K:Fg) (mg:Str->Option Value) (base:Heap) (k:Nat) (x:Str) (ps:List Str) (sp:Sp):Prop :=
 ∃ f fd,FnOk P w K mg base Qk k f fd ps sp/\Binds K fd ps []/\PySem.W.keepIn K (.ref f)=true/\mg x=some (.ref f)
def Df (K:Fg) (mg:Str->Option Value) (x:Str) (st:Stmt) (ps:List Str):Prop:=∃ f fd,Fun K x x st f fd/\Binds K fd ps []/\mg x=some (.ref f)
section
variable {X:Cx} {O:List Nat} {e:Expr} {es:List Expr} {p pos:Pos} {x:Str} {ps:List Str} {k:Nat}
theorem Lk {f:List D->Option D} {l:JT} (c:QM X.prog X.w X.K X.mg X.base k x ps (spD X.K f)) (hr:Room k X.A) (hg:Gl X x) (ha:PA X (e::es) (tL X O l)) (hdb:(x==("__debug__":Str))=false:=by decide) (he:starEach (e::es) X.env=(false,eval e X.env)::starEach es X.env:=by rfl)
  (hpl:(backTo pos (starEach es X.env)).any (·.1)=false:=by rfl):PE X (.Call (.Name x p) (e::es) [] pos) (tD X O (eK f l)):=by
 obtain ⟨fa,fd,F,hb,hk,hm⟩:=c
 refine PE.imp (Ie F hr hg hm hk hb (.nil:Vals [] []) Ia ha hdb he hpl) ?_
 rintro σ H Q ⟨F0,F,en,d,rs,z,k⟩
 obtain ⟨ds,e1,e2⟩:=QR z
 refine ⟨F0,F,en,ds,rs,e1,fun vs F1 H1 g1 r1=>⟨F1,ds,d,g1.fh,?_,e2,fun v F' H' g r=>k v F' H' (g1.trans g) r⟩⟩
 rw [List.append_nil];exact r1
theorem Zs {ev:Q4} (h:PE X e (tO X O ev)):PE X e (tD X O ev):=by
 rintro pins s σ H Q I ⟨F0,F,en,d,rs,z,k⟩
 refine QL (h pins s σ H (fun x H'=>∃ p kk xs ds F',x=.ref p/\Gr F H F' H'/\H p=none/\F' p=none/\H' p=some (ho kk xs)/\Reps X.K F' xs ds/\d=ZG kk ds/\Zo kk xs) I ⟨F0,F,en,d,rs,z,fun p kk xs ds F' H' g n1 n2 hp r e3 hk=>⟨p,kk,xs,ds,F',rfl,g,n1,n2,hp,r,e3,hk⟩⟩)
  ?_
 rintro v s1 ⟨x,H1,I1,r1,p,kk,xs,ds,F',hx,g,n1,n2,hp,r,e3,hk⟩
 subst hx e3
 have s2:Sm F' (upd F' p (hz ((s1.heap.get? p).getD default) kk xs)):=(Sm.refl F').upd _ n2
 refine ⟨.ref p,_,KH I1 hp,r1,k _ (upd F' p (hz ((s1.heap.get? p).getD default) kk xs)) _ ⟨g.ff.trans s2,fun a o q=>?_,fun a o q=>?_,fun a o q=>?_⟩ (Rep.hz QQ hk (r.mono s2))⟩
 ·rw [QB (fun w:a=p=>by rw [w,n1] at q;simp at q)];exact g.hh a o q
 ·by_cases w:a=p
  ·subst w;rw [QQ] at q ⊢;exact q
  ·rw [QB w] at q ⊢;exact g.fh a o q
 ·by_cases w:a=p
  ·subst w;exact .inr n1
  ·rw [QB w] at q;exact g.fr a o q
end
section
variable {P:Program} {w:World} {K:Fg} {mg:Str->Option Value} {base:Heap} {x:Str} {st:Stmt} {N ps:List Str} {k:Nat} {b:Q8}
theorem UW {F H:Hp} {vs:List V} {ds:List D} (n:Nat) (s:Sm F H) (r:Reps K F vs ds):RS K H ⟨F,H,np⟩ F H (vs.map some++List.replicate (n-vs.length) none) (Ja n ds) [] where
 fh:=s
 hh:=.refl H
 ff:=.refl F
 fr:=fun _ _ h=>.inl h
 slot:=fun i d h _=>by
  unfold Ja at h
  rcases Nat.lt_or_ge i ds.length with hi | hi
  ·rw [List.getElem?_append_left (by rw [List.length_map];exact hi),List.getElem?_map,List.getElem?_eq_getElem hi] at h
   have hd:ds[i]?=some d:=by rw [List.getElem?_eq_getElem hi];simpa using h
   obtain ⟨v,h1,h2⟩:=r.get hd
   refine ⟨v,?_,h2⟩
   rw [List.getElem?_append_left (by rw [List.length_map,r.length];exact hi),List.getElem?_map,h1];rfl
  ·rw [List.getElem?_append_right (by rw [List.length_map];exact hi),List.getElem?_replicate] at h
   split at h<;>simp at h
 own:=fun i d _ h=>by simp at h
 dis:=fun i j p _ _ h=>by simp at h
 pin:=fun i h=>by simp at h
 len:=by unfold Ja;simp [r.length]
theorem IH (h:Df K mg x st ps) (S:FnScope N ps (Q7 st)) {O' OL:List Nat}
  (hb:∀ (f:Addr) (cdv:Value) (A:Around) (outer:List Env) (s:Shared) (H:Hp) (E:XK),Room k (A.deeper (envOfC x (Q7 st) s.heap.objs.size f cdv))->PSs (Qn Qk P w K mg base N x (Q7 st) f cdv A outer s H E).nox (J9 st) (tS (Qn Qk P w K mg base N x (Q7 st) f cdv A outer s H E).nox [] O' OL false b)) :
  QM P w K mg base (k+1) x ps (spD K (QT N.length ps.length b)):=by
 obtain ⟨f,fd,F,hbd,hm⟩:=h
 refine ⟨f,fd,F.ok S (fun vs H Q E ⟨F,ds,d,s,r,e,_⟩=>?_) (fun cdv A outer s H vs Q E hr ⟨Fz,ds,d,sm,r,e,k⟩=>?_),hbd,F.kp,hm⟩
 ·unfold QT at e
  split at e
  ·rename_i z;rw [r.length];exact z
  ·simp at e
 ·refine ⟨_,hb f cdv A outer s H E hr,?_⟩
  unfold QT at e
  split at e
  ·rename_i z
   have e':TK (b (Ja N.length ds))=some d:=e
   cases q:b (Ja N.length ds) with
   | none=>rw [q] at e';cases e'
   | some fl =>
    rw [q] at e'
    have hst:start N vs=vs.map some++List.replicate (N.length-vs.length) none:=rfl
    rw [hst]
    refine ⟨⟨Fz,H,np⟩,Fz,Ja N.length ds,fl,UW N.length sm r,q,?_⟩
    cases fl with
    | nx en=>obtain rfl:=(Option.some.inj e').symm;exact fun σ' F' H' s' rs=>k .non F' H' rs.ex.gr .non
    | rt d'=>obtain rfl:=(Option.some.inj e').symm;exact fun v F' H' x r=>k v F' H' x.gr r
    | rz c d'=>cases e'
    | rm d' z'=>cases e'
    | bk en=>cases e'
    | ct en=>cases e'
  ·simp at e
theorem B3 (h:Df K mg x st ps) (S:FnScope N ps (Q7 st)) {O' OL:List Nat}
  (hb:∀ (f:Addr) (cdv:Value) (A:Around) (outer:List Env) (s:Shared) (H:Hp) (E:XK),Room k (A.deeper (envOfC x (Q7 st) s.heap.objs.size f cdv))->PSs (Qn Qk P w K mg base N x (Q7 st) f cdv A outer s H E).nox (J9 st) (tS (Qn Qk P w K mg base N x (Q7 st) f cdv A outer s H E).nox [] O' OL true b))
  (hno:∀ ds en,b (Ja N.length ds)≠some (.nx en)):QM P w K mg base (k+1) x ps (spO K (QT N.length ps.length b)):=by
 obtain ⟨f,fd,F,hbd,hm⟩:=h
 refine ⟨f,fd,F.ok S (fun vs H Q E ⟨F,ds,d,s,r,e,_⟩=>?_) (fun cdv A outer s H vs Q E hr ⟨Fz,ds,d,sm,r,e,k⟩=>?_),hbd,F.kp,hm⟩
 ·unfold QT at e
  split at e
  ·rename_i z;rw [r.length];exact z
  ·simp at e
 ·refine ⟨_,hb f cdv A outer s H E hr,?_⟩
  unfold QT at e
  split at e
  ·rename_i z
   have e':TK (b (Ja N.length ds))=some d:=e
   cases q:b (Ja N.length ds) with
   | none=>rw [q] at e';cases e'
   | some fl =>
    rw [q] at e'
    have hst:start N vs=vs.map some++List.replicate (N.length-vs.length) none:=rfl
    rw [hst]
    refine ⟨⟨Fz,H,np⟩,Fz,Ja N.length ds,fl,UW N.length sm r,q,?_⟩
    cases fl with
    | nx en=>exact absurd q (hno ds en)
    | rt d' =>
     obtain rfl:=(Option.some.inj e').symm
     intro v F' H' x r
     obtain ⟨p,kk,xs,es,rfl,h1,h2,h3,h4,h5,h6⟩:=(show RM K H F' H' true v d from r)
     exact k p kk xs es F' H' x.gr h1 h2 h3 h4 h5 h6
    | rz c d'=>cases e'
    | rm d' z'=>cases e'
    | bk en=>cases e'
    | ct en=>cases e'
  ·simp at e
end
structure ItOk (K:Fg) (F:Hp) (J:It) (ds:List D):Prop where
 go:∀ i F' H',Sm F F'->Sm F' H'->i<ds.length->J.go i H'
 yld:∀ i F' H' x H2,Sm F F'->Sm F' H'->i<ds.length->J.yld i H' x H2->∃ F2 d,Gr F' H' F2 H2/\ds[i]?=some d/\Rep K F2 x d
 stop:∀ i F' H',Sm F F'->Sm F' H'->ds.length<=i->J.stop i H'
inductive tI (X:Cx) (O:List Nat) (it:Jo) (σ:L2.St) (H:Hp) (R:L2.It->Hp->Prop):Prop
 | mk (F0:Fz) (F:Hp) (e:Q2) (ds:List D) (h1:RS X.K X.H₀ F0 F H σ e O) (h2:it e=some ds) (h3:∀ F' H' J,Gr F H F' H'->ItOk X.K F' J ds->R J H'):tI X O it σ H R
section
variable {X:Cx} {O OL:List Nat} {w:Bool} {tg iter:Expr} {body:List Stmt} {pos:Pos}
theorem PI.imp {t t':TI} (h:PI X tg iter t) (q:∀ σ H R,t' σ H R->t σ H R):PI X tg iter t':=fun pins s σ H R I z=>h pins s σ H R I (q σ H R z)
theorem Qcc {o:Option Fl} {k:Q8} {fl:Fl} (h:Z6 o k=some fl):∃ f,o=some f/\Z6 (some f) k=some fl:=by
 cases o with
 | none=>cases h
 | some f=>exact ⟨f,rfl,h⟩
theorem Js {it:Jo} {g:Qw} {b:Q8} (hc:X.calm=true) (hp:PassesOwn (model X.prog X.w) X.A X.env X.xe) (hi:PI X tg iter (tI X O it)) (hg:PG X tg (tG X O O g)) (hb:PSs X body (tS X O O O w b)) (hs:∀ x,foldedSetIterable iter X.env x=pure x:=by intro _;rfl) :
  PS X (.For tg iter body [] pos) (tS X O O OL w (Qq it g b)) :=
 PS.imp (Pw hp hc hi hg hb hs) <| by
  rintro Dn σ H ⟨F0,F,en,fl,rs,z,k⟩
  obtain ⟨ds,e1,e2⟩:=QR z
  refine ⟨F0,F,en,ds,rs,e1,fun F1 H1 J g1 io=>?_⟩
  refine ⟨fun i m σ' H'=>m=ds.length-i/\i<=ds.length/\∃ F' en',Sm F1 F'/\RS X.K X.H₀ F0 F' H' σ' en' O/\ZM g b (ds.drop i) en'=some fl,⟨ds.length,by omega,by omega,F1,en,.refl F1,rs.grow g1,by rw [List.drop_zero];exact e2⟩,?_⟩
  rintro i m σ' H' ⟨rfl,hle,F',en',s',rs',e3⟩
  rcases Nat.lt_or_ge i ds.length with hi | hi
  ·refine .inr ⟨io.go i F' H' s' rs'.fh hi,fun σ2 H2=>∃ m',m'<ds.length-i/\m'=ds.length-(i+1)/\i+1<=ds.length/\∃ F' en',Sm F1 F'/\RS X.K X.H₀ F0 F' H2 σ2 en' O/\ZM g b (ds.drop (i+1)) en'=some fl,
    fun σ2 H2 ⟨m',h1,h2⟩=>⟨m',h1,h2⟩,fun x H2 hy=>?_⟩
   obtain ⟨F2,d,g2,hd,r2⟩:=io.yld i F' H' x H2 s' rs'.fh hi hy
   have hdr:ds.drop i=d::ds.drop (i+1):=by
    rw [List.drop_eq_getElem_cons hi]
    rw [List.getElem?_eq_getElem hi] at hd
    obtain rfl:=(Option.some.inj hd).symm;rfl
   rw [hdr] at e3
   obtain ⟨f,e4,e5⟩:=Qcc (show Z6 ((g d en').bind b) (ZM g b (ds.drop (i+1)))=some fl from e3)
   obtain ⟨en2,e6,e7⟩:=QR (show ((g d en').bind fun x=>b x)=some f from e4)
   refine ⟨F0,F2,en',d,en2,rs'.grow g2,r2,e6,fun σ3 H3 F3 s3 rs3=>?_⟩
   refine ⟨F0,F3,en2,f,rs3,e7,?_⟩
   have sA:Sm F1 F3:=(s'.trans g2.ff).trans s3.ff
   cases f with
   | nx e=>exact fun σ4 F4 H4 s4 rs4=>⟨_,by omega,rfl,hi,F4,e,sA.trans s4,rs4,e5⟩
   | ct e=>exact fun σ4 F4 H4 s4 rs4=>⟨_,by omega,rfl,hi,F4,e,sA.trans s4,rs4,e5⟩
   | bk e=>obtain rfl:=(Option.some.inj e5).symm;exact fun σ4 F4 H4 s4 rs4=>k σ4 F4 H4 (g1.ff.trans (sA.trans s4)) rs4
   | rt d=>obtain rfl:=(Option.some.inj e5).symm;exact k
   | rz c d=>obtain rfl:=(Option.some.inj e5).symm;exact k
   | rm d z=>obtain rfl:=(Option.some.inj e5).symm;exact k
  ·have hz:ds.drop i=[]:=List.drop_eq_nil_of_le hi
   rw [hz] at e3
   obtain rfl:=(Option.some.inj e3).symm
   exact .inl ⟨io.stop i F' H' s' rs'.fh hi,k σ' F' H' (g1.ff.trans s') rs'⟩
theorem O6 (lo:Int) (n:Nat):(rD lo n).length=n:=by unfold rD;simp
theorem ZI {ev:Q4} (h:PE X iter (tD X O ev)):PI X tg iter (tI X O (JP ev)):=PI.imp (Ik h) <| by
 rintro σ H R ⟨F0,F,en,ds,rs,z,k⟩
 obtain ⟨d,e1,e2⟩:=QR z
 refine ⟨F0,F,en,d,rs,e1,fun v F1 H1 g1 r1=>?_⟩
 have fin:∀ (a:Addr) (xs:List V),SqL X.K F1 a xs->Reps X.K F1 xs ds->R (R8 X.K a) H1:=fun a xs ha r=>k F1 H1 _ g1
  ⟨fun i F' H' s s' hi=>by
   obtain ⟨v,h1,_⟩:=r.get (List.getElem?_eq_getElem hi)
   exact ⟨xs,v,s'.sqL (s.sqL ha),h1⟩,
  fun i F' H' x H2 s s' hi ⟨hH,hx⟩=>by
   subst hH
   have hx':=hx xs (s'.sqL (s.sqL ha))
   obtain ⟨d,h1,h2⟩:=r.getV hx'
   exact ⟨F',d,.refl s',h1,h2.mono s⟩,
  fun i F' H' s s' hi=>⟨xs,s'.sqL (s.sqL ha),by rw [r.length];exact hi⟩⟩
 cases r1 with
 | @lst a xs ds' ha r=>obtain rfl:=(Option.some.inj e2).symm;exact ⟨a,rfl,⟨xs,SqL.of (g1.fh _ _ ha)⟩,fin a xs (SqL.of ha) r⟩
 | @scr a ns ha=>obtain rfl:=(Option.some.inj e2).symm;exact ⟨a,rfl,⟨_,g1.fh.sqL ha⟩,fin a _ ha (Reps.ints ns)⟩
 | _=>cases e2
theorem YT {a:Expr} {p:Pos} {ev:Q4} (hg:Gl X "range") (hm:X.mg "range"=none) (ha:PE X a (tR X O ev)) (hs:starEach [a] X.env=[(false,eval a X.env)]:=by rfl):PI X tg (.Call (.Name "range" p) [a] [] pos) (tI X O (JI ev)) :=
 PI.imp (Au hg hm (VU ha hs) hs) <| by
  rintro σ H R ⟨F0,F,en,ds,rs,z,k⟩
  obtain ⟨d,e1,e2⟩:=QR z
  cases d with
  | int n =>
   simp only [D.rng] at e2
   split at e2
   ·rename_i hz
    obtain rfl:=(Option.some.inj e2).symm
    refine ⟨F0,F,en,.int n,rs,e1,fun v F1 H1 g1 r1=>⟨n,by rw [r1.int],by omega,by omega,k F1 H1 _ g1 ⟨fun i F' H' s s' hi=>?_,fun i F' H' x H2 s s' hi ⟨hH,hx⟩=>?_,fun i F' H' s s' hi=>?_⟩⟩⟩
    ·rw [O6] at hi;exact hi
    ·subst hH hx
     have hi':i<n.toNat:=by rw [O6] at hi;exact hi
     exact ⟨F',.int (0+(i:Int)),.refl s',by simp [rD,hi'],.int _⟩
    ·rw [O6] at hi;exact hi
   ·simp at e2
  | _=>cases e2
end
end Wd
namespace Wd
open PySem PySem.Spec PyProof.Rows L2
section
variable {P:Program} {w:World} {K:Fg} {mg:Str->Option Value} {base:Heap} {x:Str} {st:Stmt} {N ps:List Str} {k:Nat} {b:Q8}
theorem B5 {f:Addr} {fd:FuncData} (F:Fun K x x st f fd) (S:FnScope N ps (Q7 st)) {O' OL:List Nat}
  (hb:∀ (cdv:Value) (A:Around) (outer:List Env) (s:Shared) (H:Hp) (E:XK),Room k (A.deeper (envOfC x (Q7 st) s.heap.objs.size f cdv))->PSs (Qn Qk P w K mg base N x (Q7 st) f cdv A outer s H E).nox (J9 st) (tS (Qn Qk P w K mg base N x (Q7 st) f cdv A outer s H E).nox [] O' OL false b)) :
  FnOk P w K mg base Qk (k+1) f fd ps (spD K (QT N.length ps.length b)):=by
 refine F.ok S (fun vs H Q E ⟨F,ds,d,s,r,e,_⟩=>?_) (fun cdv A outer s H vs Q E hr ⟨Fz,ds,d,sm,r,e,k⟩=>?_)
 ·unfold QT at e
  split at e
  ·rename_i z;rw [r.length];exact z
  ·simp at e
 ·refine ⟨_,hb cdv A outer s H E hr,?_⟩
  unfold QT at e
  split at e
  ·rename_i z
   have e':TK (b (Ja N.length ds))=some d:=e
   cases q:b (Ja N.length ds) with
   | none=>rw [q] at e';cases e'
   | some fl =>
    rw [q] at e'
    have hst:start N vs=vs.map some++List.replicate (N.length-vs.length) none:=rfl
    rw [hst]
    refine ⟨⟨Fz,H,np⟩,Fz,Ja N.length ds,fl,UW N.length sm r,q,?_⟩
    cases fl with
    | nx en=>obtain rfl:=Option.some.inj e';exact fun σ' F' H' s' rs=>k .non F' H' rs.ex.gr .non
    | rt d'=>obtain rfl:=Option.some.inj e';exact fun v F' H' x r=>k v F' H' x.gr r
    | rz c d'=>cases e'
    | rm d' z'=>cases e'
    | bk en=>cases e'
    | ct en=>cases e'
  ·simp at e
section
variable {h:Heap} {f:Addr} {oc kV dc pm cd ct:Value} {od an:Option Addr} {osl:Array (Option Value)}
theorem df_mk (X:K.In h) (G:h.Ns mainGlobals mg) (hb:∀ (kV doc pm:Value) (an:Option Addr) (cdv ct:Value) (us:List Value),us.length=ps.length->bindArgs (PySem.W.fnOf x x (ZH st) (J9 st) (Q7 st) .none kV doc pm an cdv ct) ⟨us,[]⟩=pure (ps.zip us))
  (a:PySem.W.nsIn K mainGlobals x=some (some (.ref f))) (l:K.lookup f=some ⟨oc,od,.func (PySem.W.fnOf x x (ZH st) (J9 st) (Q7 st) .none kV dc pm an cd ct),osl⟩) (c:PySem.W.codeIn K cd x=true) (k:PySem.W.keepIn K (.ref f)=true):Df K mg x st ps :=
 ⟨f,_,PQ l c k,(PQ l c k).binds hb,PySem.W.mg_of X G a⟩
theorem law_mk {fa:Addr} {y:Str} (X:K.In h) (G:h.Ns mainGlobals mg) (hfa:mg x=some (.ref fa)) (hb:∀ (kV doc pm:Value) (an:Option Addr) (cdv ct:Value) (u:Value),bindArgs (PySem.W.fnOf x x (ZH st) (J9 st) (Q7 st) .none kV doc pm an cdv ct) ⟨[u],[]⟩=pure [(y,u)])
  (a:PySem.W.nsIn K mainGlobals x=some (some (.ref f))) (l:K.lookup f=some ⟨oc,od,.func (PySem.W.fnOf x x (ZH st) (J9 st) (Q7 st) .none kV dc pm an cd ct),osl⟩) (c:PySem.W.codeIn K cd x=true) (k:PySem.W.keepIn K (.ref f)=true) :
  ∃ fd,(∀ (s:Shared) (u:Value),BindsTo s fd ⟨[u],[]⟩ [(y,u)])/\Fun K x x st fa fd:=by
 have e:=hfa.symm.trans (PySem.W.mg_of X G a)
 cases e
 exact ⟨_,fun s u=>.of_eq (hb _ _ _ _ _ _ u),PQ l c k⟩
end
end
theorem CS (K:Fg) (f:List D->Option D) (h:∀ ns,f [.scr ns]=some (.bl true)) (H:Hp) (a:Addr) (ns:List Int) (hS:SqL K H a (ns.map V.int)):spD K f [.ref a] H (fun v _=>v=.bl true) fun _ _ _=>False :=
 ⟨H,[.scr ns],.bl true,.refl H,.cons (.scr hS) .nil,h ns,fun v F' H' g r=>by cases r;rfl⟩
theorem Kk (K:Fg):Wf K "int":=fun d hd=>by cases d<;>first | rfl | exact absurd rfl (hd.1 _) | exact absurd rfl (hd.2 _ _)
theorem Kj (K:Fg):Wf K "bool":=fun d hd=>by cases d<;>first | rfl | exact absurd rfl (hd.1 _) | exact absurd rfl (hd.2 _ _)
theorem CM (K:Fg):Wf K "tuple":=fun d hd=>by cases d<;>first | rfl | exact absurd rfl (hd.1 _) | exact absurd rfl (hd.2 _ _)
theorem Kl (K:Fg):Wf K "list":=fun d hd=>by cases d<;>first | rfl | exact absurd rfl (hd.1 _) | exact absurd rfl (hd.2 _ _)
theorem Km (K:Fg):Wf K "str":=fun d hd=>by cases d<;>first | rfl | exact absurd rfl (hd.1 _) | exact absurd rfl (hd.2 _ _)
end Wd
namespace Wd
open PySem PySem.Spec PyProof.Rows L2
section
variable {X:Cx} {pins:List (Addr×Obj)} {σ:L2.St} {H:Hp} {s:Shared} {h':Heap}
theorem Qb8 {t':Nat} {ch:List Addr} {p:Addr} {o:HO} (I:Inv X pins σ H s) (k:∀ b u,b∉ch->s.heap.get? b=some u->h'.get? b=some u) (hf:∀ b∈ch,ZP X pins H b) (hp:s.heap.objs.size<=p) (new:ObjOk X.prog X.w (upd H p o) h' p o) :
  Inv X pins σ (upd H p o) { s with heap:=h',toks:=t' }:=by
 have hn:H p=none:=I.hok.fresh hp
 have nit:∀ b u,H b=some u->b∉ch:=fun b u e z=>by rw [(hf b z).1] at e;simp at e
 refine I.step (g':=s.gens) (d':=s.drawn) (ch:=ch) (fun b hb=>?_) (fun b o _ _ hc e _=>k b o hc e) (fun b o _ _ hc e _=>⟨o.slots,k b o hc e⟩) (fun b o _ e n=>?_)
  (fun b o hc e=>⟨o,k b o hc e⟩) (fun b xs e=>?_) (fun b xs u e=>?_) (fun b ps e=>⟨#[],?_⟩) (fun m hm=>?_) (fun b u e=>?_) I.bare
 ·obtain ⟨f0,f1,f2,f3,f4,f5⟩:=hf b hb
  exact ⟨f3,f1,f4,f5⟩
 ·rw [QB (Nat.ne_of_lt (Nat.lt_of_lt_of_le (Heap.lt_size e) hp))];exact n
 ·rw [QB (Zi e hn)];exact e
 ·rw [QB (Zi e hn)];exact e
 ·rw [QB (Zi e hn),e];simp
 ·obtain ⟨o,es,ep,ho,r⟩:=hm
  exact ⟨o,es,ep,k _ o (fun z=>(hf _ z).2.1 rfl) ho,r⟩
 ·by_cases hb:b=p
  ·subst hb;rw [QQ] at e;obtain rfl:=Option.some.inj e;exact new
  ·rw [QB hb] at e
   refine (I.hok b u e).stay (fun c v hc q=>k c v ?_ q) (fun c q=>by rw [QB (Zi q hn)];exact q) fun c xs q=>by rw [QB (Zi q hn)];exact q
   rcases hc with z | z
   ·rw [z];exact nit b u e
   ·exact nit c _ z
theorem Qb7 {t':Nat} {ch:List Addr} (I:Inv X pins σ H s) (k:∀ b u,b∉ch->s.heap.get? b=some u->h'.get? b=some u) (hf:∀ b∈ch,ZP X pins H b):Inv X pins σ H { s with heap:=h',toks:=t' }:=by
 have nit:∀ b u,H b=some u->b∉ch:=fun b u e z=>by rw [(hf b z).1] at e;simp at e
 refine I.step (g':=s.gens) (d':=s.drawn) (ch:=ch) (fun b hb=>?_) (fun b o _ _ hc e _=>k b o hc e) (fun b o _ _ hc e _=>⟨o.slots,k b o hc e⟩) (fun _ _ _ _ n=>n)
  (fun b o hc e=>⟨o,k b o hc e⟩) (fun _ _ e=>e) (fun _ _ _ e=>e) (fun b ps e=>⟨#[],by rw [e];simp⟩) (fun m hm=>?_) (fun b u e=>?_) I.bare
 ·obtain ⟨f0,f1,f2,f3,f4,f5⟩:=hf b hb
  exact ⟨f3,f1,f4,f5⟩
 ·obtain ⟨o,es,ep,ho,r⟩:=hm
  exact ⟨o,es,ep,k _ o (fun z=>(hf _ z).2.1 rfl) ho,r⟩
 ·refine (I.hok b u e).stay (fun c v hc q=>k c v ?_ q) (fun _ q=>q) fun _ _ q=>q
  rcases hc with z | z
  ·rw [z];exact nit b u e
  ·exact nit c _ z
end
def R7 (K:Fg) (a:Addr):It :=
 ⟨fun i H=>∃ xs x,SqL K H a xs/\xs[i]?=some x,fun i H x H'=>∃ p y,H p=none/\x=.ref p/\H'=upd H p (.tup [.int i,y])/\∀ xs,SqL K H a xs->xs[i]?=some y,fun i H=>∃ xs,SqL K H a xs/\xs.length<=i⟩
theorem Qb9 {P:Program} {w:World} {K:Fg} {elts:List Expr} {x1:Nat} {pos:Pos} (a e it:Addr) (hne:e≠it):Turn P w K (.Tuple elts x1 pos) (R7 K a) [e,it] e (fun i h=>∃ old,IsEnum h e it i old/\h.IsListIter it a i) where
 mem:=by simp
 obj:=fun i h st b hb=>by
  obtain ⟨old,he,o,ho,c,d⟩:=st
  rcases List.mem_cons.mp hb with z | z
  ·subst z
   exact ⟨_,he,fun v z=>by
    have z':Data.fields _=Data.cell v:=z
    simp at z'⟩
  ·have z:=List.mem_singleton.mp z
   subst z
   exact ⟨o,ho,fun v z=>by rw [d] at z;simp at z⟩
 keep:=fun i h h' st k=>by
  obtain ⟨old,he,hi⟩:=st
  exact ⟨old,k e (by simp) _ he,hi.at fun o q=>k it (by simp) o q⟩
 item:=by
  intro X hP hw hK hc i pins s σ H E I hf st hg
  subst hP hw hK
  obtain ⟨old,he,hi⟩:=st
  obtain ⟨xs,x,hq,hx⟩:=hg
  obtain ⟨its,rv,p,hz⟩:=I.list hq
  obtain ⟨u,hu,ru⟩:=rv.get hx
  refine wpAny_pyNext_enum_item he hi p.isList (x:=u) (by simpa using hu) hne fun h' eo hi' ht hsz kk=>?_
  refine ⟨_,rfl,wpAny_letOwnedTupleGo_enum eo fun h2 he2 sb=>?_⟩
  have k2:∀ b o,b∉[e,it]->s.heap.get? b=some o->h2.get? b=some o:=fun b o hb q=>by
   have h1:b≠e:=fun z=>hb (by simp [z])
   have h3:b≠it:=fun z=>hb (by simp [z])
   exact (sb.2 b h1).trans (kk b o h1 h3 q)
  have fe:H s.heap.objs.size=none:=I.hok.fresh (Nat.le_refl _)
  have le:e<s.heap.objs.size:=Heap.lt_size he
  have ht2:h2.get? s.heap.objs.size=some { cls:=.type "tuple",data:=.seq #[.int i s.toks,u] }:=(sb.2 _ (Nat.ne_of_gt le)).trans ht
  have li:it<s.heap.objs.size:=by obtain ⟨o,ho,_⟩:=hi;exact Heap.lt_size ho
  have I2:Inv X pins σ (upd H s.heap.objs.size (.tup [.int i,x])) { s with heap:=h2,toks:=s.toks+1 } :=
   Qb8 (t':=s.toks+1) I k2 hf (Nat.le_refl _) (show ObjOk X.prog X.w _ h2 _ (.tup [.int i,x]) from ⟨by show 2<=sizeLine;decide,[.int i s.toks,u],.cons ⟨_,rfl⟩ (.cons ru .nil),⟨_,ht2,rfl,_,rfl⟩⟩)
  refine ⟨.ref s.heap.objs.size,_,I2,rfl,⟨_,x,fe,rfl,rfl,fun ys hy=>by rw [I.list_inj hy hq];exact hx⟩,⟨u,he2,?_⟩,fun b hb=>?_⟩
  ·exact hi'.at fun o q=>(sb.2 it (Ne.symm hne)).trans q
  ·have:b≠s.heap.objs.size:=by
    rcases List.mem_cons.mp hb with z | z
    ·rw [z];exact Nat.ne_of_lt le
    ·rw [List.mem_singleton.mp z];exact Nat.ne_of_lt li
   rw [QB this]
   exact (hf b hb).1
 done:=by
  intro X hP hw hK hc i pins s σ H E I hf st hg
  subst hP hw hK
  obtain ⟨old,he,hi⟩:=st
  obtain ⟨xs,hq,hx⟩:=hg
  obtain ⟨its,rv,p,hz⟩:=I.list hq
  have hl:=rv.length
  exact wpAny_pyNext_enum_end (I.ok.hd hc) he hi p.isList (by simp;omega) fun h' eb=>⟨rfl,Qb7 (t':=s.toks) I (fun b o hb q=>eb b o (fun z=>hb (by simp [z])) q) hf⟩
 self:=fun _ _ _ _ _ st h=>by
  obtain ⟨old,he,_⟩:=st
  exact wpAny_pyIter_enum he h
section
variable {X:Cx} {O:List Nat} {a:Expr} {p pos:Pos}
def DP (K:Fg) (ta:TA):TI:=fun σ H R=>ta σ H fun vs H1=>∃ l,vs=[.ref l]/\(∃ xs,SqL K H1 l xs)/\R (R7 K l) H1
theorem As {elts:List Expr} {x1:Nat} {tpos:Pos} {ta:TA} (hg:Gl X "enumerate") (hm:X.mg "enumerate"=none) (ha:PA X [a] ta) (hs:starEach [a] X.env=[(false,eval a X.env)]:=by rfl):PI X (.Tuple elts x1 tpos) (.Call (.Name "enumerate" p) [a] [] pos) (DP X.K ta):=by
 intro pins s σ H R I h
 refine Call_ (Xs I hg hm boot_enumerate (PyProof.Rows.callWith_type1 (QL (ha pos pins s σ H _ I h) fun us s1 ⟨vs,H1,I1,r1,q1⟩=>?_) hs rfl))
 obtain ⟨l,e,⟨xs,hq⟩,q⟩:=q1
 subst e
 obtain ⟨u,rfl,rx⟩:=Vi r1
 cases rx
 obtain ⟨its,rv,pl,hz⟩:=I1.list hq
 refine call_enumerate_list pl.isList fun h' he hi hsz hk=>?_
 have I2:Inv X pins σ H1 { s1 with heap:=h' }:=I1.kept (t':=s1.toks) hk
 have fe:∀ b,s1.heap.objs.size<=b->H1 b=none:=fun b hb=>I1.hok.fresh hb
 refine wpAny_pyIter_enum he ⟨_,[s1.heap.objs.size+1,s1.heap.objs.size],_,_,H1,rfl,I2,Qb9 l _ _ (Nat.succ_ne_self _),⟨.none,he,hi⟩,fun b hb=>?_,q⟩
 have:s1.heap.objs.size<=b:=by
  rcases List.mem_cons.mp hb with z | z
  ·rw [z];exact Nat.le_succ _
  ·rw [List.mem_singleton.mp z];exact Nat.le_refl _
 exact I1.fpOk this (fe b this)
theorem Lz:∀ (ds:List D) (n i:Nat) (d:D),ds[i]?=some d->(Zu n ds)[i]?=some (.tup [.int ((n+i:Nat):Int),d])
 | [],_,_,_,h=>by simp at h
 | d::ds,n,0,_,h=>by simp at h;subst h;simp [Zu]
 | d::ds,n,i+1,x,h=>by
  have:=Lz ds (n+1) i x (by simpa using h)
  rw [Zu,List.getElem?_cons_succ,this,show n+1+i=n+(i+1) by omega]
theorem Ru:∀ (ds:List D) (n:Nat),(Zu n ds).length=ds.length
 | [],_=>rfl
 | d::ds,n=>by rw [Zu,List.length_cons,List.length_cons,Ru]
theorem Ro {elts:List Expr} {x1:Nat} {tpos:Pos} {ev:Q4} (hg:Gl X "enumerate") (hm:X.mg "enumerate"=none) (ha:PE X a (tD X O ev)) (hs:starEach [a] X.env=[(false,eval a X.env)]:=by rfl):PI X (.Tuple elts x1 tpos) (.Call (.Name "enumerate" p) [a] [] pos) (tI X O (Yy ev)) :=
 PI.imp (As hg hm (Qh ha Qt hs) hs) <| by
  rintro σ H R ⟨F0,F,en,ds0,rs,z,k⟩
  obtain ⟨d,e1,e2⟩:=QR z
  obtain ⟨ds,e3,rfl⟩:=JQ e2
  refine ⟨F0,F,en,d,rs,e1,fun v F1 H1 g1 r1=>?_⟩
  have fin:∀ (l:Addr) (xs:List V),SqL X.K F1 l xs->Reps X.K F1 xs ds->R (R7 X.K l) H1:=fun l xs hl r=>k F1 H1 _ g1
   ⟨fun i F' H' s s' hi=>by
    rw [Ru] at hi
    obtain ⟨v,h1,_⟩:=r.get (List.getElem?_eq_getElem hi)
    exact ⟨xs,v,s'.sqL (s.sqL hl),h1⟩,
   fun i F' H' x H2 s s' hi hy=>by
    obtain ⟨p,y,hp,rfl,rfl,hx⟩:=hy
    have hx':=hx xs (s'.sqL (s.sqL hl))
    obtain ⟨d,h1,h2⟩:=r.getV hx'
    have g:=Gr.new s' hp (.tup [.int i,y])
    refine ⟨_,.tup [.int i,d],g,?_,.tup QQ (.cons (.int _) (.cons ((h2.mono s).mono g.ff) .nil))⟩
    have:=Lz ds 0 i d h1
    rw [this,Nat.zero_add],
   fun i F' H' s s' hi=>⟨xs,s'.sqL (s.sqL hl),by rw [Ru] at hi;rw [r.length];exact hi⟩⟩
  cases r1 with
  | @lst l xs ds' hl r=>obtain rfl:=Option.some.inj e3;exact ⟨l,rfl,⟨xs,SqL.of (g1.fh _ _ hl)⟩,fin l xs (SqL.of hl) r⟩
  | @scr l ns hl=>obtain rfl:=Option.some.inj e3;exact ⟨l,rfl,⟨_,g1.fh.sqL hl⟩,fin l _ hl (Reps.ints ns)⟩
  | _=>cases e3
end
end Wd
namespace Wd
open PySem PySem.Spec PyProof.Rows L2
section
variable {env:Env}
theorem Rc:∀ (names:List (Str×NameKind)) (cs:List (Str×Addr)),(∀ x∈names,x.2=.free->∃ c,env.cells.lookup x.1=some c)->(∀ x c,cs.lookup x=some c->env.cells.lookup x=some c) ->
  ∃ cl,(forIn (m:=Sem) names cs ((fun x r=>match x with | (name,kind)=>if (kind==NameKind.free)=true then do let c <- cellOf env name;pure (ForInStep.yield ((name,c)::r)) else pure (ForInStep.yield r)):(Str×NameKind)->List (Str×Addr)->Sem (ForInStep (List (Str×Addr)))))=pure cl /\
   (∀ x c,cl.lookup x=some c->env.cells.lookup x=some c)/\∀ x,((∃ c,cs.lookup x=some c)\/(x,NameKind.free)∈names)->∃ c,cl.lookup x=some c
 | [],cs,_,hP=>⟨cs,rfl,hP,fun x h=>by
   rcases h with h | h
   ·exact h
   ·simp at h⟩
 | (n,k)::names,cs,hf,hP=>by
  rw [List.forIn_cons]
  by_cases hk:k=.free
  ·subst hk
   obtain ⟨c,hc⟩:=hf (n,.free) List.mem_cons_self rfl
   have hcell:cellOf env n=pure c:=by unfold cellOf;rw [hc]
   obtain ⟨cl,h1,h2,h3⟩:=Rc names ((n,c)::cs) (fun x hx=>hf x (List.mem_cons_of_mem _ hx)) (fun x c' h=>by
    rw [List.lookup_cons] at h
    split at h
    ·rename_i z
     obtain rfl:=Option.some.inj h
     rw [eq_of_beq z];exact hc
    ·exact hP x c' h)
   refine ⟨cl,?_,h2,fun x h=>h3 x ?_⟩
   ·rw [<- h1]
    simp only [beq_self_eq_true,if_true,hcell]
    rfl
   ·rcases h with ⟨c',h⟩ | h
    ·left
     rw [List.lookup_cons]
     split
     ·exact ⟨_,rfl⟩
     ·exact ⟨c',h⟩
    ·rcases List.mem_cons.mp h with h | h
     ·cases h
      left
      exact ⟨c,by simp⟩
     ·exact .inr h
  ·have hb:(k==NameKind.free)=false:=by simpa using hk
   obtain ⟨cl,h1,h2,h3⟩:=Rc names cs (fun x hx=>hf x (List.mem_cons_of_mem _ hx)) hP
   refine ⟨cl,?_,h2,fun x h=>h3 x ?_⟩
   ·rw [<- h1]
    simp only [hb,Bool.false_eq_true,if_false]
    rfl
   ·rcases h with h | h
    ·exact .inl h
    ·rcases List.mem_cons.mp h with h | h
     ·cases h
      exact absurd rfl hk
     ·exact .inr h
theorem FF {scope:Scope} (hf:∀ x∈scope.names,x.2=.free->∃ c,env.cells.lookup x.1=some c) :
  ∃ cl,closureFor scope env=pure cl/\(∀ x c,cl.lookup x=some c->env.cells.lookup x=some c)/\∀ x,(x,NameKind.free)∈scope.names->∃ c,cl.lookup x=some c:=by
 obtain ⟨cl,h1,h2,h3⟩:=Rc scope.names [] hf (fun x c h=>by simp at h)
 refine ⟨cl,?_,h2,fun x h=>h3 x (.inr h)⟩
 have e:closureFor scope env=((forIn (m:=Sem) scope.names [] ((fun x r=>match x with | (name,kind)=>if (kind==NameKind.free)=true then do let c <- cellOf env name;pure (ForInStep.yield ((name,c)::r)) else pure (ForInStep.yield r)):(Str×NameKind)->List (Str×Addr)->Sem (ForInStep (List (Str×Addr))))) >>= fun r=>pure r):=rfl
 rw [e,h1]
 rfl
theorem Pe (env:Env):∀ (names:List (Str×NameKind)) (x:Str),(names.map fun (n,k)=>if (k==NameKind.free&&env.scope.kind==.function&&env.kindOf n==some .cell) then (n,NameKind.cell) else (n,k)).lookup x =
  (names.lookup x).map fun k=>if (k==NameKind.free&&env.scope.kind==.function&&env.kindOf x==some .cell) then NameKind.cell else k
 | [],_=>rfl
 | (n,k)::names,x=>by
  have ih:=Pe env names x
  rw [List.map_cons,List.lookup_cons]
  show List.lookup x ((if (k==NameKind.free&&env.scope.kind==.function&&env.kindOf n==some .cell)=true then (n,NameKind.cell) else (n,k))::_)=_
  cases hx:x==n with
  | true =>
   have:=eq_of_beq hx
   subst this
   by_cases hc:(k==NameKind.free&&env.scope.kind==.function&&env.kindOf x==some .cell)=true
   ·rw [if_pos hc,List.lookup_cons,hx]
    rw [List.lookup_cons,hx]
    simp only [Option.map_some]
    rw [if_pos hc]
   ·rw [if_neg hc,List.lookup_cons,hx]
    rw [List.lookup_cons,hx]
    simp only [Option.map_some]
    rw [if_neg hc]
  | false =>
   by_cases hc:(k==NameKind.free&&env.scope.kind==.function&&env.kindOf n==some .cell)=true
   ·rw [if_pos hc,List.lookup_cons,List.lookup_cons,hx];exact ih
   ·rw [if_neg hc,List.lookup_cons,List.lookup_cons,hx];exact ih
theorem mem_of_lookup {α β:Type} [BEq α] [LawfulBEq α]:∀ {l:List (α×β)} {x:α} {y:β},l.lookup x=some y->(x,y)∈l
 | [],_,_,h=>by simp at h
 | (a,b)::l,x,y,h=>by
  rw [List.lookup_cons] at h
  split at h
  ·rename_i z;obtain rfl:=Option.some.inj h;rw [eq_of_beq z];exact List.mem_cons_self
  ·exact List.mem_cons_of_mem _ (mem_of_lookup h)
end
def Vn (X:Cx) (scope:Scope) (N':List Str) (cl:List (Str×Addr)) (C:Addr) (ex:List Addr) (s:Shared) (H:Hp) (pn:List (Addr×Obj)):Cx :=
 { X with N:=N',env:=compEnvC scope cl C X.env,s₀:=s,H₀:=H,outer:=X.stack,ex:=ex,fn:=fun _=>false,pn:=pn,xe:=fun _ _=>False }
structure CompSc (X:Cx) (scope:Scope) (n:Nat) (N':List Str) (caps:List Nat):Prop where
 kind:scope.kind=.function
 nocell:∀ y∈scope.names,y.2≠.cell
 loc:∀ x∈scope.names,x.2=.local->scope.names.lookup x.1=some .local
 fre:∀ x∈scope.names,x.2=.free->X.env.kindOf x.1=some .cell\/X.env.kindOf x.1=some .free
 len:N'.length=n+caps.length
 cap:∀ (j i:Nat),caps[j]?=some i->∃ x,N'[n+j]?=some x/\X.N[i]?=some x/\scope.names.lookup x=some .free
 nd:N'.Nodup
section
variable {X:Cx} {pins:List (Addr×Obj)} {σ:L2.St} {H:Hp} {s:Shared} {scope:Scope} {n:Nat} {N':List Str} {caps:List Nat} {cl:List (Str×Addr)} {C:Addr} {ex:List Addr}
theorem FJ (S:CompSc X scope n N' caps) {x:Str} (h:(compEnvC scope cl C X.env).kindOf x=some .cell\/(compEnvC scope cl C X.env).kindOf x=some .free):(x,NameKind.free)∈scope.names:=by
 have e:(compEnvC scope cl C X.env).kindOf x=(scope.names.lookup x).map fun k=>if (k==NameKind.free&&X.env.scope.kind==.function&&X.env.kindOf x==some .cell) then NameKind.cell else k:=Pe X.env scope.names x
 rw [e] at h
 cases q:scope.names.lookup x with
 | none=>rw [q] at h;rcases h with h | h<;>simp at h
 | some k =>
  have m:=mem_of_lookup q
  cases k with
  | free=>exact m
  | cell=>exact absurd rfl (S.nocell _ m)
  | _ =>
   rw [q] at h
   rcases h with h | h<;>simp at h
theorem FI (I:Inv X pins σ H s) (S:CompSc X scope n N' caps) (hC:s.heap.objs.size<=C) (hcl:∀ x c,cl.lookup x=some c->X.env.cells.lookup x=some c) (hhas:∀ x,(x,NameKind.free)∈scope.names->∃ c,cl.lookup x=some c)
  (hex:∀ b∈ex,ZP X pins H b/\b≠C) (pn:List (Addr×Obj)):(Vn X scope N' cl C ex s H pn).Ok where
 mod:=I.ok.mod
 kind:=S.kind
 glob:=I.ok.glob
 blt:=I.ok.blt
 above:=hC
 inj:=fun x y c h1 h2=>I.ok.inj x y c (hcl x c h1) (hcl y c h2)
 has:=fun x h=>hhas x (FJ (cl:=cl) (C:=C) S h)
 cab:=fun x c h=>by cases h
 hd:=I.ok.hd
 frames:=I.ok.frames
 stk:=.inl rfl
 exf:=fun b hb=>⟨(hex b hb).2,fun x c h=>(hex b hb).1.2.2.2.2.1 x c (hcl x c h)⟩
 bs:=I.bs
 bsz:=Nat.le_trans I.ok.bsz I.sz
 noex:=fun b o e hb=>by
  rcases (hex b hb).1.2.2.2.1 with z | z
  ·exact I.ok.noex b o e z
  ·exact absurd (Nat.lt_of_lt_of_le (Heap.lt_size e) (Nat.le_trans I.ok.bsz z)) (Nat.lt_irrefl _)
 exfs:=fun b hb hf=>by
  obtain ⟨⟨_,h1,h2,_⟩,_⟩:=hex b hb
  rcases List.mem_cons.mp (I.stkSub b hf) with z | z
  ·exact h1 z
  ·exact h2 z
 funs:=I.stack
 frf:=I.stkFree
end
end Wd
namespace Wd
open PySem PySem.Spec PyProof.Rows L2
theorem FK {prog:Program} {w:World} {A:Around} {R:Result->Shared->Prop} {s:Shared} {elt target iter:Expr} {ifs:List Expr} {scope:Scope} {pos:Pos} {it acc:Value} {env:Env} {E:Value->Shared->Prop} (hE:∀ x s,¬ E x s) (J:Nat->Shared->Prop)
  (turn:∀ n s,J n s->wpAny (model prog w) A (pyNext it) (fun r s₁=>match r with
   | none=>R (.ok .next) s₁
   | some v=>wpAny (model prog w) A (letOwnedTupleGo target it v) (fun _ s₁=>wpAny (model prog w) A (assign target env v) (fun _ s₂ =>
     wpAny (model prog w) A (forIn ifs true fun c r=>if r=true then do let ok <- isTrue c env (eval c env);pure (ForInStep.yield ok) else pure (ForInStep.yield r)) (fun ok s₃ =>
      if ok=true then wpAny (model prog w) A (eval elt env) (fun x s₄ =>
       wpAny (model prog w) A (call (.builtin "list.append") [acc,x]) (fun _ s₅=>∃ m,m<n/\J m s₅) E s₄) E s₃
      else ∃ m,m<n/\J m s₃) E s₂) E s₁) E s₁) E s)
  (n:Nat) (h:J n s):codeAny (model prog w) A (.compLoop (.ListComp elt [⟨target,iter,ifs,0⟩] scope pos) 0 it acc env) R s:=by
 have no:∀ {E':Value->Shared->Prop} x s,E x s->E' x s:=fun x s h=>absurd h (hE x s)
 refine codeAny_loop rfl J (fun n s hI=>?_) n h
 show wpAny _ A ((compTurn (.ListComp elt [⟨target,iter,ifs,0⟩] scope pos) 0 it acc env).onRaise (fun x=>do noteFrame x env;theTreesLotGoes x)) _ _ s
 refine wpAny_noted ?_
 rw [compTurn_list]
 refine wpAny_bind (wpAny_standAt (wpAny_bind (wpAny_mono (turn n s hI) (fun r s₁ h₁=>?_) fun x s h'=>no x s h')))
 cases r with
 | none=>exact wpAny_pure h₁
 | some v =>
  refine wpAny_bind (wpAny_mono h₁ (fun _ s₂ h₂=>wpAny_bind (wpAny_mono h₂ (fun _ s₂ h₂=>wpAny_bind (wpAny_mono h₂ (fun ok s₃ h₃=>?_) fun x s h'=>no x s h')) fun x s h'=>no x s h')) fun x s h'=>no x s h')
  cases ok with
  | false=>exact wpAny_pure ⟨rfl,h₃⟩
  | true =>
   exact wpAny_bind (wpAny_bind (wpAny_mono h₃ (fun x s₄ h₄=>wpAny_bind (wpAny_mono h₄ (fun _ s₅ h₅=>wpAny_pure (wpAny_pure ⟨rfl,h₅⟩)) fun x s h'=>no x s h')) fun x s h'=>no x s h'))
def Us (X:Cx) (ifs:List Expr) (t:TT):Prop :=
 ∀ (pins:List (Addr×Obj)) (s:Shared) (σ:L2.St) (H:Hp) (Q:Bool->Hp->Prop),Inv X pins σ H s->t σ H Q ->
  wpAny (model X.prog X.w) X.A (forIn ifs true fun c r=>if r=true then do let ok <- isTrue c X.env (eval c X.env);pure (ForInStep.yield ok) else pure (ForInStep.yield r)) (TP X pins σ Q) X.xe s
section
variable {X:Cx}
theorem YU {O:List Nat}:Us X [] (tDT X O (eC (.bl true))):=by
 rintro pins s σ H Q I ⟨F0,F,en,b,rs,w,k⟩
 cases w
 exact wpAny_pure ⟨H,I,k F H (.refl rs.fh)⟩
end
section
variable {X:Cx} {pins:List (Addr×Obj)} {σ:L2.St} {H:Hp} {s:Shared} {scope:Scope} {n:Nat} {N':List Str} {caps:List Nat} {cl:List (Str×Addr)} {fp:List Addr}
def VF (n:Nat) (caps:List Nat) (σ:L2.St):L2.St:=List.replicate n none++caps.map fun i=>(σ[i]?).join
theorem FL (I:Inv X pins σ H s) (S:CompSc X scope n N' caps) (hcl:∀ x c,cl.lookup x=some c->X.env.cells.lookup x=some c) (hhas:∀ x,(x,NameKind.free)∈scope.names->∃ c,cl.lookup x=some c) (hfp:∀ b∈fp,ZP X pins H b/\b<s.heap.objs.size)
  {h1:Heap} {tk:Nat} (hns:h1.Ns (s.heap.objs.size+1) fun _=>none) (old:∀ b o,(s.heap.push { cls:=.type "list",data:=.seq #[] }).get? b=some o->h1.get? b=some o) :
  Inv (Vn X scope N' cl (s.heap.objs.size+1) (s.heap.objs.size::fp) { s with heap:=s.heap.push { cls:=.type "list",data:=.seq #[] } } H (X.pn++pins)) [] (VF n caps σ) (upd H s.heap.objs.size (.lst [])) { s with heap:=h1,toks:=tk }:=by
 have hz:(s.heap.push { cls:=.type "list",data:=.seq #[] }).objs.size=s.heap.objs.size+1:=Heap.size_push ..
 have up:∀ b o,s.heap.get? b=some o->h1.get? b=some o:=fun b o e=>old b o (Heap.get?_push_of_some _ e)
 have hacc:H s.heap.objs.size=none:=I.hok.fresh (Nat.le_refl _)
 have hC:H (s.heap.objs.size+1)=none:=I.hok.fresh (Nat.le_succ _)
 have I3:Inv X pins σ H { s with heap:=s.heap.push { cls:=.type "list",data:=.seq #[] } }:=I.kept (t':=s.toks) fun b o e=>Heap.get?_push_of_some _ e
 have cellLt:∀ x c,X.env.cells.lookup x=some c->c<s.heap.objs.size:=fun x c e=>by
  obtain ⟨v,o,ho,_⟩:=I.cell x c e
  exact Heap.lt_size ho
 refine ⟨FI I3 S (by rw [hz];exact Nat.le_refl _) hcl hhas (fun b hb=>?_) _,rfl,I.bare,⟨fun b o e _ _ _=>old b o e,fun b o e _ _ _=>⟨o.slots,old b o e⟩,fun b o e n hb=>?_,fun b o e _=>⟨o,old b o e⟩,fun b xs e=>?_,fun b o u e=>?_,fun b ps e=>⟨#[],?_⟩⟩,
  ⟨_,hns,fun i x v e1 e2 _=>?_⟩,fun x c e=>?_,?_,fun x c e=>?_,fun p hp=>?_,I.hok.laid up (Nat.le_refl _) ⟨Nat.zero_le _,[],0,.nil,old _ _ (Heap.get?_push_size _ rfl)⟩,?_⟩
 ·rcases List.mem_cons.mp hb with z | z
  ·subst z
   exact ⟨I.fpOk (Nat.le_refl _) hacc,Nat.ne_of_lt (Nat.lt_succ_self _)⟩
  ·exact ⟨(hfp b z).1,Nat.ne_of_lt (Nat.lt_succ_of_lt (hfp b z).2)⟩
 ·rw [QB (fun z=>hb (by rw [z];exact List.mem_cons_self))];exact n
 ·rw [QB (Zi e hacc)];exact e
 ·rw [QB (Zi e hacc)];exact e
 ·have e':H b=some (.tbl ps):=e
  rw [QB (Zi e' hacc),e'];simp
 ·unfold VF at e2
  rcases Nat.lt_or_ge i n with hi | hi
  ·rw [List.getElem?_append_left (by simpa using hi),List.getElem?_replicate,if_pos hi] at e2
   simp at e2
  ·rw [List.getElem?_append_right (by simpa using hi),List.length_replicate,List.getElem?_map] at e2
   cases q:caps[i-n]? with
   | none=>rw [q] at e2;simp at e2
   | some j =>
    rw [q] at e2
    obtain ⟨x',f1,f2,f3⟩:=S.cap (i-n) j q
    rw [show n+(i-n)=i by omega] at f1
    have e1':N'[i]?=some x:=e1
    rw [f1] at e1'
    obtain rfl:=(Option.some.inj e1').symm
    have e2':(σ[j]?).join=some v:=Option.some.inj e2
    have e3:σ[j]?=some (some v):=by
     cases w:σ[j]? with
     | none=>rw [w] at e2';simp at e2'
     | some o=>rw [w] at e2';cases o with
      | none=>simp at e2'
      | some u=>obtain rfl:=(Option.some.inj e2').symm;rfl
    have hm:=mem_of_lookup f3
    have kx:=S.fre _ hm rfl
    obtain ⟨m,_,hl⟩:=I.loc
    obtain ⟨u,r,lk⟩:=hl j x v f2 e3 (by
     rcases kx with z | z
     ·exact .inr (.inl z)
     ·exact .inr (.inr z))
    refine ⟨u,r,.inr ⟨?_,?_⟩⟩
    ·have e:(compEnvC scope cl (s.heap.objs.size+1) X.env).kindOf x=(scope.names.lookup x).map fun k=>if (k==NameKind.free&&X.env.scope.kind==.function&&X.env.kindOf x==some .cell) then NameKind.cell else k:=Pe X.env scope.names x
     have e':(compEnvC scope cl (s.heap.objs.size+1) X.env).kindOf x=some (if (NameKind.free==NameKind.free&&X.env.scope.kind==.function&&X.env.kindOf x==some .cell) then NameKind.cell else NameKind.free):=by rw [e,f3];rfl
     show (compEnvC scope cl (s.heap.objs.size+1) X.env).kindOf x=some .cell\/(compEnvC scope cl (s.heap.objs.size+1) X.env).kindOf x=some .free
     rw [e']
     split
     ·exact .inl rfl
     ·exact .inr rfl
    ·obtain ⟨c,hc⟩:=hhas x hm
     rcases lk with ⟨z,_⟩ | ⟨_,c',hc',o,ho,hd⟩
     ·rcases kx with w | w<;>(rw [z] at w;simp at w)
     ·have:=hcl x c hc
      rw [hc'] at this
      obtain rfl:=(Option.some.inj this).symm
      exact ⟨c,hc,o,up c o ho,hd⟩
 ·obtain ⟨v,o,ho,hd⟩:=I.cell x c (hcl x c e)
  exact ⟨v,o,up c o ho,hd⟩
 ·show upd H s.heap.objs.size (.lst []) (s.heap.objs.size+1)=none
  rw [QB (Nat.succ_ne_self _)];exact hC
 ·rw [QB (Nat.ne_of_lt (cellLt x c (hcl x c e)))];exact I.freeC x c (hcl x c e)
 ·have hp':p∈X.pn++pins:=by simpa [Vn] using hp
  obtain ⟨k1,k2,k3,k4,k5⟩:=I.pin p hp'
  have lt:p.1<s.heap.objs.size:=Heap.lt_size k1
  refine ⟨up _ _ k1,?_,Nat.ne_of_lt (Nat.lt_succ_of_lt lt),fun hb=>?_,k5⟩
  ·rw [QB (Nat.ne_of_lt lt)];exact k2
  ·rcases List.mem_cons.mp (I.stkSub _ hb) with z | z
   ·exact k3 z
   ·exact k4 z
 ·show (VF n caps σ).length=N'.length
  rw [S.len];simp [VF]
end
end Wd
namespace Wd
open PySem PySem.Spec PyProof.Rows L2
def Yj (X:Cx) (scope:Scope) (N':List Str) (P:Cx->Prop):Prop :=
 ∀ (cl:List (Str×Addr)) (C:Addr) (ex:List Addr) (s:Shared) (H:Hp) (pn:List (Addr×Obj)),P (Vn X scope N' cl C ex s H pn)
section
variable {X:Cx} {O:List Nat} {scope:Scope} {n:Nat} {N':List Str} {caps:List Nat} {tg iter elt:Expr} {ifs:List Expr} {pos:Pos} {it:Jo} {g:Qw} {c el:Q4}
theorem QaI {K:Fg} {H₀:Hp} {F0:Fz} {F H:Hp} {σ:L2.St} {en:Q2} (r:RS K H₀ F0 F H σ en O) (hO:∀ i∈caps,i∉O):RS K H ⟨F,H,np⟩ F H (VF n caps σ) (Yl n caps en) [] where
 fh:=r.fh
 hh:=.refl H
 ff:=.refl F
 fr:=fun _ _ h=>.inl h
 slot:=fun i d h _=>by
  unfold Yl at h
  unfold VF
  rcases Nat.lt_or_ge i n with hi | hi
  ·rw [List.getElem?_append_left (by simpa using hi),List.getElem?_replicate,if_pos hi] at h
   simp at h
  ·rw [List.getElem?_append_right (by simpa using hi),List.length_replicate,List.getElem?_map] at h
   rw [List.getElem?_append_right (by simpa using hi),List.length_replicate,List.getElem?_map]
   cases q:caps[i-n]? with
   | none=>rw [q] at h;simp at h
   | some j =>
    rw [q] at h
    have h':(en[j]?).join=some d:=Option.some.inj h
    have e3:en[j]?=some (some d):=by
     cases w:en[j]? with
     | none=>rw [w] at h';simp at h'
     | some o=>rw [w] at h';cases o with
      | none=>simp at h'
      | some u=>obtain rfl:=Option.some.inj h';rfl
    have hj:j∈caps:=List.mem_of_getElem? q
    obtain ⟨v,h1,h2⟩:=r.slot j d e3 (hO j hj)
    refine ⟨v,?_,h2⟩
    simp [h1]
 own:=fun i d _ h=>by simp at h
 dis:=fun i j p _ _ h=>by simp at h
 pin:=fun i h=>by simp at h
 len:=by unfold VF Yl;simp
theorem HP {K:Fg} {H₀:Hp} {F0:Fz} {F H:Hp} {σ:L2.St} {en:Q2} {p:Addr} {o:HO} (r:RS K H₀ F0 F H σ en []) (h0:F0.h p=none) (hf:F p=none):RS K H₀ F0 F (upd H p o) σ en [] where
 fh:=r.fh.upd o hf
 hh:=r.hh.upd o h0
 ff:=r.ff
 fr:=r.fr
 slot:=r.slot
 own:=fun i d _ h=>by simp at h
 dis:=fun i j p _ _ h=>by simp at h
 pin:=fun i h=>by simp at h
 len:=r.len
theorem DS {α:Type} {o:Option D} {x y:Option α} {r:α} (h:Ju o x y=some r):∃ b,o=some (.bl b)/\(b=true->x=some r)/\(b=false->y=some r):=by
 obtain ⟨b,h1,h2⟩:=VM h
 refine ⟨b,h1,fun z=>?_,fun z=>?_⟩
 ·subst z;exact h2
 ·subst z;exact h2
structure ItOkH (K:Fg) (F H:Hp) (J:It) (ds:List D):Prop where
 go:∀ i F' H',Sm F F'->Sm F' H'->Sm H H'->i<ds.length->J.go i H'
 yld:∀ i F' H' x H2,Sm F F'->Sm F' H'->Sm H H'->i<ds.length->J.yld i H' x H2->∃ F2 d,Gr F' H' F2 H2/\ds[i]?=some d/\Rep K F2 x d
 stop:∀ i F' H',Sm F F'->Sm F' H'->Sm H H'->ds.length<=i->J.stop i H'
inductive tIH (X:Cx) (O:List Nat) (it:Jo) (σ:L2.St) (H:Hp) (R:L2.It->Hp->Prop):Prop
 | mk (F0:Fz) (F:Hp) (e:Q2) (ds:List D) (h1:RS X.K X.H₀ F0 F H σ e O) (h2:it e=some ds) (h3:∀ F' H' J,Gr F H F' H'->ItOkH X.K F' H' J ds->R J H'):tIH X O it σ H R
theorem YV (h:PI X tg iter (tI X O it)):PI X tg iter (tIH X O it):=PI.imp h <| by rintro σ H R ⟨F0,F,en,ds,rs,z,k⟩;exact ⟨F0,F,en,ds,rs,z,fun F' H' J g io=>k F' H' J g ⟨fun i F2 H2 a b _=>io.go i F2 H2 a b,fun i F2 H2 x H3 a b _=>io.yld i F2 H2 x H3 a b,fun i F2 H2 a b _=>io.stop i F2 H2 a b⟩⟩
structure CI (Y:Cx) (K:Fg) (tn:Nat->Heap->Prop) (fp:List Addr) (F2 H2:Hp) (acc:Addr) (g:Qw) (c el:Q4) (ds tot:List D) (i:Nat) (σ':L2.St) (H' F':Hp) (en':Q2) (xs:List V) (done rest:List D) (s':Shared):Prop where
 c1:i<=ds.length
 c2:Inv Y [] σ' H' s'
 c3:tn i s'.heap
 c4:∀ b∈fp,H' b=none
 c5:RS K H2 ⟨F2,H2,np⟩ F' H' σ' en' []
 c6:H' acc=some (.lst xs)
 c7:F' acc=none
 c8:Reps K F' xs done
 c9:Z7 g c el (ds.drop i) en'=some rest
 ca:done++rest=tot
 cb:done.length<=i
theorem LZ (hx:X.xe=fun _ _=>False) (hc:X.calm=true) (S:CompSc X scope n N' caps) (hO:∀ i∈caps,i∉O) (hi:PI X tg iter (tIH X O it)) (hg:Yj X scope N' fun Y=>PG Y tg (tG Y [] [] g)) (ht:Yj X scope N' fun Y=>Us Y ifs (tDT Y [] c)) (he:Yj X scope N' fun Y=>PE Y elt (tD Y [] el))
  (hs:∀ x,foldedSetIterable iter X.env x=pure x) {use:Option (Value->Sem Unit)} {Qv:Value->Shared->Prop} {cpos:Pos} {pins:List (Addr×Obj)} {σ:L2.St} {H:Hp} {s:Shared} (I:Inv X pins σ H s) {F0:Fz} {F:Hp} {en:Q2} {ds tot:List D} (rs:RS X.K X.H₀ F0 F H σ en O) (e1:it en=some ds) (hlen:ds.length<=Qc)
  (e3:Z7 g c el ds (Yl n caps en)=some tot)
  (fin0:∀ acc C s' H' F' xs m,H acc=none->Inv X pins σ H' s'->ZP X pins H' C->s'.heap.Ns C m->Gr F H F' H'->F' acc=none->H' acc=some (.lst xs)->Reps X.K F' xs tot->compPost (model X.prog X.w) X.A X.xe use Qv (.ref acc) C (.ok .next) s') :
  wpAny (model X.prog X.w) X.A (comprehension (.ListComp elt [⟨tg,iter,ifs,0⟩] scope pos) scope X.env cpos (newList []) false (eval iter X.env) use) Qv X.xe s:=by
 obtain ⟨cl,hclo,hcl,hhas⟩:=FF (scope:=scope) (env:=X.env) fun x hx hk=>I.ok.has x.1 (S.fre x hx hk)
 refine wpAny_comprehension_free (use:=use) rfl hs hclo S.kind S.loc ?_
 refine QL (hi pins s σ H _ I ⟨F0,F,en,ds,rs,e1,fun F' H' J gr io=>⟨F',gr,io⟩⟩:wpAny (model X.prog X.w) X.A (eval iter X.env) (fun v s1=>wpAny (model X.prog X.w) X.A (pyIter v) (PIE X pins σ tg fun J H'=>∃ F',Gr F H F' H'/\ItOkH X.K F' H' J ds) X.xe s1) X.xe s) fun v s1 h1=>?_
 refine QL h1 fun itv s2 h2=>?_
 obtain ⟨ita,fp,tn,J,H2,rfl,I2,T,st2,f2,F2,gr,io⟩:=h2
 have fpo:∀ b∈fp,ZP X pins H2 b/\b<s2.heap.objs.size:=fun b hb=>by
  obtain ⟨o,ho,_⟩:=T.obj 0 _ st2 b hb
  exact ⟨f2 b hb,Heap.lt_size ho⟩
 have hacc:H2 s2.heap.objs.size=none:=I2.hok.fresh (Nat.le_refl _)
 have hz:(s2.heap.push { cls:=.type "list",data:=.seq #[] }).objs.size=s2.heap.objs.size+1:=Heap.size_push ..
 refine wpAny_newObj_type (wpAny_newFunctionEnv S.nocell (by intro y hy;simp at hy) (fun h1 hns1 hsb1=>?_) S.kind)
 dsimp only at hns1 hsb1 ⊢
 have hns:h1.Ns (s2.heap.objs.size+1) fun _=>none:=by
  have q:=hns1
  rw [hz] at q
  exact q
 have old:∀ b o,(s2.heap.push { cls:=.type "list",data:=.seq #[] }).get? b=some o->h1.get? b=some o:=fun b o e =>
  hsb1.extBut b o (Nat.ne_of_lt (Heap.lt_size e)) (Heap.get?_push_of_some _ e)
 have I4:=FL (tk:=s2.toks+([]:List (Str×Value)).length) I2 S hcl hhas fpo hns old
 have loop:∀ (R:Result->Shared->Prop),(∀ s' H' F' xs m,Inv (Vn X scope N' cl (s2.heap.objs.size+1) (s2.heap.objs.size::fp) { s2 with heap:=s2.heap.push { cls:=.type "list",data:=.seq #[] } } H2 (X.pn++pins)) [] m H' s'->Gr F2 H2 F' H'->F' s2.heap.objs.size=none->H' s2.heap.objs.size=some (.lst xs)->Reps X.K F' xs tot->R (.ok .next) s') ->
   codeAny (model X.prog X.w) X.A (.compLoop (.ListComp elt [⟨tg,iter,ifs,0⟩] scope pos) 0 (.ref ita) (.ref s2.heap.objs.size) (compEnvC scope cl (s2.heap.objs.size+1) X.env)) R { s2 with heap:=h1,toks:=s2.toks+([]:List (Str×Value)).length }:=by
  intro R hR
  have gY:=hg cl (s2.heap.objs.size+1) (s2.heap.objs.size::fp) { s2 with heap:=s2.heap.push { cls:=.type "list",data:=.seq #[] } } H2 (X.pn++pins)
  have tY:=ht cl (s2.heap.objs.size+1) (s2.heap.objs.size::fp) { s2 with heap:=s2.heap.push { cls:=.type "list",data:=.seq #[] } } H2 (X.pn++pins)
  have eY:=he cl (s2.heap.objs.size+1) (s2.heap.objs.size::fp) { s2 with heap:=s2.heap.push { cls:=.type "list",data:=.seq #[] } } H2 (X.pn++pins)
  generalize hY:Vn X scope N' cl (s2.heap.objs.size+1) (s2.heap.objs.size::fp) { s2 with heap:=s2.heap.push { cls:=.type "list",data:=.seq #[] } } H2 (X.pn++pins)=Y at I4 gY tY eY hR
  have yK:Y.K=X.K:=by rw [<- hY];rfl
  have yP:Y.prog=X.prog:=by rw [<- hY];rfl
  have yW:Y.w=X.w:=by rw [<- hY];rfl
  have yA:Y.A=X.A:=by rw [<- hY];rfl
  have yH:Y.H₀=H2:=by rw [<- hY];rfl
  have yE:Y.env=compEnvC scope cl (s2.heap.objs.size+1) X.env:=by rw [<- hY];rfl
  have yX:Y.xe=fun _ _=>False:=by rw [<- hY];rfl
  have yc:Y.calm=true:=by rw [<- hY];exact hc
  have yf:Y.fs=JH X.stack:=by rw [<- hY];rfl
  have yx:Y.ex=s2.heap.objs.size::fp:=by rw [<- hY];rfl
  have yp:Y.pn=X.pn++pins:=by rw [<- hY];rfl
  have stat:∀ {H':Hp},(∀ b∈fp,H' b=none)->∀ b∈fp,ZP Y [] H' b:=fun hn b hb=>by
   obtain ⟨⟨_,q1,q2,q3,q4,q5⟩,q6⟩:=fpo b hb
   refine ⟨hn b hb,?_,?_,.inl ?_,fun x c e=>?_,fun p hp=>q5 p ?_⟩
   ·rw [yE];exact Nat.ne_of_lt (Nat.lt_succ_of_lt q6)
   ·rw [yf]
    intro hf
    rcases List.mem_cons.mp (I2.stkSub b hf) with w | w
    ·exact q1 w
    ·exact q2 w
   ·rw [yx];exact List.mem_cons_of_mem _ hb
   ·rw [yE] at e;exact q4 x c (hcl x c e)
   ·rw [yp] at hp;simpa using hp
  rw [<- yP,<- yW,<- yA,<- yE]
  have T':Turn Y.prog Y.w Y.K tg J fp ita tn:=by rw [yP,yW,yK];exact T
  have nofp:∀ b∈fp,b≠s2.heap.objs.size:=fun b hb=>Nat.ne_of_lt (fpo b hb).2
  refine FK (E:=Y.xe) (fun x s h=>by rw [yX] at h;exact h) (fun m s'=>∃ i σ' H' F' en' xs done rest,m=ds.length-i/\CI Y X.K tn fp F2 H2 s2.heap.objs.size g c el ds tot i σ' H' F' en' xs done rest s') ?_ ds.length
   ⟨0,VF n caps σ,_,F2,Yl n caps en,[],[],tot,by omega,by omega,I4,T.keep 0 _ _ st2 (fun b hb o e=>old b o (Heap.get?_push_of_some _ e)),fun b hb=>?_,HP (QaI (rs.grow gr) hO) hacc ((rs.grow gr).fh.none hacc),QQ,(rs.grow gr).fh.none hacc,.nil,by rw [List.drop_zero];exact e3,rfl,Nat.le_refl _⟩
  ·rintro m s3 ⟨i,σ3,H3,F3,en3,xs,done,rest,rfl,hle,I3,st3,fr3,rs3,ha3,fa3,r3,q3,tot3,dl3⟩
   have gr3:Gr F2 H2 F3 H3:=rs3.ex.gr
   rcases Nat.lt_or_ge i ds.length with hi | hi
   ·refine QL (T'.item Y rfl rfl rfl yc i [] s3 σ3 H3 Y.xe I3 (stat fr3) st3 (io.go i F3 H3 gr3.ff rs3.fh rs3.hh hi)) ?_
    rintro r s4 ⟨u,hr,h4⟩
    subst hr
    refine QL h4 ?_
    rintro _ s5 ⟨x,H5,I5,r5,y5,st5,fr5⟩
    obtain ⟨F5,dx,g5,hd5,rx5⟩:=io.yld i F3 H3 x H5 gr3.ff rs3.fh rs3.hh hi y5
    have hdr:ds.drop i=dx::ds.drop (i+1):=by
     rw [List.drop_eq_getElem_cons hi]
     rw [List.getElem?_eq_getElem hi] at hd5
     obtain rfl:=Option.some.inj hd5;rfl
    rw [hdr] at q3
    obtain ⟨en6,q4,q5⟩:=QR (show ((g dx en3).bind fun e1=>Ju (c e1) ((el e1).bind fun x=>(Z7 g c el (ds.drop (i+1)) e1).map fun r=>x::r) (Z7 g c el (ds.drop (i+1)) e1))=some rest from q3)
    obtain ⟨b,q6,qt,qf⟩:=DS q5
    have I5':=I5.pinned (stat fr5) (T.obj _ _ st5)
    have a5:H5 s2.heap.objs.size=some (.lst xs):=g5.hh _ _ ha3
    have n5:F5 s2.heap.objs.size=none:=by
     cases w:F5 s2.heap.objs.size with
     | none=>rfl
     | some o =>
      rcases g5.fr _ o w with z | z
      ·rw [fa3] at z;simp at z
      ·rw [ha3] at z;simp at z
    have rs5:RS Y.K Y.H₀ ⟨F2,H2,np⟩ F5 H5 σ3 en3 []:=by rw [yK,yH];exact rs3.grow g5
    refine QL (gY _ s5 σ3 H5 x u (fun σ' H'=>∃ F',Gr F5 H5 F' H'/\RS Y.K Y.H₀ ⟨F2,H2,np⟩ F' H' σ' en6 []) I5' r5 ⟨⟨F2,H2,np⟩,F5,en3,dx,en6,rs5,by rw [yK];exact rx5,q4,fun σ' H' F' g' r'=>⟨F',g',r'⟩⟩) fun _ s6 ⟨σ6,H6,I6,F6,g6,rs6⟩=>?_
    have keepN:∀ {Fa Ha Fb Hb:Hp},Gr Fa Ha Fb Hb->Ha s2.heap.objs.size=some (.lst xs)->Fa s2.heap.objs.size=none->Hb s2.heap.objs.size=some (.lst xs)/\Fb s2.heap.objs.size=none:=fun {Fa Ha Fb Hb} gg ha fa=>by
     refine ⟨gg.hh _ _ ha,?_⟩
     cases w:Fb s2.heap.objs.size with
     | none=>rfl
     | some o =>
      rcases gg.fr _ o w with z | z
      ·rw [fa] at z;simp at z
      ·rw [ha] at z;simp at z
    obtain ⟨a6,n6⟩:=keepN g6 a5 n5
    refine QL (tY _ s6 σ6 H6 (fun b' H'=>b'=b/\∃ F',Gr F6 H6 F' H') I6 ⟨⟨F2,H2,np⟩,F6,en6,b,rs6,q6,fun F' H' g'=>⟨rfl,F',g'⟩⟩) fun ok s7 ⟨H7,I7,hb,F7,g7⟩=>?_
    subst hb
    obtain ⟨a7,n7⟩:=keepN g7 a6 n6
    have rs7:=rs6.grow g7
    have sm7:Sm F3 F7:=(g5.ff.trans g6.ff).trans g7.ff
    have back:∀ {σ8:L2.St} {H8:Hp} {s8:Shared},Inv Y ([]++US fp s5.heap) σ8 H8 s8->Inv Y [] σ8 H8 s8/\tn (i+1) s8.heap/\∀ b∈fp,H8 b=none:=fun {σ8 H8 s8} I8=>by
     refine ⟨I8.unpinned,T.keep _ _ _ st5 fun b hb o e=>(I8.pin (b,o) (List.mem_append_right _ (List.mem_append_right _ (Tt hb e)))).1,fun b hb=>?_⟩
     obtain ⟨o,e,_⟩:=T.obj _ _ st5 b hb
     exact (I8.pin (b,o) (List.mem_append_right _ (List.mem_append_right _ (Tt hb e)))).2.1
    cases ok with
    | false =>
     rw [if_neg Bool.false_ne_true]
     obtain ⟨k1,k2,k3⟩:=back I7
     exact ⟨_,by omega,i+1,σ6,H7,F7,en6,xs,done,rest,rfl,hi,k1,k2,k3,by rw [yK,yH] at rs7;exact rs7,a7,n7,r3.mono sm7,qf rfl,tot3,by omega⟩
    | true =>
     rw [if_pos rfl]
     obtain ⟨dy,q8,q9⟩:=QR (qt rfl)
     obtain ⟨rest',q10,q11⟩:=JQ q9
     refine QL (eY _ s7 σ6 H7 (fun v' H'=>∃ F',Gr F7 H7 F' H'/\Rep Y.K F' v' dy) I7 ⟨⟨F2,H2,np⟩,F7,en6,dy,rs7,q8,fun v' F' H' g' r'=>⟨F',g',r'⟩⟩) fun y s8 ⟨y',H8,I8,ry8,F8,g8,rp8⟩=>?_
     obtain ⟨a8,n8⟩:=keepN g8 a7 n7
     have rs8:=rs7.grow g8
     have sm8:Sm F3 F8:=sm7.trans g8.ff
     have len8:xs.length<sizeLine:=by
      rw [ZC,r3.length];omega
     refine QL (Zy (X:=Y) _ s8 σ6 H8 (.ref s2.heap.objs.size) [y'] (.ref s2.heap.objs.size) [y] (fun v' H'=>H'=upd H8 s2.heap.objs.size (.lst (xs++[y']))) I8 rfl (.cons ry8 .nil) ⟨_,xs,y',rfl,rfl,a8,len8,rfl⟩) fun _ s9 ⟨v9,H9,I9,_,hH9⟩=>?_
     subst hH9
     obtain ⟨k1,k2,k3⟩:=back I9
     rw [yK,yH] at rs8
     rw [yK] at rp8
     refine ⟨_,by omega,i+1,σ6,_,F8,en6,xs++[y'],done++[dy],rest',rfl,hi,k1,k2,k3,HP rs8 hacc n8,QQ,n8,(r3.mono sm8).append (.cons rp8 .nil),q10,?_,?_⟩
     ·rw [List.append_assoc];rw [<- tot3,<- q11];rfl
     ·rw [List.length_append,List.length_singleton];omega
   ·have hzz:ds.drop i=[]:=List.drop_eq_nil_of_le hi
    rw [hzz] at q3
    obtain rfl:=Option.some.inj q3
    rw [List.append_nil] at tot3
    subst tot3
    refine QL (T'.done Y rfl rfl rfl yc i [] s3 σ3 H3 Y.xe I3 (stat fr3) st3 (io.stop i F3 H3 gr3.ff rs3.fh rs3.hh hi)) ?_
    rintro r s4 ⟨hr,I4'⟩
    subst hr
    exact hR s4 H3 F3 xs σ3 I4' gr3 fa3 ha3 r3
  ·rw [QB (nofp b hb)];exact (fpo b hb).1.1
 have I3:Inv X pins σ H2 { s2 with heap:=s2.heap.push { cls:=.type "list",data:=.seq #[] } }:=I2.kept (t':=s2.toks) fun b o e=>Heap.get?_push_of_some _ e
 have fin:∀ s' H' F' xs m,Inv (Vn X scope N' cl (s2.heap.objs.size+1) (s2.heap.objs.size::fp) { s2 with heap:=s2.heap.push { cls:=.type "list",data:=.seq #[] } } H2 (X.pn++pins)) [] m H' s'->Gr F2 H2 F' H'->F' s2.heap.objs.size=none->H' s2.heap.objs.size=some (.lst xs)->Reps X.K F' xs tot ->
   compPost (model X.prog X.w) X.A X.xe use Qv (.ref s2.heap.objs.size) (s2.heap.objs.size+1) (.ok .next) s':=by
  intro s' H' F' xs m I' g' fa ha r'
  obtain ⟨mm,hn',_⟩:=id I'.loc
  have fC:H' (s2.heap.objs.size+1)=none:=I'.free
  have IX:Inv X pins σ H' s':=I3.call' (s':=s') (ch:=s2.heap.objs.size::fp) I'.os I'.base I'.hok I'.bare fun b hb=>by
   rcases List.mem_cons.mp hb with w | w
   ·obtain ⟨_,q1,_,q3,q4,q5⟩:=I2.fpOk (b:=b) (H':=H2) (by rw [w];exact Nat.le_refl _) (by rw [w];exact hacc)
    exact ⟨q3,q1,q4,q5⟩
   ·obtain ⟨⟨_,q1,_,q3,q4,q5⟩,_⟩:=fpo b w
    exact ⟨q3,q1,q4,q5⟩
  exact fin0 s2.heap.objs.size (s2.heap.objs.size+1) s' H' F' xs mm (gr.hh.none hacc) IX (I2.fpOk (H':=H') (Nat.le_succ _) fC) hn' (gr.trans g') fa ha r'
 have st1:tn 0 h1:=T.keep 0 _ _ st2 (fun b hb o e=>old b o (Heap.get?_push_of_some _ e))
 have L:=loop (compPost (model X.prog X.w) X.A X.xe use Qv (.ref s2.heap.objs.size) (s2.heap.objs.size+1)) fin
 show codeAny (model X.prog X.w) X.A (.compStart (.ListComp elt [⟨tg,iter,ifs,0⟩] scope pos) 0 (.ref ita) (.ref s2.heap.objs.size) (compEnvC scope cl (s2.heap.push { cls:=.type "list",data:=.seq #[] }).objs.size X.env)) (compPost (model X.prog X.w) X.A X.xe use Qv (.ref s2.heap.objs.size) (s2.heap.push { cls:=.type "list",data:=.seq #[] }).objs.size) _
 rw [hz]
 exact codeAny_compStart_list L (T.self _ 0 _ _ _ st1 L)
theorem Hx {pins:List (Addr×Obj)} {σ:L2.St} {H:Hp} {s:Shared} {C:Addr} {h':Heap} (I:Inv X pins σ H s) (f:ZP X pins H C) (sb:Heap.SameBut C s.heap h'):Inv X pins σ H { s with heap:=h' }:=by
 obtain ⟨f0,f1,_,f3,f4,f5⟩:=f
 exact I.turned (t':=s.toks) (fun b o hb e=>(sb.2 b hb).trans e) f0 f1 f3 f4 f5
theorem Ym (hx:X.xe=fun _ _=>False) (hc:X.calm=true) (S:CompSc X scope n N' caps) (hO:∀ i∈caps,i∉O) (hi:PI X tg iter (tIH X O it)) (hg:Yj X scope N' fun Y=>PG Y tg (tG Y [] [] g)) (ht:Yj X scope N' fun Y=>Us Y ifs (tDT Y [] c)) (he:Yj X scope N' fun Y=>PE Y elt (tD Y [] el))
  (hs:∀ x,foldedSetIterable iter X.env x=pure x:=by intro _;rfl):PE X (.ListComp elt [⟨tg,iter,ifs,0⟩] scope pos) (tO X O (JV n caps it g c el)):=by
 intro pins s σ H Q I ⟨F0,F,en,d,rs,z,k⟩
 obtain ⟨ds,e1,e2⟩:=QR z
 split at e2
 case isFalse=>simp at e2
 case isTrue hlen =>
 obtain ⟨tot,e3,rfl⟩:=JQ e2
 rw [eval_ListComp]
 refine LZ hx hc S hO hi hg ht he hs (use:=none) I rs e1 hlen e3 fun acc C s' H' F' xs m n1 I' fC hn gr fa ha r'=>?_
 exact ⟨m,hn,fun h' sb=>⟨.ref acc,H',Hx I' fC sb,rfl,k acc none xs tot F' H' gr n1 fa ha r' rfl trivial⟩⟩
theorem El (i:Nat) {x:Str} {p spos:Pos} {OL:List Nat} {w:Bool} (hN:X.N.Nodup) (hx:X.xe=fun _ _=>False) (hc:X.calm=true) (S:CompSc X scope n N' caps) (hO:∀ i∈caps,i∉O) (hi:PI X tg iter (tIH X O it)) (hg:Yj X scope N' fun Y=>PG Y tg (tG Y [] [] g)) (ht:Yj X scope N' fun Y=>Us Y ifs (tDT Y [] c)) (he:Yj X scope N' fun Y=>PE Y elt (tD Y [] el))
  (hxi:X.N[i]?=some x:=by rfl) (hlx:VC X.env.scope x:=by first | exact Or.inl rfl | exact Or.inr rfl) (hf:X.fn x=true\/X.env.scope.names.lookup x=some .local:=by first | exact .inl rfl | exact .inr rfl)
  (hsw:swapsWith (.ListComp elt [⟨tg,iter,ifs,0⟩] scope pos) (some (.Name x p)) spos.line X.env=pure true:=by rfl) (hs:∀ x,foldedSetIterable iter X.env x=pure x:=by intro _;rfl) (hq:Qe i∉O:=by decide) (hil:i<1000:=by decide) :
  PS X (.Assign [.Name x p] (.ListComp elt [⟨tg,iter,ifs,0⟩] scope pos) spos) (tS X O (ad i O) OL w (QE (JV n caps it g c el) (gS i))):=by
 intro pins s σ H Dn I ⟨F0,F,en,fl,rs,z,k⟩
 obtain ⟨d,z1,z2⟩:=QR z
 obtain ⟨en',z3,rfl⟩:=JQ z2
 obtain rfl:=Option.some.inj z3
 obtain ⟨ds,e1,e2⟩:=QR z1
 split at e2
 case isFalse=>simp at e2
 case isTrue hlen =>
 obtain ⟨tot,e3,rfl⟩:=JQ e2
 rw [exec_Assign_Name_used _ _ _ _ hsw]
 refine wpAny_bind (wpAny_standAt (wpAny_bind ?_))
 show wpAny _ X.A (do let _ <- comprehension (.ListComp elt [⟨tg,iter,ifs,0⟩] scope pos) scope X.env _ (newList []) false (eval iter X.env) (some (assign (.Name x p) X.env))) _ _ s
 refine wpAny_bind (QL (LZ hx hc S hO hi hg ht he hs (use:=some (assign (.Name x p) X.env)) (Qv:=fun _ s'=>SP X pins Dn .next s') I rs e1 hlen e3 fun acc C s' H' F' xs m n1 I' fC hn gr fa ha r'=>?_) fun _ s' hq=>wpAny_pure (wpAny_pure hq))
 show wpAny _ X.A (assign (.Name x p) X.env (.ref acc)) _ _ s'
 refine wpAny_assign_Name (Hk I' hN hxi hlx (show RelV (.ref acc) (.ref acc) from rfl) (fun s'' I'' hch=>?_) hf)
 obtain ⟨a,sb,ha'⟩:=hch
 have hCa:C≠a:=by
  obtain ⟨_,f1,_,_,f4,_⟩:=fC
  rcases ha' with q | q
  ·rw [q];exact f1
  ·exact fun zz=>f4 x a q zz.symm
 have rs':=rs.grow gr
 refine ⟨m,hn.sameBut sb hCa,fun h' sb'=>⟨_,H',Hx I'' fC sb',k _ F' H' gr.ff (rs'.putO' (kk:=none) i (rs.hh.none n1) fa ha trivial r' (fun j d' hj q2 _ q=>?_) hq (fun j z=>by unfold Qe at z;omega))⟩⟩
 obtain ⟨p',_,ys,es,h1,_,_,h4,_⟩:=rs.own j d' q2 hj
 rw [h1] at q
 cases q
 rw [n1] at h4
 simp at h4
end
end Wd
namespace Wd
open PySem PySem.Spec PyProof.Rows L2
theorem D8 (cps:Array Nat) (i k:Nat):((List.range k).map fun m=>i+m).filterMap (cps[·]?)=(cps.toList.drop i).take k:=by
 rw [List.filterMap_map]
 induction k generalizing i with
 | zero=>simp
 | succ k ih =>
  rw [List.range_succ_eq_map,List.filterMap_cons,List.filterMap_map]
  have e0:((fun x=>cps[x]?)∘fun m=>i+m) 0=cps[i]?:=by simp
  have e1:(((fun x=>cps[x]?)∘fun m=>i+m)∘Nat.succ)=((fun x=>cps[x]?)∘fun m=>(i+1)+m):=by
   funext m;simp only [Function.comp];rw [show i+Nat.succ m=i+1+m by omega]
  rw [e0,e1,ih (i+1)]
  cases q:cps[i]? with
  | none =>
   have hz:cps.toList.length<=i:=by
    rcases Nat.lt_or_ge i cps.size with h | h
    ·rw [Array.getElem?_eq_getElem h] at q;simp at q
    ·simpa using h
   rw [List.drop_eq_nil_of_le hz,List.drop_eq_nil_of_le (Nat.le_succ_of_le hz)];simp
  | some v =>
   have hi:i<cps.toList.length:=by
    rcases Nat.lt_or_ge i cps.size with h | h
    ·simpa using h
    ·rw [Array.getElem?_eq_none h] at q;simp at q
   have hv:cps.toList[i]=v:=by
    have:cps.toList[i]?=some v:=by simpa using q
    rw [List.getElem?_eq_getElem hi] at this
    exact Option.some.inj this
   rw [List.drop_eq_getElem_cons hi,hv,List.take_succ_cons]
theorem LV (v:Option Int) (n d:Nat) (hd:d<=n):(match v with | none=>(d:Int) | some i=>max 0 (min (if i<0 then i+(n:Int) else i) (n:Int)))=((Jx n d v:Nat):Int):=by
 cases v with
 | none=>rfl
 | some i=>exact Rb i n
theorem QbE (a b:Nat):sliceRange (a:Int) (b:Int) 1=(List.range (b-a)).map fun m=>a+m:=by
 unfold sliceRange
 simp only [show (1:Int) > 0 by decide,if_true]
 have hc:(if (a:Int)<(b:Int) then ((b:Int)-(a:Int)+1-1)/1 else 0).toNat=b-a:=by
  split
  ·rw [Int.ediv_one,Int.add_sub_cancel,Int.toNat_sub]
  ·exact (Nat.sub_eq_zero_of_le (Int.ofNat_le.mp (Int.not_lt.mp ‹_›))).symm
 rw [hc]
 apply List.map_congr_left
 intro m _
 rw [Int.one_mul]
 exact Int.toNat_natCast (a+m)
theorem DX (lo hi:Option Int) (n:Nat):Builtin.Str.strSliceIndices lo hi 1 n=(List.range (Jx n n hi-Jx n 0 lo)).map fun m=>Jx n 0 lo+m:=by
 rw [<- QbE]
 unfold Builtin.Str.strSliceIndices
 simp only [show (1:Int) > 0 by decide,if_true]
 have h1:=LV lo n 0 (Nat.zero_le _)
 have h2:=LV hi n n (Nat.le_refl _)
 cases lo<;>cases hi<;>dsimp only at h1 h2 ⊢<;>rw [<- h1,<- h2]<;>rfl
theorem QbG (x:Str) (lo hi:Option Int):Txt.slice x lo hi=VG x lo hi:=by
 unfold Txt.slice VG Jf
 have hl:x.cps.toList.length=x.length:=by simp [Str.length]
 rw [DX,List.length_map,List.length_range,hl]
 split
 ·rename_i h
  have h':Jx x.length x.length hi-Jx x.length 0 lo=x.length:=by simpa using h
  have b1:Jx x.length x.length hi<=x.length:=by
   cases hi with
   | none=>exact Nat.le_refl _
   | some v=>simp only [Jx];split<;>omega
  by_cases z:x.length=0
  ·have:x.cps.toList=[]:=List.length_eq_zero_iff.mp (by rw [hl];exact z)
   obtain ⟨c⟩:=x
   have hc:c=#[]:=by simpa using this
   subst hc
   simp
  ·have b2:Jx x.length 0 lo=0:=by omega
   rw [h',b2,List.drop_zero,<- hl,List.take_length]
 ·rw [D8]
section
variable {X:Cx} {O:List Nat} {e a b:Expr} {pos:Pos}
def Qaq:V->Option Int->Option Int->Hp->VK->Prop:=fun x lo hi H Q=>∃ z,x=.str z/\z.length<=sizeLine/\Q (.str (VG z lo hi)) H
theorem IW {v:Value} {o:Option Int} (p:IsPart v o):∃ l:Option (Int×Tok),partValue l=v/\l.map (·.1)=o:=by
 cases p with
 | none=>exact ⟨none,rfl,rfl⟩
 | int i t=>exact ⟨some (i,t),rfl,rfl⟩
theorem QbA:SlR X Qaq:=by
 intro pins s σ H x v vl vu lo hi sl Q I rx hs pl pu h
 obtain ⟨z,rfl,hz,q⟩:=h
 obtain ⟨t,rfl⟩:=(show ∃ t,v=Value.str z t from rx)
 obtain ⟨l,rfl,rfl⟩:=IW pl
 obtain ⟨u,rfl,rfl⟩:=IW pu
 refine ⟨"str",_,F.slot_str_getitem.lookup,typeIs_str _ _ _,wpAny_getItem_str_slice (l:=l) (u:=u) (st:=none) hs rfl ?_⟩
 have e:=QbG z (l.map (·.1)) (u.map (·.1))
 refine post_val_or_str ⟨?_,fun t' k=>?_⟩
 ·exact Nat.le_trans (Txt.slice_le z (l.map (·.1)) (u.map (·.1))) hz
 ·have:EP X pins σ Q (.str (Txt.slice z (l.map (·.1)) (u.map (·.1))) t') { s with toks:=k }:=by
   rw [e];exact ⟨.str (VG z _ _),H,I.tok k,⟨t',rfl⟩,q⟩
  exact this
theorem T7 {ev:Q4} {lo hi:Option Expr} {el eh:Wb} {p2:Pos} (he:PE X e (tR X O ev)) (hl:PO X lo (tOI X O el)) (hu:PO X hi (tOI X O eh)):PE X (.Subscript e (.Slice lo hi none p2) pos) (tD X O (YW ev el eh)) :=
 PE.imp (Ao (SlR.or QbA (SlR.or Qbz QbB)) he hl hu) <| by
  rintro σ H Q ⟨F0,F,en,d,rs,w,k⟩
  obtain ⟨dx,e1,w1⟩:=QR w
  obtain ⟨l,u,e2,e3,e4⟩:=Yk w1
  refine ⟨F0,F,en,dx,rs,e1,fun x F1 H1 g1 r1=>?_⟩
  refine ⟨F0,F1,en,l,rs.grow g1,e2,fun F2 H2 g2=>?_⟩
  refine ⟨F0,F2,en,u,(rs.grow g1).grow g2,e3,fun F3 H3 g3=>?_⟩
  have g13:=(g1.trans g2).trans g3
  have r3:=(r1.gr g2).gr g3
  have s3:=g3.fh
  cases dx with
  | str z =>
   simp only [Xd] at e4
   split at e4
   ·rename_i hz
    obtain rfl:=Option.some.inj e4
    exact .inl ⟨z,r3.str,by rw [ZC];exact hz,k _ F3 H3 g13 (.str _)⟩
   ·simp at e4
  | lst ds =>
   obtain rfl:=Option.some.inj e4
   obtain ⟨p,xs,rfl,h,r⟩:=r3.lst s3
   refine .inr (.inl ⟨p,xs,rfl,SqL.of h,fun q hq=>?_⟩)
   have g:=Gr.new s3 hq (.lst (Zr xs l u))
   exact k _ _ _ (g13.trans g) (.lst QQ ((Rh r l u).mono g.ff))
  | scr ns =>
   obtain rfl:=Option.some.inj e4
   obtain ⟨p,rfl,h⟩:=r3.scr
   refine .inr (.inl ⟨p,_,rfl,s3.sqL h,fun q hq=>?_⟩)
   have g:=Gr.new s3 hq (.lst (Zr (ns.map V.int) l u))
   have r:Reps X.K F3 (Zr (ns.map V.int) l u) (Jf (ns.map D.int) l u):=Rh (Reps.ints ns) l u
   have hc:Jf (ns.map D.int) l u=(Jf ns l u).map D.int:=by unfold Jf;rw [List.length_map,<- List.map_drop,<- List.map_take]
   rw [hc] at r
   exact k _ _ _ (g13.trans g) (.lst QQ (r.mono g.ff))
  | tup ds =>
   have e5:(if Jx ds.length 0 l=0/\Jx ds.length ds.length u=ds.length then none else some (D.tup (Jf ds l u)))=some d:=e4
   split at e5
   ·simp at e5
   ·rename_i hw
    obtain rfl:=Option.some.inj e5
    obtain ⟨p,xs,rfl,h,r⟩:=r3.tup
    refine .inr (.inr ⟨p,xs,rfl,SqT.of (s3 _ _ h),?_,fun q hq=>?_⟩)
    ·rw [r.length];exact hw
    ·have g:=Gr.new s3 hq (.tup (Zr xs l u))
     exact k _ _ _ (g13.trans g) (.tup QQ ((Rh r l u).mono g.ff))
  | _=>cases e4
theorem KA (c:Array Nat):∀ (k:Nat) (acc:Array Nat),(List.replicate k c).foldl (·++·) acc=(acc.toList++(List.replicate k c.toList).flatten).toArray
 | 0,acc=>by simp
 | k+1,acc=>by rw [List.replicate_succ,List.foldl_cons,KA c k,List.replicate_succ,List.flatten_cons];simp
theorem Cn (x:Str) (n:Int):Txt.mul x n=Xw x n:=by
 unfold Txt.mul Xw
 split
 ·rename_i h
  rw [show n.toNat=0 by omega];rfl
 ·split
  ·rename_i h1 h2
   by_cases z:n=1
   ·subst z
    obtain ⟨c⟩:=x
    simp
   ·have hx:x.length=0:=by
     rcases Bool.or_eq_true _ _ |>.mp h2 with w | w
     ·exact absurd (eq_of_beq w) z
     ·exact eq_of_beq w
    obtain ⟨c⟩:=x
    have hc:c=#[]:=by simpa [Str.length] using hx
    subst hc
    simp
  ·rw [KA];simp
def O3:R2:=fun x y H Q=>∃ z n,x=.str z/\y=.int n/\-1073741824<n/\n<1073741824/\z.length*n.toNat<=Qc/\Q (.str (Xw z n)) H
theorem AQ:OpR X (binaryOp .Mult) O3:=by
 intro pins s σ H x y v u Q I rx ry h
 obtain ⟨z,n,rfl,rfl,h1,h2,h3,q⟩:=h
 obtain ⟨t,rfl⟩:=(show ∃ t,v=Value.str z t from rx)
 obtain ⟨t2,rfl⟩:=(show ∃ t,u=Value.int n t from ry)
 have ok:MulOk z n:=by
  refine ⟨?_,fun hn hc=>?_,fun hn hc=>?_⟩
  ·rw [decide_eq_false (by omega),decide_eq_false (by omega)];rfl
  ·have hz:z.length<=Qc:=by
    have:1<=n.toNat:=by omega
    exact Nat.le_trans (Nat.le_mul_of_pos_right _ this) h3
   have:(9223372036854775807:Int)/n ≥ 8589934591:=by
    apply Int.le_ediv_of_mul_le (by omega)
    omega
   have e:((2:Int)^63-1)=9223372036854775807:=by decide
   rw [e]
   unfold Qc at hz
   omega
  ·have h4:z.length*n.toNat<=sizeLine:=by rw [ZC];exact h3
   unfold Builtin.Str.tooLong
   simpa using h4
 exact SB.mul ok fun t' k=>by rw [Cn];exact ⟨.str (Xw z n),H,I.tok k,⟨t',rfl⟩,q⟩
theorem Z5:OpR X (binaryOp .Mult) (fun x y H Q=>(rI CMul fun i j=>.int (i*j)) x y H Q\/(O3 x y H Q\/O4 x y H Q))/\J8 X (fun x y H Q=>(rI CMul fun i j=>.int (i*j)) x y H Q\/(O3 x y H Q\/O4 x y H Q)) D.mulA:=by
 refine ⟨OpR.or IQ (OpR.or AQ AU),fun F H x y dx dy d Q s rx ry e k=>?_⟩
 cases dx<;>cases dy<;>try (simp [D.mulA] at e;done)
 case int.int i j=>exact .inl (AO.2 F H x y (.int i) (.int j) d Q s rx ry e k)
 case str.int z n =>
  simp only [D.mulA] at e
  split at e
  ·rename_i h
   obtain rfl:=Option.some.inj e
   exact .inr (.inl ⟨z,n,rx.str,ry.int,h.1,h.2.1,h.2.2,k _ F H (.refl s) (.str _)⟩)
  ·simp at e
 case lst.int ds n =>
  simp only [D.mulA] at e
  split at e
  ·rename_i h
   obtain rfl:=Option.some.inj e
   obtain ⟨p,xs,rfl,hp,r⟩:=rx.lst s
   refine .inr (.inr ⟨p,n,xs,rfl,ry.int,hp,by omega,by omega,by rw [ZC,r.length];exact h.2.2,fun q hq=>?_⟩)
   have g:=Gr.new s hq (.lst (List.replicate n.toNat xs).flatten)
   have rr:Reps X.K F (List.replicate n.toNat xs).flatten (List.replicate n.toNat ds).flatten:=by
    generalize n.toNat=m
    induction m with
    | zero=>exact .nil
    | succ m ih=>rw [List.replicate_succ,List.replicate_succ,List.flatten_cons,List.flatten_cons];exact r.append ih
   exact k _ _ _ g (.lst QQ (rr.mono g.ff))
  ·simp at e
end
end Wd
namespace Wd
open PySem PySem.Spec PyProof.Rows L2
section
variable {X:Cx} {O:List Nat} {e a b:Expr} {pos:Pos}
theorem K8 {K:Fg} {F H:Hp} {x:V} {d:D} (r:RdD K F H x d) (h:ZT d=true):Y9 x=true/\Rep K F x d:=by
 cases d with
 | str z=>rw [r.str];exact ⟨rfl,.str z⟩
 | _=>cases h
theorem D3 {K:Fg} {F:Hp} {x y:V} {dx dy:D} (rx:Rep K F x dx) (ry:Rep K F y dy) (hx:ZT dx=true) (hy:ZT dy=true):YY y x=(D.eq dy dx==some true):=by
 cases rx with
 | str p=>cases ry with
  | str q =>
   rw [VH]
   show (q==p)=(some (decide (q=p))==some true)
   by_cases z:q=p
   ·rw [decide_eq_true z,z,beq_self_eq_true];rfl
   ·rw [decide_eq_false z,beq_eq_false_iff_ne.mpr z];rfl
  | _=>cases hy
 | _=>cases hx
theorem KJ {K:Fg} {F:Hp} {x:V} {dx:D} (rx:Rep K F x dx) (hx:ZT dx=true) {ys:List V} {ds:List D} (h:Reps K F ys ds) (hd:ds.all ZT=true):inV x ys=inD dx ds/\ys.all Y9=true:=by
 refine h.ind (M:=fun ys ds=>ds.all ZT=true->inV x ys=inD dx ds/\ys.all Y9=true) (fun _=>⟨rfl,rfl⟩) (fun h r ih hd=>?_) hd
 rw [List.all_cons,Bool.and_eq_true] at hd
 obtain ⟨i1,i2⟩:=ih hd.2
 refine ⟨?_,?_⟩
 ·unfold inV at i1 ⊢
  rw [List.any_cons,i1,D3 rx h hx hd.1]
  rfl
 ·rw [List.all_cons,i2,(K8 (H:=F) (.inl h) hd.1).1];rfl
theorem AI {neg:Bool} {op:CmpOp} {g:D->D->Option D} (hr:OpR X (compareOp op) (WN X.K neg))
  (h1:∀ dx dy d,g dx dy=some d->∃ ys,(dy=.tup ys\/dy=.lst ys)/\ZT dx=true/\ys.all ZT=true/\d=.bl (if neg then !inD dx ys else inD dx ys)):OpR X (compareOp op) (WN X.K neg)/\J8 X (WN X.K neg) g:=by
 refine ⟨hr,fun F H x y dx dy d Q s rx ry e k=>?_⟩
 obtain ⟨ys,hy,fx,fy,rfl⟩:=h1 dx dy d e
 obtain ⟨fv,rp⟩:=K8 rx fx
 rcases hy with rfl | rfl
 ·obtain ⟨p,xs,rfl,hp,r⟩:=ry.tup
  obtain ⟨i1,i2⟩:=KJ rp fx r fy
  refine ⟨p,xs,rfl,.inr (SqT.of (s _ _ hp)),fv,i2,?_⟩
  rw [i1];exact k _ F H (.refl s) (.bl _)
 ·obtain ⟨p,xs,rfl,hp,r⟩:=ry.lst s
  obtain ⟨i1,i2⟩:=KJ rp fx r fy
  refine ⟨p,xs,rfl,.inl (SqL.of hp),fv,i2,?_⟩
  rw [i1];exact k _ F H (.refl s) (.bl _)
theorem AH:OpR X (compareOp .In) (WN X.K false)/\J8 X (WN X.K false) D.inO:=AI IL fun dx dy d e=>by
 unfold D.inO at e
 split at e
 ·split at e
  ·rename_i ys h;obtain rfl:=Option.some.inj e;exact ⟨ys,.inl rfl,h.1,h.2,rfl⟩
  ·simp at e
 ·split at e
  ·rename_i ys h;obtain rfl:=Option.some.inj e;exact ⟨ys,.inr rfl,h.1,h.2,rfl⟩
  ·simp at e
 ·simp at e
theorem Rj {x:Str} {p:Pos} {ev:Q4} (hg:Gl X x) (hm:X.mg x=none) (hv:bootBuiltins x=some (.type "list")) (ha:PE X a (tR X O ev)) (hn:x≠"__name__":=by decide) (hdb:(x==("__debug__":Str))=false:=by decide)
  (he:starEach [a] X.env=[(false,eval a X.env)]:=by rfl):PE X (.Call (.Name x p) [a] [] pos) (tO X O (QA D.listOf ev)) :=
 PE.imp (Ig Gw hg hm hv (VU ha he) hn hdb he rfl) <| by
  rintro σ H Q ⟨F0,F,en,d,rs,w,k⟩
  obtain ⟨dx,e1,e2⟩:=QR w
  refine ⟨F0,F,en,dx,rs,e1,fun v F1 H1 g1 r1=>?_⟩
  have fin:∀ (l:Addr) (xs:List V) (ds:List D),(SqL X.K H1 l xs\/SqT X.K H1 l xs)->Reps X.K F1 xs ds->d=.lst ds->∃ p ys,[V.ref l]=[.ref p]/\(SqL X.K H1 p ys\/SqT X.K H1 p ys)/\∀ l,H1 l=none->Q (.ref l) (upd H1 l (.lst ys)):=fun l xs ds hl r hd =>
   ⟨l,xs,rfl,hl,fun q hq=>k q none xs ds F1 _ (g1.trans (Gr.newO g1.fh hq (.lst xs))) (g1.hh.none hq) (g1.fh.none hq) QQ r hd trivial⟩
  cases dx with
  | lst ds=>obtain rfl:=Option.some.inj e2;obtain ⟨l,xs,rfl,h,r⟩:=r1.lst g1.fh;exact fin l xs ds (.inl (SqL.of h)) r rfl
  | tup ds=>obtain rfl:=Option.some.inj e2;obtain ⟨l,xs,rfl,h,r⟩:=r1.tup;exact fin l xs ds (.inr (SqT.of (g1.fh _ _ h))) r rfl
  | scr ns=>obtain rfl:=Option.some.inj e2;obtain ⟨l,rfl,h⟩:=r1.scr;exact fin l _ _ (.inl (g1.fh.sqL h)) (Reps.ints ns) rfl
  | _=>cases e2
theorem Qck {vs:List V} {us:List Value} (r:Vals vs us) {i:Nat} {u:Value} (h:us[i]?=some u):∃ v,vs[i]?=some v/\RelV v u:=by
 have hl:=r.length
 rcases Nat.lt_or_ge i vs.length with hi | hi
 ·obtain ⟨u',h1,h2⟩:=r.get (List.getElem?_eq_getElem hi)
  rw [h] at h1
  obtain rfl:=Option.some.inj h1
  exact ⟨_,List.getElem?_eq_getElem hi,h2⟩
 ·rw [List.getElem?_eq_none (by omega)] at h;simp at h
theorem Qco {pins:List (Addr×Obj)} {σ:L2.St} {H:Hp} {s:Shared} {l:Addr} {us:List Value} {A:Around} {E:Value->Shared->Prop} {Q:Value->Shared->Prop} (I:Inv X pins σ H s) (hh:A.handled=none) (hp:PlainL s.heap l us.toArray)
  (h:∀ s₂:Shared,Walks X.prog X.w A s.heap.objs.size [s.heap.objs.size,l] [s.heap.objs.size] us.toArray.size (fun i v=>us.toArray[i]?=some v) (fun i h=>h.IsListIter s.heap.objs.size l i/\h.IsList l us.toArray) ->
   (s₂.heap.IsListIter s.heap.objs.size l 0/\s₂.heap.IsList l us.toArray)->(∀ b∈[s.heap.objs.size,l],b<s₂.heap.objs.size) ->
   (∀ (h':Heap) (tk:Nat),(∀ b o,b∉[s.heap.objs.size]->s₂.heap.get? b=some o->h'.get? b=some o)->Inv X pins σ H { s₂ with heap:=h',toks:=tk })->Q (.ref s.heap.objs.size) s₂) :
  wpAny (model X.prog X.w) A (pyIter (.ref l)) Q E s:=by
 have hlt:l<s.heap.objs.size:=by obtain ⟨_,_,e,_⟩:=hp;exact Heap.lt_size e
 refine wpAny_pyIter_list hp.isList (h _ (Walks.list hh _ l (Nat.ne_of_lt hlt) us.toArray) ⟨⟨_,Heap.get?_push_size _ rfl,rfl,rfl⟩,hp.isList.push _⟩ (fun b hb=>?_) fun h' tk hk=>?_)
 ·show b<(s.heap.push _).objs.size
  rw [Heap.size_push]
  rcases List.mem_cons.mp hb with rfl | hb
  ·exact Nat.lt_succ_self _
  ·rw [List.mem_singleton.mp hb];exact Nat.lt_succ_of_lt hlt
 ·exact I.kept (t':=tk) fun b u e=>hk b u (fun z=>by
   rw [List.mem_singleton.mp z] at e
   exact absurd (Heap.lt_size e) (Nat.lt_irrefl _)) (Heap.get?_push_of_some _ e)
theorem Rep.bI {K:Fg} {F:Hp} {v:V} {i:Bool} (h:Rep K F v (.bl i)):v=.bl i:=by cases h;rfl
theorem Gp {K:Fg} {F:Hp} {vs:List V} {ds:List D} {bs:List Bool} (h:Reps K F vs ds) (e:YQ ds=some bs):vs=bs.map V.bl:=by
 refine h.ind (M:=fun v d=>∀ ns,YQ d=some ns->v=ns.map V.bl) (fun ns e=>by obtain rfl:=Option.some.inj e;rfl) (fun {x d xs ds} h r ih ns e=>?_) bs e
 cases d with
 | bl i =>
  simp only [YQ] at e
  cases q:YQ ds with
  | none=>rw [q] at e;simp at e
  | some ms =>
   rw [q] at e
   obtain rfl:=Option.some.inj e
   rw [ih _ q,h.bI];rfl
 | _=>simp [YQ] at e
end
end Wd
namespace Wd
open PySem PySem.Spec PyProof.Rows L2
def Zq (osc:Scope) (oN:List Str) (scope:Scope) (n:Nat) (N':List Str) (caps:List Nat):Bool :=
 scope.kind==.function&&scope.names.all (fun y=>y.2 != .cell)&&scope.names.all (fun x=>x.2 != .local||scope.names.lookup x.1==some .local) &&
 scope.names.all (fun x=>x.2 != .free||osc.names.lookup x.1==some .cell||osc.names.lookup x.1==some .free)&&N'.length==n+caps.length &&
 (List.range caps.length).all (fun j=>match caps[j]?,N'[n+j]? with
  | some i,some x=>oN[i]?==some x&&scope.names.lookup x==some .free
  | _,_=>false)&&decide N'.Nodup
theorem YR {X:Cx} {scope:Scope} {n:Nat} {N':List Str} {caps:List Nat} (h:Zq X.env.scope X.N scope n N' caps=true):CompSc X scope n N' caps:=by
 unfold Zq at h
 simp only [Bool.and_eq_true,decide_eq_true_eq,beq_iff_eq,List.all_eq_true] at h
 obtain ⟨⟨⟨⟨⟨⟨h1,h2⟩,h3⟩,h4⟩,h5⟩,h6⟩,h7⟩:=h
 refine ⟨h1,fun y hy z=>?_,fun x hx z=>?_,fun x hx z=>?_,h5,fun j i hj=>?_,h7⟩
 ·have:=h2 y hy
  rw [z] at this
  simp at this
 ·have:=h3 x hx
  rw [z] at this
  simpa using this
 ·have:=h4 x hx
  rw [z] at this
  have q:List.lookup x.1 X.env.scope.names=some NameKind.cell\/List.lookup x.1 X.env.scope.names=some NameKind.free:=by simpa using this
  exact q
 ·have hl:j<caps.length:=by
   rcases Nat.lt_or_ge j caps.length with w | w
   ·exact w
   ·rw [List.getElem?_eq_none w] at hj;simp at hj
  have:=h6 j (List.mem_range.mpr hl)
  rw [hj] at this
  cases q:N'[n+j]? with
  | none=>rw [q] at this;simp at this
  | some x =>
   rw [q] at this
   simp only [Bool.and_eq_true,beq_iff_eq] at this
   exact ⟨x,rfl,this.1,this.2⟩
end Wd
namespace Wd
open PySem
section
variable {es:List Expr} {env:Env}
theorem Qbr {a b c}:starEach (.Constant a b c::es) env=(false,eval (.Constant a b c) env)::starEach es env:=rfl
theorem Qbu {a b}:starEach (.Name a b::es) env=(false,eval (.Name a b) env)::starEach es env:=rfl
theorem Qbp {a b c d}:starEach (.BinOp a b c d::es) env=(false,eval (.BinOp a b c d) env)::starEach es env:=rfl
theorem Qbq {a b c d}:starEach (.Call a b c d::es) env=(false,eval (.Call a b c d) env)::starEach es env:=rfl
theorem Qbv {a b c}:starEach (.Subscript a b c::es) env=(false,eval (.Subscript a b c) env)::starEach es env:=rfl
theorem Qbs {a b}:starEach (.List a b::es) env=(false,eval (.List a b) env)::starEach es env:=rfl
theorem Qbt {a b c d}:starEach (.ListComp a b c d::es) env=(false,eval (.ListComp a b c d) env)::starEach es env:=rfl
end
end Wd
namespace Wd
open PySem PySem.Spec PyProof.Rows L2
section
variable {X:Cx} {O:List Nat} {es:List Expr} {l:JT} {ea:Q4}
theorem Dk {a b c} (ha:PE X (.Constant a b c) (tD X O ea)) (hr:PA X es (tL X O l)):PA X (.Constant a b c::es) (tL X O (lC ea l)):=Vp ha hr Qbr
theorem Lj {a b} (ha:PE X (.Name a b) (tD X O ea)) (hr:PA X es (tL X O l)):PA X (.Name a b::es) (tL X O (lC ea l)):=Vp ha hr Qbu
theorem Db {a b c d} (ha:PE X (.BinOp a b c d) (tD X O ea)) (hr:PA X es (tL X O l)):PA X (.BinOp a b c d::es) (tL X O (lC ea l)):=Vp ha hr Qbp
theorem Dl {a b c d} (ha:PE X (.Call a b c d) (tD X O ea)) (hr:PA X es (tL X O l)):PA X (.Call a b c d::es) (tL X O (lC ea l)):=Vp ha hr Qbq
theorem Du {a b c} (ha:PE X (.Subscript a b c) (tD X O ea)) (hr:PA X es (tL X O l)):PA X (.Subscript a b c::es) (tL X O (lC ea l)):=Vp ha hr Qbv
theorem Xe {a b} (ha:PE X (.List a b) (tD X O ea)) (hr:PA X es (tL X O l)):PA X (.List a b::es) (tL X O (lC ea l)):=Vp ha hr Qbs
theorem ES {a b c d} (ha:PE X (.ListComp a b c d) (tD X O ea)) (hr:PA X es (tL X O l)):PA X (.ListComp a b c d::es) (tL X O (lC ea l)):=Vp ha hr Qbt
end
end Wd
namespace Wd
theorem X8 {n:Nat} {l:JT} (h:∀ (e:Q2) (d:List D),l e=some d->d.length<=n) (hn:n<=Qc):∀ (e:Q2) (d:List D),l e=some d->d.length<=Qc:=fun e d w=>Nat.le_trans (h e d w) hn
theorem Jr:∀ (e:Q2) (d:List D),lN e=some d->d.length<=Qc:=X8 (n:=0) X6 (by decide)
theorem V1 {p:Q4}:∀ (e:Q2) (d:List D),(lC p lN) e=some d->d.length<=Qc:=X8 (n:=1) (ZK X6) (by decide)
theorem V2 {p q:Q4}:∀ (e:Q2) (d:List D),(lC p (lC q lN)) e=some d->d.length<=Qc:=X8 (n:=2) (ZK (ZK X6)) (by decide)
theorem Zg {p q r:Q4}:∀ (e:Q2) (d:List D),(lC p (lC q (lC r lN))) e=some d->d.length<=Qc:=X8 (n:=3) (ZK (ZK (ZK X6))) (by decide)
theorem Yc {p q r t:Q4}:∀ (e:Q2) (d:List D),(lC p (lC q (lC r (lC t lN)))) e=some d->d.length<=Qc:=X8 (n:=4) (ZK (ZK (ZK (ZK X6)))) (by decide)
theorem Cc {p q r t u:Q4}:∀ (e:Q2) (d:List D),(lC p (lC q (lC r (lC t (lC u lN))))) e=some d->d.length<=Qc:=X8 (n:=5) (ZK (ZK (ZK (ZK (ZK X6))))) (by decide)
open PySem PySem.Spec PyProof.Rows L2
end Wd
namespace Wd
open PySem PySem.Spec PyProof.Rows L2
theorem Reps.snoc {K:Fg} {F:Hp} {xs:List V} {ds:List D} {v:V} {d:D} (r:Reps K F xs ds) (h:Rep K F v d):Reps K F (xs++[v]) (ds++[d]):=r.append (.cons h .nil)
section
variable {X:Cx} {O O' OL:List Nat} {w:Bool} {e a b:Expr} {pos:Pos}
end
end Wd
namespace Wd
open PySem PySem.Spec PyProof.Rows L2
def er (H:Hp) (p:Addr):Hp:=fun a=>if a=p then none else H a
theorem Rx {H:Hp} {p a:Addr} (h:a≠p):er H p a=H a:=if_neg h
theorem Sm.er {F H:Hp} (s:Sm F H) {p:Addr} (h:F p=Option.none):Sm F (er H p):=fun a o e=>by
 have:a≠p:=fun z=>by rw [z,h] at e;simp at e
 rw [Rx this];exact s a o e
section
variable {P:Program} {w:World} {K:Fg} {mg:Str->Option Value} {base:Heap} {x:Str} {st:Stmt} {N ps:List Str} {k:Nat} {b:Q8}
end
theorem RS.call {K:Fg} {H₀:Hp} {F0:Fz} {F H F' H':Hp} {σ:L2.St} {en:Q2} {O:List Nat} {i:Nat} {p:Addr} {d0:D} {kk:Option (List Kd)} {xs:List V} {es:List D} (r:RS K H₀ F0 F H σ en O) (hi:i∈O) (he:en[i]?=some (some d0)) (hσ:σ[i]?=some (some (.ref p))) (h0:F0.h p=none)
  (g:Gr F (er H p) F' H') (hf:F' p=none) (hp:H' p=some (ho kk xs)) (hk:Zo kk xs) (re:Reps K F' xs es):RS K H₀ F0 F' H' σ (en.set i (some (ZG kk es))) O :=
 have hl:i<en.length:=by
  cases Nat.lt_or_ge i en.length with
  | inl h=>exact h
  | inr h=>rw [List.getElem?_eq_none h] at he;simp at he
 {
 fh:=g.fh
 hh:=(r.hh.er h0).trans g.hh
 ff:=r.ff.trans g.ff
 fr:=fun a o e=>by
  rcases g.fr a o e with z | z
  ·exact r.fr a o z
  ·by_cases q:a=p
   ·rw [q,hf] at e;simp at e
   ·rw [Rx q] at z
    exact .inr (r.hh.none z)
 slot:=fun j d' e1 hj=>by
  have z:i≠j:=fun z=>hj (z▸hi)
  rw [JD hl,if_neg z] at e1
  obtain ⟨v,h1,h2⟩:=r.slot j d' e1 hj
  exact ⟨v,h1,h2.mono g.ff⟩
 own:=fun j d' e1 hj=>by
  rw [JD hl] at e1
  split at e1
  ·rename_i z;cases e1;subst z
   exact ⟨p,kk,xs,es,hσ,h0,hf,hp,re,rfl,hk⟩
  ·rename_i z
   obtain ⟨q,k2,ys,es2,h1,h2,h3,h4,h5,h6,h7⟩:=r.own j d' e1 hj
   have qp:q≠p:=fun w:q=p=>z (r.dis i j p _ _ hi hj he e1 hσ (by rw [<- w];exact h1))
   have e4:er H p q=some (ho k2 ys):=by rw [Rx qp];exact h4
   refine ⟨q,k2,ys,es2,h1,h2,?_,g.hh _ _ e4,h5.mono g.ff,h6,h7⟩
   cases w:F' q with
   | none=>rfl
   | some o =>
    rcases g.fr q o w with z2 | z2
    ·rw [h3] at z2;simp at z2
    ·rw [e4] at z2;simp at z2
 dis:=fun j k q d1 d2 hj hk' f1 f2 g1 g2=>by
  rw [JD hl] at f1 f2
  have k1:∃ d,en[j]?=some (some d):=by
   split at f1
   ·rename_i z;subst z;exact ⟨_,he⟩
   ·exact ⟨_,f1⟩
  have k2:∃ d,en[k]?=some (some d):=by
   split at f2
   ·rename_i z;subst z;exact ⟨_,he⟩
   ·exact ⟨_,f2⟩
  obtain ⟨_,k1⟩:=k1
  obtain ⟨_,k2⟩:=k2
  exact r.dis j k q _ _ hj hk' k1 k2 g1 g2
 pin:=r.pin
 len:=by rw [List.length_set];exact r.len }
section
variable {X:Cx} {O OL:List Nat} {w:Bool} {e a:Expr} {es:List Expr} {p pos cpos:Pos} {x y:Str} {ps:List Str} {k:Nat}
end
end Wd
namespace Wd
open PySem PySem.Spec PyProof.Rows L2
section
variable {X:Cx} {O:List Nat} {a b:Expr} {p pos:Pos}
end
end Wd
namespace Wd
open PySem PySem.Spec PyProof.Rows L2
section
variable {X:Cx} {O OL:List Nat} {w:Bool} {c:Expr} {body:List Stmt} {pos:Pos}
end
end Wd
namespace Wd
open PySem PySem.Spec PyProof.Rows L2
section
open PySem.SeqAt
open PySem.AutoSeq1 (wpAny_loadPart')
open PySem.MeetsSeq PySem.MeetsSeq2 PySem.MeetsSeq3
end
section
variable {X:Cx} {O:List Nat} {e a b c:Expr} {pos:Pos}
end
end Wd
namespace Wd
open PySem PySem.Spec PyProof.Rows L2
section
variable {P:Program} {w:World} {K:Fg} {mg:Str->Option Value} {base:Heap} {x:Str} {st:Stmt} {N ps:List Str} {k:Nat} {b:Q8}
end
section
variable {X:Cx} {O O' OL:List Nat} {w:Bool} {e a:Expr} {es:List Expr} {p pos cpos:Pos} {x y:Str} {ps:List Str} {k:Nat}
end
end Wd
namespace Wd
open PySem PySem.Spec PyProof.Rows L2
structure Passed (s₀:Heap) (H:Hp) (fs ch:List Addr) (ea:Addr) (h h':Heap):Prop where
 keep:∀ b o,h.get? b=some o->b∉fs->b≠ea->b∉ch->h'.get? b=some o
 slot:∀ b o,h.get? b=some o->b∈fs->∃ sl,h'.get? b=some { o with slots:=sl }
 ex:∀ oe vs,h.get? ea=some oe->oe.data=.fields vs->∃ vs',h'.get? ea=some { oe with data:=.fields vs' }/\vs'.size=vs.size/\vs'[0]?=vs[0]?
 ch0:∀ T∈ch,s₀.objs.size<=T/\H T=none/\∃ o ts,h.get? T=some o/\o.data=.fields ts
 cht:∀ T∈ch,∃ o,h'.get? T=some o
 fly:Fly s₀ H ea h'
section
variable {M:Model} {A:Around} {E:Value->Shared->Prop} {s:Shared}
theorem Kw {oe:Obj} {vs:Array Value} (hd:oe.data=.fields vs) (f:Array Value->Array Value):Obj.mapFields f oe={ oe with data:=.fields (f vs) }:=by
 obtain ⟨c,d,dt,sl⟩:=oe
 dsimp only at hd
 subst hd
 rfl
theorem S9 {base:Heap} {env:Env} {outer:List Env} {L ea:Addr} {oe:Obj} {vs:Array Value} {head:Value} {hadNext:Bool} {s₀:Heap} {H:Hp} {Q:Unit->Shared->Prop}
  (hfr:A.frames=some (env::outer)) (hl:s.heap.FunFrames base (env::outer)) (hf:env.frame=some L)
  (he:s.heap.get? ea=some oe) (hd:oe.data=.fields vs) (hsz:vs.size=6) (h0:s₀.objs.size<=ea) (hs:s₀.objs.size<=s.heap.objs.size) (hH:∀ a,s.heap.objs.size<=a->H a=none)
  (h:∀ h',Passed s₀ H (JH (env::outer)) [] ea s.heap h'->Q () { s with heap:=h' }) :
  wpAny M A (do let a <- frameOf env;let pl <- entryPlaceOf L hadNext;let b <- EntryCells.newEntry head a .none (rawInt L) .none pl;setField (.ref ea) 1 b) (fun _ s'=>wpAny M A (setFlight (.ref ea) none) Q E s') E s:=by
 have hene:ea∉(env::outer).filterMap (·.frame):=fun hm=>by
  obtain ⟨_,o,ho,hnf⟩:=hl.mem hm
  rw [he] at ho;injection ho with ho;subst ho;exact hnf vs hd
 have h1:1<vs.size:=by omega
 refine wpAny_bind (wpAny_frameOf_fun hfr hl hf fun h₁ hs₁=>?_)
 refine wpAny_bind (wpAny_entryPlaceOf fun pl hpl=>?_)
 unfold EntryCells.newEntry newFields
 refine wpAny_bind (wpAny_newObj_type ?_ (hpl.sizeOk5 _ _ _ _ _))
 have he₁:h₁.get? ea=some oe:=(hs₁.2.1 ea hene).trans he
 have he₂:=Heap.get?_push_of_some (h:=h₁) { cls:=.type "traceback",dict:=none,data:=.fields ([head,.ref L,.none,rawInt L,.none]++(if pl.isEmpty then List.replicate 6 Value.none else pl)).toArray } he₁
 refine wpAny_setField he₂ hd h1 ?_
 have hTe:h₁.objs.size≠ea:=Nat.ne_of_gt (Heap.lt_size he₁)
 have hd₃:=Obj.data_mapFields hd (·.setIfInBounds 1 (Value.ref h₁.objs.size))
 have he₃:=Heap.get?_update_self (Obj.mapFields (·.setIfInBounds 1 (Value.ref h₁.objs.size))) he₂ (Obj.isFreed_of_fields hd₃)
 have hT₃:=(Heap.get?_update_other (h₁.push { cls:=.type "traceback",dict:=none,data:=.fields ([head,.ref L,.none,rawInt L,.none]++(if pl.isEmpty then List.replicate 6 Value.none else pl)).toArray })
  (Obj.mapFields (·.setIfInBounds 1 (Value.ref h₁.objs.size))) (Ne.symm hTe)).trans (Heap.get?_push_size h₁ rfl)
 unfold setFlight
 refine wpAny_bind (wpAny_field he₃ hd₃ (x:=.ref h₁.objs.size) (by simp [h1]) ?_)
 rw [if_pos (show (Value.ref h₁.objs.size != Value.none)=true from by simp)]
 refine wpAny_setField hT₃ rfl (by simp only [List.size_toArray,List.length_append,List.length_cons,List.length_nil]<;>omega) (h _ ?_)
 have keep:∀ b o,b≠ea->h₁.get? b=some o ->
   (((h₁.push { cls:=.type "traceback",dict:=none,data:=.fields ([head,.ref L,.none,rawInt L,.none]++(if pl.isEmpty then List.replicate 6 Value.none else pl)).toArray }).update ea (Obj.mapFields (·.setIfInBounds 1 (Value.ref h₁.objs.size)))).update h₁.objs.size
    (Obj.mapFields (·.setIfInBounds 3 ((none:Option Addr).elim Value.none fun f=>rawInt f)))).get? b=some o:=fun b o hbe hb=>by
  have hbT:h₁.objs.size≠b:=Nat.ne_of_gt (Heap.lt_size hb)
  rw [Heap.get?_update_other _ _ hbT,Heap.get?_update_other _ _ (Ne.symm hbe)]
  exact Heap.get?_push_of_some _ hb
 have hes:=(Heap.get?_update_other ((h₁.push { cls:=.type "traceback",dict:=none,data:=.fields ([head,.ref L,.none,rawInt L,.none]++(if pl.isEmpty then List.replicate 6 Value.none else pl)).toArray }).update ea (Obj.mapFields (·.setIfInBounds 1 (Value.ref h₁.objs.size)))) (Obj.mapFields (·.setIfInBounds 3 ((none:Option Addr).elim Value.none fun f=>rawInt f))) hTe).trans he₃
 have hTs:=Heap.get?_update_self (Obj.mapFields (·.setIfInBounds 3 ((none:Option Addr).elim Value.none fun f=>rawInt f))) hT₃ (Obj.isFreed_of_fields (Obj.data_mapFields rfl _))
 have hsz1:s.heap.objs.size=h₁.objs.size:=hs₁.1.symm
 refine ⟨fun b o hb hbf hbe _=>keep b o hbe ((hs₁.2.1 b hbf).trans hb),fun b o hb hbf=>?_,fun oe' vs' he' hd'=>?_,(fun T hT=>nomatch hT),(fun T hT=>nomatch hT),⟨h0,_,_,hes,Obj.data_mapFields hd _,by simp [hsz],.inr ⟨h₁.objs.size,_,_,by simp [h1],by omega,hH _ (by omega),hTe,hTs,Obj.data_mapFields rfl _,?_⟩⟩⟩
 ·obtain ⟨sl,e⟩:=hs₁.2.2 b o hb
  exact ⟨sl,keep b _ (fun z=>hene (z▸hbf)) e⟩
 ·rw [he] at he';obtain rfl:=Option.some.inj he'
  rw [hd] at hd';cases hd'
  refine ⟨vs.setIfInBounds 1 (.ref h₁.objs.size),?_,by simp,by rw [Array.getElem?_setIfInBounds_ne (by decide)]⟩
  rw [hes,Kw hd]
 ·first | (simp;done) | (rcases hpl with rfl | ⟨_,_,_,_,_,_,_,rfl⟩<;>simp)
theorem Aa {base:Heap} {env:Env} {outer:List Env} {L ea:Addr} {s₀:Heap} {H:Hp} {Q:Unit->Shared->Prop}
  (hfr:A.frames=some (env::outer)) (hl:s.heap.FunFrames base (env::outer)) (hf:env.frame=some L) (hs:s₀.objs.size<=s.heap.objs.size) (hH:∀ a,s.heap.objs.size<=a->H a=none) (fly:Fly s₀ H ea s.heap)
  (h:∀ h' ch,Passed s₀ H (JH (env::outer)) ch ea s.heap h'->Q () { s with heap:=h' }) :
  wpAny M A (noteFrame (.ref ea) env) (fun _ s'=>wpAny M A (setFlight (.ref ea) none) Q E s') E s:=by
 obtain ⟨h0,oe,vs,he,hd,hsz,h1 | ⟨T,oT,ts,h1,hT0,hHT,hTe,hT,hdT,h3⟩⟩:=fly
 ·unfold noteFrame
  simp only [hf]
  refine wpAny_bind (wpAny_field he hd h1 ?_)
  rw [if_neg (by decide)]
  exact S9 hfr hl hf he hd hsz h0 hs hH fun h' p=>h h' [] p
 ·unfold noteFrame
  simp only [hf]
  refine wpAny_bind (wpAny_field he hd h1 ?_)
  rw [if_pos (show (Value.ref T != Value.none)=true from by simp)]
  refine wpAny_bind (wpAny_field hT hdT h3 ?_)
  rw [if_neg (show ¬ ((Value.none==rawInt L)=true) from by simp [rawInt])]
  refine wpAny_bind (wpAny_setField hT hdT (Array.getElem?_eq_some_iff.mp h3).1 ?_)
  have other:∀ b,b≠T->(s.heap.update T (Obj.mapFields (·.setIfInBounds 3 Value.none))).get? b=s.heap.get? b:=fun b hb=>Heap.get?_update_other _ _ (Ne.symm hb)
  have hTs:=Heap.get?_update_self (Obj.mapFields (·.setIfInBounds 3 Value.none)) hT (Obj.isFreed_of_fields (Obj.data_mapFields hdT _))
  have noT:∀ b o,s.heap.get? b=some o->(∀ vs,o.data≠.fields vs)->b≠T:=fun b o hb hnf q=>by
   rw [q,hT] at hb;injection hb with hb;subst hb;exact hnf ts hdT
  have hsz':(s.heap.update T (Obj.mapFields (·.setIfInBounds 3 Value.none))).objs.size=s.heap.objs.size:=Heap.size_update ..
  have nfs:∀ b∈JH (env::outer),b≠T:=fun b hb=>by
   obtain ⟨_,o,ho,hnf⟩:=hl.mem hb
   exact noT b o ho hnf
  refine S9 (base:=base) hfr (hl.of_keeps fun b o hb hnf=>⟨o,(other b (noT b o hb hnf)).trans hb,rfl⟩) hf ((other ea (Ne.symm hTe)).trans he) hd hsz h0 (by show s₀.objs.size<=(s.heap.update T _).objs.size;rw [hsz'];exact hs) (fun a ha=>hH a (by have:(s.heap.update T (Obj.mapFields (·.setIfInBounds 3 Value.none))).objs.size<=a:=ha;rw [hsz'] at this;exact this)) fun h' p=>h h' [T] ?_
  refine ⟨fun b o hb hbf hbe hc=>p.keep b o ((other b (fun z=>hc (by simp [z]))).trans hb) hbf hbe (by simp),fun b o hb hbf=>p.slot b o ((other b (nfs b hbf)).trans hb) hbf,fun oe' vs' he' hd'=>p.ex oe' vs' ((other ea (Ne.symm hTe)).trans he') hd',fun T' hT'=>?_,fun T' hT'=>?_,p.fly⟩
  ·rw [List.mem_singleton] at hT';subst hT';exact ⟨hT0,hHT,oT,ts,hT,hdT⟩
  ·rw [List.mem_singleton] at hT';subst hT'
   exact ⟨_,p.keep T' _ hTs (fun z=>nfs T' z rfl) hTe (by simp)⟩
theorem CV {base:Heap} {env:Env} {outer:List Env} {L ea:Addr} {s₀:Heap} {H:Hp} {Q:Unit->Shared->Prop}
  (hfr:A.frames=some (env::outer)) (hl:s.heap.FunFrames base (env::outer)) (hf:env.frame=some L) (hs:s₀.objs.size<=s.heap.objs.size) (hH:∀ a,s.heap.objs.size<=a->H a=none) (fly:Fly s₀ H ea s.heap)
  (h:∀ h' ch,Passed s₀ H (JH (env::outer)) ch ea s.heap h'->Q () { s with heap:=h' }):wpAny M A (leaving env (.ref ea)) Q E s:=by
 unfold leaving
 exact wpAny_bind (Aa hfr hl hf hs hH fly h)
end
end Wd
namespace Wd
open PySem PySem.Spec PyProof.Rows L2
def Uo (P:Program) (w:World):ZF:=fun outer H s E e s'=>∃ ea H',e=.ref ea/\s'.os=s.os/\AllBare s'.gens/\Un (JH outer) [] H H' s.heap s'.heap/\HOk P w H' s'.heap/\Fly s.heap H' ea s'.heap/\E (.ref ea) none H'
def R5 (P:Program) (w:World) (K:Fg) (mg:Str->Option Value) (base:Heap) (k:Nat) (x:Str) (ps:List Str) (sp:Sp):Prop :=
 ∃ f fd,FnOk P w K mg base (Uo P w) k f fd ps sp/\Binds K fd ps []/\PySem.W.keepIn K (.ref f)=true/\mg x=some (.ref f)
def Sf (K:Fg) (f:List D->Option Rs):Sp:=fun vs H Q E=>∃ F ds r,Sm F H/\Reps K F vs ds/\f ds=some r/\match r with
 | .inl d=>∀ v F' H',Gr F H F' H'->Rep K F' v d->Q v H'
 | .inr (c,n)=>∀ ea F' H',Gr F H F' H'->Rep K F' (.ref ea) (.exc c n)->E (.ref ea) none H'
theorem Rep.exF {K:Fg} {F:Hp} {ea:Addr} {c:Nat} {n:D} (r:Rep K F (.ref ea) (.exc c n)):∃ C dx,F ea=some (.ext (Y5 ea C dx)):=by
 cases r with
 | exc0 h=>exact ⟨_,_,h⟩
 | exc h hx=>exact ⟨_,_,h⟩
theorem Fly.mono {s₀ s₁:Heap} {H:Hp} {ea:Addr} {h:Heap} (f:Fly s₁ H ea h) (le:s₀.objs.size<=s₁.objs.size):Fly s₀ H ea h:=by
 obtain ⟨a,oe,vs,b,c,d,e | ⟨T,oT,ts,e1,e2,e3⟩⟩:=f
 ·exact ⟨by omega,oe,vs,b,c,d,.inl e⟩
 ·exact ⟨by omega,oe,vs,b,c,d,.inr ⟨T,oT,ts,e1,by omega,e3⟩⟩
theorem Passed.hok {X:Cx} {pins:List (Addr×Obj)} {σ:L2.St} {H F:Hp} {s:Shared} {s₀:Heap} {ch:List Addr} {ea:Addr} {h':Heap} {c:Nat} {n:D} (I:Inv X pins σ H s) (sm:Sm F H) (r:Rep X.K F (.ref ea) (.exc c n)) (p:Passed s₀ H (JH X.stack) ch ea s.heap h'):HOk X.prog X.w H h':=fun a o e=>by
 obtain ⟨C,dx,hF⟩:=r.exF
 have hE:=sm _ _ hF
 by_cases z:a=ea
 ·subst z
  rw [hE] at e
  obtain rfl:=Option.some.inj e
  obtain ⟨⟨vs,t,h1,h2,h3⟩,_,st⟩:=(show ObjOk X.prog X.w H s.heap a (.ext (Y5 a C dx)) from I.hok a _ hE)
  obtain ⟨vs',g1,g2,g3⟩:=p.ex _ vs h1 rfl
  exact ⟨⟨vs',t,g1,by omega,by rw [g3];exact h3⟩,⟨_,g1⟩,st⟩
 ·refine (I.hok a o e).stay (fun b u hb q=>?_) (fun b q=>q) fun b xs q=>q
  have hH:∃ o,H b=some o/\b≠ea:=by
   rcases hb with rfl | hb
   ·exact ⟨o,e,z⟩
   ·exact ⟨_,hb,fun w=>by rw [w,hE] at hb;simp at hb⟩
  obtain ⟨o',hH,hne⟩:=hH
  refine p.keep b u q (fun w=>?_) hne fun w=>?_
  ·rw [I.stkFree b w] at hH;simp at hH
  ·rw [(p.ch0 b w).2.1] at hH;simp at hH
section
variable {P:Program} {w:World} {K:Fg} {mg:Str->Option Value} {base:Heap} {x:Str} {st:Stmt} {N ps:List Str} {k:Nat} {b:Q8}
theorem Fun.okX {CX:ZF} {qual:Str} {f:Addr} {fd:FuncData} {sp:Sp} (F:Fun K x qual st f fd) (S:FnScope N ps (Q7 st)) (len:∀ vs H Q E,sp vs H Q E->vs.length=ps.length)
  (hbody:∀ (cdv:Value) (A:Around) (outer:List Env) (s:Shared) (H:Hp) (vs:List V) (Q:VK) (E:XK),Room k (A.deeper (envOfC qual (Q7 st) s.heap.objs.size f cdv))->sp vs H Q E ->
   ∃ t,PSs (Qn CX P w K mg base N qual (Q7 st) f cdv A outer s H E) (J9 st) t/\t { nx:=fun _ H'=>Q .non H',rt:=Q } (start N vs) H):FnOk P w K mg base CX (k+1) f fd ps sp:=by
 obtain ⟨oc,od,kV,doc,pm,an,cdv,ct,osl,rfl,lk,hcd⟩:=F.ex
 exact K9 lk hcd S len fun A outer s H vs Q E hr hsp=>hbody cdv A outer s H vs Q E hr hsp
theorem QcH {f:Addr} {cdv:Value} {A:Around} {outer:List Env} {s:Shared} {H:Hp} {E:XK} {scope:Scope} {F0:Fz} {c:Nat} {n:D}
  (hk:∀ ea F' H',Gr F0.f F0.h F' H'->Rep K F' (.ref ea) (.exc c n)->E (.ref ea) none H'):XW (Qn (Uo P w) P w K mg base N x scope f cdv A outer s H E) F0 c n:=by
 intro pins σ F H' s' ea I ex r fly
 have B:Un (JH outer) [] H H' s.heap s'.heap:=I.base
 refine CV (base:=base) (outer:=outer) (L:=s.heap.objs.size) (s₀:=s.heap) (H:=H') I.ok.frames I.stack rfl I.sz (fun a ha=>I.hok.fresh ha) fly fun h' ch p=>⟨ea,H',rfl,I.os,I.bare,?_,p.hok I ex.fh r,p.fly,hk ea F H' ex.gr r⟩
 have lt:∀ b o,s.heap.get? b=some o->b≠ea/\b∉ch/\b≠s.heap.objs.size:=fun b o q=>by
  have h1:=Heap.lt_size q
  refine ⟨fun z=>?_,fun z=>?_,Nat.ne_of_lt h1⟩
  ·exact absurd (Nat.lt_of_lt_of_le h1 (show s.heap.objs.size<=b by rw [z];exact fly.1)) (Nat.lt_irrefl _)
  ·exact absurd (Nat.lt_of_lt_of_le h1 (p.ch0 b z).1) (Nat.lt_irrefl _)
 have nf:∀ b o,s.heap.get? b=some o->b∉JH outer->b∉JH (envOfC x scope s.heap.objs.size f cdv::outer):=fun b o q hb z=>by
  rcases List.mem_cons.mp (show b∈s.heap.objs.size::JH outer from z) with z | z
  ·exact (lt b o q).2.2 z
  ·exact hb z
 have fo:∀ b,b∈JH outer->b∈JH (envOfC x scope s.heap.objs.size f cdv::outer):=fun b hb=>List.mem_cons_of_mem s.heap.objs.size hb
 refine ⟨fun b o q hn hb hx=>p.keep b o (B.keep b o q hn hb hx) (nf b o q hb) (lt b o q).1 (lt b o q).2.1,fun b o q hn hb hx=>?_,B.free,fun b o q hx=>?_,B.tups,B.frzs,B.tbls⟩
 ·obtain ⟨sl,e1⟩:=B.slot b o q hn hb hx
  obtain ⟨sl',e2⟩:=p.slot b _ e1 (fo b hb)
  exact ⟨sl',e2⟩
 ·obtain ⟨o',e1⟩:=B.there b o q hx
  by_cases hb:b∈JH outer
  ·obtain ⟨sl,e2⟩:=p.slot b _ e1 (fo b hb)
   exact ⟨_,e2⟩
  ·exact ⟨o',p.keep b o' e1 (nf b o q hb) (lt b o q).1 (lt b o q).2.1⟩
theorem B4 (h:Df K mg x st ps) (S:FnScope N ps (Q7 st)) {O' OL:List Nat}
  (hb:∀ (f:Addr) (cdv:Value) (A:Around) (outer:List Env) (s:Shared) (H:Hp) (E:XK),Room k (A.deeper (envOfC x (Q7 st) s.heap.objs.size f cdv))->PSs (Qn (Uo P w) P w K mg base N x (Q7 st) f cdv A outer s H E) (J9 st) (tS (Qn (Uo P w) P w K mg base N x (Q7 st) f cdv A outer s H E) [] O' OL false b)) :
  R5 P w K mg base (k+1) x ps (Sf K (Wn N.length ps.length b)):=by
 obtain ⟨f,fd,F,hbd,hm⟩:=h
 have len:∀ {vs:List V} {ds:List D} {Fz:Hp} {r:Rs},Reps K Fz vs ds->Wn N.length ps.length b ds=some r->vs.length=ps.length:=fun r e=>by
  unfold Wn at e
  split at e
  ·rename_i z;rw [r.length];exact z
  ·simp at e
 refine ⟨f,fd,Fun.okX F S (by rintro vs H Q E ⟨F,ds,d,s,r,e,_⟩;exact len r e) (fun cdv A outer s H vs Q E hr z=>?_),hbd,F.kp,hm⟩
 obtain ⟨Fz,ds,d,sm,r,e,k⟩:=z
 refine ⟨_,hb f cdv A outer s H E hr,?_⟩
 unfold Wn at e
 split at e
 ·cases q:b (Ja N.length ds) with
  | none=>rw [q] at e;simp at e
  | some fl =>
   rw [q] at e
   have hst:start N vs=vs.map some++List.replicate (N.length-vs.length) none:=rfl
   rw [hst]
   refine ⟨⟨Fz,H,np⟩,Fz,Ja N.length ds,fl,UW N.length sm r,q,?_⟩
   cases fl with
   | nx en=>obtain rfl:=Option.some.inj e;exact fun σ' F' H' s' rs=>k .non F' H' rs.ex.gr .non
   | rt d'=>obtain rfl:=Option.some.inj e;exact fun v F' H' x r=>k v F' H' x.gr r
   | rz c d'=>obtain rfl:=Option.some.inj e;exact QcH k
   | rm d' z'=>simp at e
   | bk en=>simp at e
   | ct en=>simp at e
 ·simp at e
end
def EX (X:Cx):XK:=fun v _ H'=>∀ (ea:Addr) (pins:List (Addr×Obj)) (σ:L2.St) (s':Shared),v=.ref ea->Inv X pins σ H' s'->Fly X.s₀.heap H' ea s'.heap->X.xe v s'
section
variable {X:Cx} {O OL:List Nat} {w:Bool} {e a:Expr} {es:List Expr} {p pos cpos:Pos} {x y:Str} {ps:List Str} {k:Nat}
theorem FlOk.ex {O':List Nat} {F0:Fz} {F H:Hp} {Dn:Ends} {c:Nat} {n:D} (k:FlOk X O' OL w F0 F Dn (.rz c n)) (x:Ex X.H₀ F0 F H) {ea:Addr} (r:Rep X.K F (.ref ea) (.exc c n)):EX X (.ref ea) none H:=fun ea' pins σ s' e I fly=>by
 cases e
 exact k pins σ F H s' ea I x r fly
end
end Wd
namespace PySem
open Sem (wp)
structure MadeX (h h':Heap) (C:Addr):Prop where
 keeps:∀ b o,h.get? b=some o->h'.get? b=some o
 ex:∃ vs t,h'.get? (h.objs.size+1)=some { cls:=.ref C,data:=.fields vs }/\vs.size=6/\vs[0]?=some (.ref t)/\vs[1]?=some .none
section
variable {prog:Program} {w:World} {A:Around} {E:Value->Shared->Prop} {h:Heap} {g:Array GenState} {d:Drawn} {t:Nat} {os:OsState}
variable {nm q:Str} {C N:Addr} {bs bm bmB:List Value} {hdct:Bool} {sn:List Str} {sub:List Value} {ab:Bool} {col:Option Bool} {dd:Option Addr} {k0 k1 k2 k3 k5:Option Value} {B newId initId:String}
theorem QcC (F:ExcBaseFacts B newId initId bmB) (T:OwnTail h bmB bm) {mN:Str->Option Value} {rest:List Value} {fI:Addr} {oI:Obj} {Q:Fin->Shared->Prop}
  (hC:h.get? C=some (excClassObj nm q C N bs bm hdct sn sub ab col dd k0 k1 k2 k3 k5 newId)) (hn:h.Ns N mN) (hi:mN "__init__"=some (.ref fI)) (hfI:h.get? fI=some oI) (hfc:oI.cls=.type "function")
  (hq:∀ h',MadeX h h' C->wpAny (model prog w) A (call (.ref fI) (.ref (h.objs.size+1)::rest)) (fun r s'=>r=.none/\Q (.done (.ret (.ref (h.objs.size+1)))) s') E ⟨h',g,d,t,os⟩) (hrest:rest.length<=sizeLine) :
  wpAny (model prog w) A (Builtin.«type.__call__» ⟨.ref C::rest,[]⟩) Q E ⟨h,g,d,t,os⟩:=by
 repeat (first | with_reducible refine wpAny_loadPart_at hC ?_ | with_reducible refine wpAny_madeBy_exc hC ?_ | wp_step)
 refine codeAny_call_builtin_code (Code.quiet_builtin _ F.quiet) (wpAny_check_new_subT F T hC ?_)
 refine codeAny_exc_new_subT F T hC ?_ hrest
 show wpAny _ _ _ _ _ _
 have hC₁:=Heap.get?_push_of_some { cls:=.ref C,data:=.fields #[.ref h.objs.size,.none,.none,.none,.bool false,.none] }
  (Heap.get?_push_of_some { cls:=.type "tuple",data:=.seq rest.toArray } hC)
 have hfI₁:=Heap.get?_push_of_some { cls:=.ref C,data:=.fields #[.ref h.objs.size,.none,.none,.none,.bool false,.none] }
  (Heap.get?_push_of_some { cls:=.type "tuple",data:=.seq rest.toArray } hfI)
 have hn₁:((h.push { cls:=.type "tuple",data:=.seq rest.toArray }).push { cls:=.ref C,data:=.fields #[.ref h.objs.size,.none,.none,.none,.bool false,.none] }).Ns N mN :=
  let ⟨o,es,ep,e,r⟩:=hn;⟨o,es,ep,Heap.get?_push_of_some _ (Heap.get?_push_of_some _ e),r⟩
 have T₁:=T.keeps (h':=(h.push { cls:=.type "tuple",data:=.seq rest.toArray }).push { cls:=.ref C,data:=.fields #[.ref h.objs.size,.none,.none,.none,.bool false,.none] })
  fun b o e=>Heap.get?_push_of_some _ (Heap.get?_push_of_some _ e)
 have hget:((h.push { cls:=.type "tuple",data:=.seq rest.toArray }).push
   { cls:=.ref C,data:=.fields #[.ref h.objs.size,.none,.none,.none,.bool false,.none] }).get? (h.objs.size+1)=some
   { cls:=.ref C,data:=.fields #[.ref h.objs.size,.none,.none,.none,.bool false,.none] }:=by heap_get
 have hcC:(Value.ref C::bm).contains (.ref C)=true:=by simp
 unfold isInstance
 repeat (first | with_reducible refine wpAny_loadPart_at hget ?_ | (with_reducible refine wpAny_isSubtype_exc hC₁ ?_;rw [hcC]) | wp_step)
 show wpAny _ _ (typeLookup (.ref C) _) _ _ _
 refine wpAny_typeLookup_tail hC₁ hn₁ T₁ F.mroIs F.init.lookup ?_
 rw [hi]
 refine wpAny_holding (wpAny_bind ?_)
 unfold bindSpecial
 refine wpAny_bind (wpAny_typeOf (T:="function") ⟨_,hfI₁,hfc⟩ ?_)
 rw [if_pos (by decide)]
 refine wpAny_pure (wpAny_bind (wpAny_mono (hq _ ⟨fun b o hb=>Heap.get?_push_of_some _ (Heap.get?_push_of_some _ hb),_,_,hget,rfl,rfl,rfl⟩) (fun r s' hr=>?_) fun _ _ x=>x))
 obtain ⟨rfl,hQ⟩:=hr
 wp_walk
 exact hQ
theorem Qcs (F:ExcBaseFacts B newId initId bmB) (T:OwnTail h bmB bm) {mN:Str->Option Value} {rest:List Value} {fI:Addr} {oI:Obj} {Q:Value->Shared->Prop}
  (hC:h.get? C=some (excClassObj nm q C N bs bm hdct sn sub ab col dd k0 k1 k2 k3 k5 newId)) (hn:h.Ns N mN) (hi:mN "__init__"=some (.ref fI)) (hfI:h.get? fI=some oI) (hfc:oI.cls=.type "function")
  (hq:∀ h',MadeX h h' C->wpAny (model prog w) (A.under (.builtin "type.__call__" ⟨.ref C::rest,[]⟩)) (call (.ref fI) (.ref (h.objs.size+1)::rest)) (fun r s'=>r=.none/\Q (.ref (h.objs.size+1)) s') E ⟨h',g,d,t,os⟩) (hrest:rest.length<=sizeLine) :
  wpAny (model prog w) A (call (.ref C) rest) Q E ⟨h,g,d,t,os⟩:=by
 have f1:=tc_lookup
 have f2:=tc_bind (.ref C)
 have hT:(⟨h,g,d,t,os⟩:Shared).TypeIs (.ref C) "type":=⟨_,hC,rfl⟩
 refine wpAny_call (codeAny_of_tree ?_)
 show wpAny _ _ (callAny (.ref C) _) _ _ _
 repeat (any_goals (first | assumption | with_reducible refine wpAny_loadPart_at hC ?_ | wp_step))
 refine ⟨rfl,?_⟩
 exact codeAny_call_builtin_at (Code.quiet_builtin _ (by decide +kernel)) entry_typeCall (wpAny_check_type_call_sub hC (QcC (hrest:=hrest) F T hC hn hi hfI hfc fun h' hm=>hq h' hm))
end
end PySem
namespace PySem
open Sem (wp)
section
variable {prog:Program} {w:World} {A:Around} {E:Value->Shared->Prop} {h:Heap} {g:Array GenState} {d:Drawn} {t:Nat} {os:OsState}
variable {nm q:Str} {C N:Addr} {bs bm bmB:List Value} {hdct:Bool} {sn:List Str} {sub:List Value} {ab:Bool} {col:Option Bool} {dd:Option Addr} {k0 k1 k2 k3 k5:Option Value} {B newId initId:String}
structure ButX (h h':Heap) (e:Addr):Prop where
 keeps:∀ b o,b≠e->h.get? b=some o->h'.get? b=some o
 size:h.objs.size<=h'.objs.size
theorem Qcx (F:ExcBaseFacts B newId initId bmB) (T:OwnTail h bmB bm) {e:Addr} {dx:Option Addr} {vs:Array Value} {rest:List Value} {Q:Value->Shared->Prop}
  (hC:h.get? C=some (excClassObj nm q C N bs bm hdct sn sub ab col dd k0 k1 k2 k3 k5 newId)) (he:h.get? e=some { cls:=.ref C,dict:=dx,data:=.fields vs }) (hv:vs.size=6) {t0:Addr} (h0:vs[0]?=some (.ref t0)) (hrest:rest.length<=sizeLine)
  (hq:∀ h' u,ButX h h' e->h'.get? e=some { cls:=.ref C,dict:=dx,data:=.fields (vs.setIfInBounds 0 (.ref u)) }->Q .none ⟨h',g,d,t,os⟩) :
  wpAny (model prog w) A (call (.builtin initId) (.ref e::rest)) Q E ⟨h,g,d,t,os⟩:=by
 refine wpAny_call (codeAny_call_builtin F.init.plain F.initEntry (wpAny_check_init_subT F T hC he rfl ?_))
 wp_walk
 rw [h0]
 refine wpAny_pure (wpAny_bind (wpAny_setField (Heap.get?_push_of_some _ he) rfl (by omega) ?_))
 have he':=Heap.get?_update_self (Obj.mapFields (·.setIfInBounds 0 (Value.ref h.objs.size))) (Heap.get?_push_of_some { cls:=.type "tuple",data:=.seq rest.toArray } he) rfl
 have hk:=hq ((h.push { cls:=.type "tuple",data:=.seq rest.toArray }).update e (Obj.mapFields (·.setIfInBounds 0 (Value.ref h.objs.size)))) h.objs.size ⟨fun b o hb hbo=>by rw [Heap.get?_update_other _ _ (Ne.symm hb)];exact Heap.get?_push_of_some _ hbo,by rw [Heap.size_update,Heap.size_push];exact Nat.le_succ _⟩ he'
 wp_walk
 exact hk
end
section
variable {prog:Program} {w:World} {A:Around} {E:Value->Shared->Prop} {h:Heap} {g:Array GenState} {d:Drawn} {t:Nat} {os:OsState} {K:W.Frag} {C e:Addr} {vs:Array Value} {cd:ClassData} {v:Value}
abbrev ZO:List Value:=[.type "ValueError",.type "Exception",.type "BaseException",.type "object"]
theorem QcG {ox:Obj} {od:Option Obj} {name:Str} {tk:Tok} {B:Addr} {R:Result->Shared->Prop} (X:K.In h) (I:W.InstAt h e ox C od) (hc:W.clsIn K C=some cd) (hm:cd.mro=.ref C::.ref B::ZO) (ht:W.takerIn K C name=some none)
  (hq:∀ b,wpAny (model prog w) A.in1 (Builtin.ObjectAttr.storeInOwnDict (.ref e) (.ref C) (.str name tk) name v b)
   (fun fin s'=>match fin with | .done f=>R (.ok f) s' | .again c'=>c'.quiet=true/\codeAny (model prog w) A c' R s') (fun e s'=>R (.error e) s') ⟨h,g,d,t,os⟩) :
  codeAny (model prog w) A (.call (.builtin "object.__setattr__") ⟨[.ref e,.str name tk,v],[]⟩) R ⟨h,g,d,t,os⟩:=by
 have SF:=PySem.F.store_object
 have L0:=I.type (M:=model prog w)
 have sub:W.Looks (model prog w) h (isInstance (.ref e) (.type "object")) true:=L0.andThen (W.looks_mroIn X (by unfold W.mroIn;rw [hc,Option.bind_some,hm];rfl))
 refine codeAny_call_builtin SF.slot.plain SF.entry (@W.check_slot (model prog w) _ _ ⟨h,g,d,t,os⟩ "object.__setattr__" "object" "__setattr__" (.ref e) [.str name tk,v] [] _ SF.kind SF.split sub (SF.args (.ref e) (.str name tk) v) ?_)
 obtain ⟨attr,ha,hr⟩:=Option.bind_eq_some_iff.mp ht
 have hmr:W.Looks (model prog w) h (mroOf (.ref C)) cd.mro:=(W.looks_clsIn X hc).andThen .now
 have L3:W.Looks (model prog w) h (Builtin.ObjectAttr.storeTaker? attr) none:=by
  cases attr with
  | none=>cases hr;exact .now
  | some a =>
   obtain ⟨b,hb,hz⟩:=Option.map_eq_some_iff.mp hr
   refine (W.looks_takesIn X hb).andThen ?_
   cases b<;>first | exact .now | simp at hz
 rw [W.osa_eq,refuse_eq]
 refine wpAny_bind (wpAny_bind (L0.here (wpAny_bind (hmr.here ?_))))
 rw [hm,refuseLoop_ref,refuseLoop_ref,PySem.F.store_ValueError.passes]
 refine wpAny_pure (wpAny_bind (L0.here (wpAny_bind ((W.looks_findIn X ha).here (wpAny_bind (L3.here ?_))))))
 exact hq _
theorem Qcz {B:Addr} {name:Str} {tk:Tok} {R:Result->Shared->Prop} (X:K.In h) (hm:cd.mro=.ref C::.ref B::ZO) (ht:W.takerIn K C name=some none) (hc:W.clsIn K C=some cd) (hd:cd.hasDict=true)
  (he:h.get? e=some { cls:=.ref C,data:=.fields vs })
  (hq:∀ h',ButX h h' e->h'.get? e=some { cls:=.ref C,dict:=some h.objs.size,data:=.fields vs }->h'.Ns1 h.objs.size (fun y=>if y=name then some v else none)->R (.ok (.ret .none)) ⟨h',g,d,t+1,os⟩) :
  codeAny (model prog w) A (.call (.builtin "object.__setattr__") ⟨[.ref e,.str name tk,v],[]⟩) R ⟨h,g,d,t,os⟩:=by
 have I:W.InstAt h e { cls:=.ref C,data:=.fields vs } C none:=⟨he,rfl,rfl,trivial⟩
 refine QcG X I hc hm ht fun b=>?_
 refine wpAny_bind (wpAny_pure (wpAny_bind (wpAny_bind (wpAny_loadPart he (wpAny_bind ((W.looks_clsIn X hc).here ?_))))))
 rw [hd,if_neg (by decide),if_neg (by simp [typeHasDict])]
 refine wpAny_bind (wpAny_alloc ?_)
 refine wpAny_bind (wpAny_update (Heap.get?_push_of_some _ he) ?_)
 refine wpAny_bind (wpAny_pure ?_)
 refine wpAny_pure ?_
 have hlt:e<h.objs.size:=Heap.lt_size he
 have e1:(h.push { cls:=.type "dict",data:=.dict #[] }).get? h.objs.size=some { cls:=.type "dict",data:=.dict #[] }:=Heap.get?_push_size h rfl
 have e3:(h.push { cls:=.type "dict",data:=.dict #[] }).Ns h.objs.size (fun _=>none):=⟨{ cls:=.type "dict",data:=.dict #[] },#[],_,e1,rfl,(fun e he=>absurd he (by simp)),fun _=>rfl⟩
 have hu:∀ b o,b≠e->(h.push { cls:=.type "dict",data:=.dict #[] }).get? b=some o->((h.push { cls:=.type "dict",data:=.dict #[] }).update e fun o=>{ cls:=o.cls,dict:=some h.objs.size,data:=o.data,slots:=o.slots }).get? b=some o:=fun b o hb z=>(Heap.get?_update_other _ _ (Ne.symm hb)).trans z
 have he2:=Heap.get?_update_self (fun o:Obj=>{ cls:=o.cls,dict:=some h.objs.size,data:=o.data,slots:=o.slots }) (Heap.get?_push_of_some { cls:=.type "dict",data:=.dict #[] } he) rfl
 have hn:((h.push { cls:=.type "dict",data:=.dict #[] }).update e fun o=>{ cls:=o.cls,dict:=some h.objs.size,data:=o.data,slots:=o.slots }).Ns1 h.objs.size (fun _=>none):=(Heap.Ns1.of_empty e3).at fun o q=>hu _ o (Nat.ne_of_gt hlt) q
 refine wpAny_bind (wpAny_pure (wpAny_bind ?_))
 refine wpAny_nsSet1 (s:=⟨_,g,d,t,os⟩) hn fun h' hn2 hs2=>?_
 obtain ⟨oD,esD,epD,hoD,hdD,hcD⟩:=hn2.count (PySem.Within.cons name v (ns:=[]) fun y hy=>absurd rfl hy)
 refine wpAny_bind (wpAny_lookBehind hoD (by rw [hdD];exact pastItsLine_dict (Nat.le_trans hcD (by rw [sizeLine_eq];exact Nat.le_add_left 1 _))) ?_)
 refine wpAny_pure (hq _ ⟨fun b o hb z=>(hs2.2 b (Nat.ne_of_lt (Heap.lt_size z))).trans (hu b o hb (Heap.get?_push_of_some _ z)),?_⟩ ((hs2.2 e (Nat.ne_of_lt hlt)).trans he2) hn2)
 rw [hs2.1,Heap.size_update,Heap.size_push];exact Nat.le_succ _
theorem QcB {B:Addr} {name:Str} {Q:Unit->Shared->Prop} {E:Value->Shared->Prop} (X:K.In h) (hs:W.findIn K (.ref C) "__setattr__"=some (some (.builtin "object.__setattr__"))) (hm:cd.mro=.ref C::.ref B::ZO) (ht:W.takerIn K C name=some none) (hc:W.clsIn K C=some cd) (hd:cd.hasDict=true)
  (he:h.get? e=some { cls:=.ref C,data:=.fields vs })
  (hq:∀ h' t',t<=t'->ButX h h' e->h'.get? e=some { cls:=.ref C,dict:=some h.objs.size,data:=.fields vs }->h'.Ns1 h.objs.size (fun y=>if y=name then some v else none)->Q () ⟨h',g,d,t',os⟩) :
  wpAny (model prog w) A (setAttr (.ref e) name v) Q E ⟨h,g,d,t,os⟩:=by
 have I:W.InstAt h e { cls:=.ref C,data:=.fields vs } C none:=⟨he,rfl,rfl,trivial⟩
 exact W.set_plain (s:=⟨h,g,d,t,os⟩) X I hs (Qcz X hm ht hc hd he fun h' a b c=>hq h' (t+1+1) (by omega) a b c)
end
end PySem
namespace PySem
open Sem (wp)
section
variable {prog:Program} {w:World} {A:Around} {E:Value->Shared->Prop} {h:Heap} {g:Array GenState} {d:Drawn} {t:Nat} {os:OsState} {K:W.Frag} {C e:Addr} {ox:Obj} {od:Option Obj} {v:Value} {ms:List Value} {name:Str}
theorem Qcv {tk:Tok} {R:Result->Shared->Prop} (X:K.In h) (I:W.InstAt h e ox C od) (hm:W.mroIn K C (.type "BaseException")=some true) (hf:W.findObj K C od name=some (.value v)) (hq:R (.ok (.ret v)) ⟨h,g,d,t,os⟩) :
  codeAny (model prog w) A (.call (.builtin "BaseException.__getattribute__") ⟨[.ref e,.str name tk],[]⟩) R ⟨h,g,d,t,os⟩:=by
 have L0:=I.type (M:=model prog w)
 have L1:=W.looks_find (M:=model prog w) X I hf
 refine codeAny_call_builtin (by decide +kernel) F.entry_bexc_ga ?_
 have hk:builtinKind "BaseException.__getattribute__"=some .slot:=by decide +kernel
 have hsplit:splitId "BaseException.__getattribute__"=some ("BaseException","__getattribute__"):=by decide +kernel
 have ha:=F.args_bexc_ga (.ref e) (.str name tk)
 have LI:W.Looks (model prog w) h (isInstance (.ref e) (.type "BaseException")) true:=L0.andThen (W.looks_mroIn X hm)
 simp only [checkBuiltinCall,hk,hsplit]
 refine wpAny_bind (LI.at ?_)
 refine wpAny_of_eq ha ?_
 refine wpAny_bind (wpAny_pure (wpAny_bind (wpAny_pure (wpAny_bind (L0.at (wpAny_bind (L1.at ?_)))))))
 exact wpAny_pure hq
theorem Qcw {expr:Bool} {Q:Value->Shared->Prop} (X:K.In h) (I:W.InstAt h e ox C od) (hm:W.mroIn K C (.type "BaseException")=some true) (hga:W.findIn K (.ref C) "__getattribute__"=some (some (.builtin "BaseException.__getattribute__")))
  (hno:W.findIn K (.ref C) "__getattr__"=some none) (hf:W.findObj K C od name=some (.value v)) (hh:W.handedIn v=true) (hq:Q v ⟨h,g,d,t+1,os⟩) :
  wpAny (model prog w) A (getAttr (.ref e) name expr) Q E ⟨h,g,d,t,os⟩:=by
 have L0:=I.type (M:=model prog w)
 have L1:=W.looks_findIn (M:=model prog w) X hga
 have L2:=W.looks_findIn (M:=model prog w) X hno
 unfold getAttr getAttrBy
 refine wpAny_bind (wpAny_mkText (wpAny_holding (wpAny_bind (L0.at (wpAny_bind (L1.at ?_))))))
 show wpAny _ _ (getAttrByItsOwn _ _ _ _ _ _) _ _ _
 refine wpAny_bind (L2.at (wpAny_bind ?_))
 have hx0:(expr&&onTheHeap (Value.builtin "BaseException.__getattribute__"))=false:=by cases expr<;>rfl
 refine wpAny_attempt (wpAny_holding ?_)
 unfold callGetattribute
 rw [hx0]
 show wpAny _ _ (boundAndCalled _ _ _) _ _ _
 refine wpAny_bind (wpAny_of_eq (F.attrBase_ValueError.ga.bind _) ?_)
 refine wpAny_call (Qcv X I hm hf ?_)
 show wpAny _ _ (handedOut v) _ _ _
 rw [W.handedOut_of hh]
 exact wpAny_pure hq
end
end PySem
namespace Wd
open PySem PySem.Spec PyProof.Rows L2
theorem KO (i:Int) (h0:0<=i) (h1:i<10^60):(Str.ofString (toString i)).length<=60/\i.natAbs.log2<1920:=by
 obtain ⟨n,rfl⟩:=Int.eq_ofNat_of_zero_le h0
 have hn:n<10^60:=by
  have:((n:Int))<((10^60:Nat):Int):=h1
  exact Int.ofNat_lt.mp this
 refine ⟨?_,?_⟩
 ·have e1:(Str.ofString (toString (n:Int))).length=(Nat.toDigits 10 n).length:=by
   show (cpsOfBytes 0 0 (Nat.repr n).toByteArray.data.toList).toArray.size=_
   rw [cpsOfBytes_string,Nat.toList_repr]
   simp
  rw [e1]
  exact (Nat.length_toDigits_le_iff (by decide) (by decide)).mpr hn
 ·show n.log2<1920
  rcases Nat.eq_zero_or_pos n with rfl | hp
  ·decide
  ·exact (Nat.log2_lt (Nat.ne_of_gt hp)).mpr (Nat.lt_trans hn (by decide +kernel))
section
variable {X:Cx} {e:Expr} {te:TE} {a b:Str}
theorem Ai {j1 j2} {p1 p2 p3 pos:Pos} (he:PE X e te) (ha:a.length<=1000) (hb:b.length<=1000):PE X (.JoinedStr [.Constant (.str a) j1 p1,.FormattedValue e (-1) none p2,.Constant (.str b) j2 p3] pos)
  (fun σ H Q=>te σ H fun v H1=>∃ i:Int,v=.int i/\0<=i/\i<10^60/\∀ x,Q (.str x) H1):=by
 intro pins s σ H Q I h
 refine JoinedStr_many (joinParts_cons (Calls.Constant_str ⟨?_,joinParts_cons (FormattedValue_plain (QL (he pins _ σ H _ (I.tok _) h) fun u s1 ⟨v,H1,I1,r,i,ev,i0,i1,q⟩=>?_))⟩))
 ·rw [strLen_append,sizeLine_eq];exact Nat.le_trans (Nat.add_le_add_left ha _) (by decide)
 ·subst ev
  obtain ⟨t,rfl⟩:=r
  obtain ⟨l1,l2⟩:=KO i i0 i1
  have f1:(Str.empty++a++Str.ofString (toString i)).length<=1060:=by rw [strLen_append,strLen_append];have:Str.empty.length=0:=rfl;omega
  have f2:(Str.empty++a++Str.ofString (toString i)++b).length<=2060:=by rw [strLen_append];omega
  refine formatField_int_small l2 ⟨?_,joinParts_cons (Calls.Constant_str ⟨?_,joinParts_nil ⟨.str (Str.empty++a++Str.ofString (toString i)++b),H1,I1.tok _,⟨_,rfl⟩,q _⟩ ?_⟩)⟩
  all_goals (rw [sizeLine_eq];first | exact Nat.le_trans f1 (by decide) | exact Nat.le_trans f2 (by decide))
end
end Wd
namespace Wd
open PySem PySem.Spec PyProof.Rows L2
def ExcNew (a C:Addr) (dx:Option Addr) (h:Heap):Prop:=∃ vs t,h.get? a=some { cls:=.ref C,dict:=dx,data:=.fields vs }/\vs.size=6/\vs[0]?=some (.ref t)/\vs[1]?=some .none
theorem ExcNew.ok {P:Program} {w:World} {H:Hp} {h:Heap} {a C:Addr} {dx:Option Addr} (x:ExcNew a C dx h):ObjOk P w H h a (.ext (ExcNew a C dx)) :=
 ⟨x,(let ⟨_,_,e,_⟩:=x;⟨_,e⟩),fun h1 h2 ⟨vs,t,e,r⟩ k=>⟨vs,t,k _ e,r⟩⟩
theorem ExcNew.at {P:Program} {w:World} {H:Hp} {h:Heap} {a C:Addr} {dx:Option Addr} (x:ExcNew a C dx h):ObjOk P w H h a (.ext (Y5 a C dx)) :=
 ⟨(let ⟨vs,t,e,a,b,_⟩:=x;⟨vs,t,e,a,b⟩),(let ⟨_,_,e,_⟩:=x;⟨_,e⟩),fun h1 h2 ⟨vs,t,e,r⟩ k=>⟨vs,t,k _ e,r⟩⟩
theorem Qcg {H:Hp} {a:Addr} {o:HO} (h:H a=some o):upd H a o=H:=by
 funext b
 unfold upd
 split
 ·rename_i z;rw [z,h]
 ·rfl
structure XB (K:Fg) (CB:Addr):Prop where
 reads:PySem.W.readsIn K CB (.type "type")=true
 ga:PySem.W.specialIn K (.ref CB) "__getattribute__"=some (some (.builtin "type.__getattribute__"))
 init:PySem.W.findCls K (.ref CB) (.type "type") "__init__"=some (.val (.builtin "ValueError.__init__"))
structure XCl (K:Fg) (C CB:Addr) (ini:Option Value):Prop where
 obj:∃ nm q N bs sn sub ab col dd k0 k1 k2 k3 k5,K.lookup C=some (excClassObj nm q C N bs (.ref CB::ZO) true sn sub ab col dd k0 k1 k2 k3 k5 "ValueError.__new__")/\PySem.W.nsOkIn K N=true/\PySem.W.nsIn K N "__init__"=some ini
 tail:PySem.W.tailIn K ZO (.ref CB::ZO)=true
 sa:PySem.W.findIn K (.ref C) "__setattr__"=some (some (.builtin "object.__setattr__"))
 tk:PySem.W.takerIn K C "row"=some none
 ga:PySem.W.findIn K (.ref C) "__getattribute__"=some (some (.builtin "BaseException.__getattribute__"))
 gn:PySem.W.findIn K (.ref C) "__getattr__"=some none
 no:PySem.W.findIn K (.ref C) "row"=some none
 kp:PySem.W.keepIn K (.ref C)=true
section
variable {X:Cx} {pins:List (Addr×Obj)} {σ:L2.St} {H:Hp} {s:Shared}
theorem Inv.xset {e dx:Addr} {φ ψ:Heap->Prop} {fs:List (Str×V)} {h':Heap} {t':Nat} (I:Inv X pins σ H s) (he:H e=some (.ext φ)) (hp:s.heap.objs.size<=dx) (k:∀ b u,b≠e->s.heap.get? b=some u->h'.get? b=some u)
  (n1:ObjOk X.prog X.w (upd (upd H dx (.xd fs)) e (.ext ψ)) h' e (.ext ψ)) (n2:ObjOk X.prog X.w (upd (upd H dx (.xd fs)) e (.ext ψ)) h' dx (.xd fs)):Inv X pins σ (upd (upd H dx (.xd fs)) e (.ext ψ)) { s with heap:=h',toks:=t' }:=by
 have hd:H dx=none:=I.hok.fresh hp
 have nd:∀ b o,H b=some o->b≠dx:=fun b o q z=>by rw [z,hd] at q;simp at q
 have sm:∀ b o,b≠e->H b=some o->upd (upd H dx (.xd fs)) e (.ext ψ) b=some o:=fun b o hb q=>by rw [QB hb,QB (nd b o q)];exact q
 have ne:∀ b o,H b=some o->(∀ φ,o≠.ext φ)->b≠e:=fun b o q w z=>by rw [z,he] at q;obtain rfl:=Option.some.inj q;exact w _ rfl
 have nn:∀ b,H b=none->b≠e:=fun b q z=>by rw [z,he] at q;simp at q
 obtain ⟨_,⟨oe,hoe⟩,_⟩:=id n1
 refine I.un ⟨fun b o q n _ _=>k b o (nn b n) q,fun b o q n _ _=>⟨o.slots,k b o (nn b n) q⟩,fun b o q n _=>?_,fun b o q _=>?_,fun b xs q=>sm b _ (ne b _ q fun _ z=>nomatch z) q,fun b o u q=>sm b _ (ne b _ q fun _ z=>nomatch z) q,fun b ps q=>⟨#[],by rw [sm b _ (ne b _ q fun _ z=>nomatch z) q];simp⟩⟩ fun b u q=>?_
 ·rw [QB (nn b n),QB (Nat.ne_of_lt (Nat.lt_of_lt_of_le (Heap.lt_size q) hp))];exact n
 ·by_cases z:b=e
  ·rw [z];exact ⟨oe,hoe⟩
  ·exact ⟨o,k b o z q⟩
 ·by_cases z:b=e
  ·subst z;rw [QQ] at q;obtain rfl:=Option.some.inj q;exact n1
  ·rw [QB z] at q
   by_cases z2:b=dx
   ·subst z2;rw [QQ] at q;obtain rfl:=Option.some.inj q;exact n2
   ·rw [QB z2] at q
    refine (I.hok b u q).stay (fun c v hc r=>k c v ?_ r) (fun c r=>sm c _ (ne c _ r fun _ z=>nomatch z) r) fun c xs r=>sm c _ (ne c _ r fun _ z=>nomatch z) r
    rcases hc with rfl | hc
    ·exact z
    ·exact ne c _ hc fun _ z=>nomatch z
variable {C CB:Addr} {ini:Option Value} {xB:Str} {e1 o value:Expr} {es:List Expr} {ta tv:TE} {t:TA} {p0 p1 p2 p3 pos pos':Pos}
theorem XCl.tl {h:Heap} (c:XCl X.K C CB ini) (k:X.K.In h):OwnTail h ZO (.ref CB::ZO):=PySem.W.tail_of_in k c.tail
theorem Qaf (B:XB X.K CB) (c:XCl X.K C CB ini) (hg:Gl X xB) (hm:X.mg xB=some (.ref CB)) (ha:PA X (e1::es) t) (hdb:(xB==("__debug__":Str))=false:=by decide) (he:starEach (e1::es) X.env=(false,eval e1 X.env)::starEach es X.env:=by rfl)
  (hpl:(backTo p2 (starEach es X.env)).any (·.1)=false:=by rfl) (hsw:swapsWith (.Call (.Attribute (.Name xB p0) "__init__" p1) (e1::es) [] p2) none p3.line X.env=pure false:=by rfl) {pl:Sem Bool}
  (ht:eval (.Call (.Attribute (.Name xB p0) "__init__" p1) (e1::es) [] p2) X.env=(do
   let ov <- eval (.Name xB p0) X.env
   standAt p1.atName
   let (f,first) <- holding [ov] (getMethod ov "__init__" pl)
   callWith p2 f first (backTo p2 (starEach (e1::es) X.env)) (backToKw p2 (keywordEach [] X.env))):=by rfl) :
  PS X (.Expr (.Call (.Attribute (.Name xB p0) "__init__" p1) (e1::es) [] p2) p3) (fun Dn σ H=>t σ H fun vs H1=>∃ e y,vs=[.ref e,y]/\H1 e=some (.ext (ExcNew e C none))/\Dn.nx σ H1):=by
 intro pins s σ H Dn I h
 refine wpAny_Expr_any (PySem.W.methodCall_KW (pl:=pl) (Xu I hg hm (PySem.W.method_cls I.kIn B.ga (PySem.W.cls_value I.kIn B.reads B.init rfl ?_)) hdb) ht) I.quiet hsw
 refine callWith_builtin1 (QL (ha p2 pins _ σ H _ (I.tok _) h) fun us s1 zz=>?_) he hpl
 obtain ⟨vs,H1,I1,r,e,y,ev,hE,q⟩:=zz
 subst ev
 cases r with
 | cons r1 r2 =>
  cases r2 with
  | cons r3 r4 =>
   cases r4
   obtain rfl:=r1
   obtain ⟨⟨vs,t0,g1,g2,g3,g4⟩,_,_⟩:=(show ObjOk X.prog X.w H1 s1.heap e (.ext (ExcNew e C none)) from I1.hok e _ hE)
   obtain ⟨nm,q',N,bs,sn,sub,ab,col,dd,k0,k1,k2,k3,k5,hC,_⟩:=c.obj
   obtain ⟨hh,g,d,tk,os⟩:=s1
   refine Qcx PySem.F.excBase_ValueError (c.tl I1.kIn) (I1.kIn _ _ hC) g1 g2 g3 (by rw [sizeLine_eq];exact Nat.le_add_left 1 _) fun h' u bx ge=>?_
   refine ⟨σ,H1,?_,q⟩
   have:=I1.write (x:=e) (e:=e) (o:=.ext (ExcNew e C none)) (h':=h') (t':=tk) (by rw [hE];exact trivial) (.inl rfl) bx.keeps ⟨_,ge⟩ (ExcNew.ok ⟨_,u,ge,by rw [Array.size_setIfInBounds];exact g2,by simp [Array.getElem?_setIfInBounds,g2],by simp [Array.getElem?_setIfInBounds,g4]⟩)
   rw [Qcg hE] at this
   exact this
theorem Qag (c:XCl X.K C CB ini) (ha:PE X o ta) (hv:PE X value tv) (hs:swapsWith value (some (.Attribute o "row" pos')) pos.line X.env=pure false:=by rfl):PS X (.Assign [.Attribute o "row" pos'] value pos)
  (fun Dn σ H=>tv σ H fun y H1=>ta σ H1 fun x H2=>∃ e i,x=.ref e/\y=.int i/\H2 e=some (.ext (ExcNew e C none))/\∀ dx,H2 dx=none->dx≠e->Dn.nx σ (upd (upd H2 dx (.xd [("row",.int i)])) e (.ext (ExcNew e C (some dx))))):=by
 intro pins s σ H D I h
 refine plainObj_wpAny_Assign_Attribute (QL (hv pins s σ H _ I h) fun u s1 ⟨y,H1,I1,ry,q⟩=>QL (ha pins s1 σ H1 _ I1 q) fun ov s2 ⟨x,H2,I2,rx,e,i,ex,ey,hE,q2⟩=>?_) hs
 subst ex
 subst ey
 obtain rfl:ov=Value.ref e:=rx
 obtain ⟨ti,rfl⟩:=ry
 obtain ⟨⟨vs,t0,g1,g2,g3,g4⟩,_,_⟩:=(show ObjOk X.prog X.w H2 s2.heap e (.ext (ExcNew e C none)) from I2.hok e _ hE)
 obtain ⟨nm,q',N,bs,sn,sub,ab,col,dd,k0,k1,k2,k3,k5,hC,_⟩:=c.obj
 have hcl:PySem.W.clsIn X.K C=some { name:=nm,bases:=bs,mro:=.ref C::.ref CB::ZO,ns:=N,qualname:=q',hasDict:=true,slotNames:=sn,subclasses:=sub,abstract:=ab,collection:=col,hasDel:=false }:=by unfold PySem.W.clsIn;rw [hC]
 obtain ⟨hh,g,d,tk,os⟩:=s2
 refine QcB (B:=CB) I2.kIn c.sa rfl c.tk hcl rfl g1 fun h' t' _ bx ge hn=>?_
 have hlt:e<hh.objs.size:=Heap.lt_size g1
 refine ⟨σ,_,Inv.xset (h':=h') (t':=t') I2 hE (Nat.le_refl _) bx.keeps (ExcNew.ok ⟨vs,t0,ge,g2,g3,g4⟩) ⟨_,hn,fun f=>?_⟩,q2 hh.objs.size (I2.hok.fresh (Nat.le_refl _)) (Nat.ne_of_gt hlt)⟩
 show RelO (List.lookup f [("row",V.int i)]) (if f="row" then some (.int i ti) else none)
 by_cases z:f="row"
 ·subst z;exact ⟨ti,rfl⟩
 ·have hb:(f==("row":Str))=false:=beq_eq_false_iff_ne.mpr z
  simp only [List.lookup,hb,if_neg z]
  exact trivial
end
end Wd
namespace PySem
open Sem (wp)
section
variable {M:Model} {A:Around} {E:Value->Shared->Prop} {env:Env}
variable {nm q:Str} {C N:Addr} {bs bm:List Value} {hdct:Bool} {sn:List Str} {sub:List Value} {ab:Bool} {col:Option Bool} {dd:Option Addr} {k0 k1 k2 k3 k5:Option Value} {newId:String}
theorem QcA {s:Shared} {x:Sem Value} {Q:Flow->Shared->Prop} (hbase:bm.contains (.type "BaseException")=true) (hh:A.handled=none)
  (h:wpAny M A x (fun v s₁=>∃ e dx vs,v=.ref e/\s₁.heap.get? C=some (excClassObj nm q C N bs bm hdct sn sub ab col dd k0 k1 k2 k3 k5 newId) /\
   s₁.heap.get? e=some { cls:=.ref C,dict:=dx,data:=.fields vs }/\vs[1]?=some .none/\E (.ref e) s₁) E s) :
  wpAny M A (raiseStmt env (some x) none) Q E s:=by
 have hcB:(Value.ref C::bm).contains (.type "BaseException")=true:=by rw [List.contains_cons,hbase,Bool.or_true]
 unfold raiseStmt
 refine wpAny_bind (wpAny_mono h (fun v s₁ h₁=>?_) fun _ _ x=>x)
 obtain ⟨e,dx,vs,rfl,hC,he,h1,hE⟩:=h₁
 obtain ⟨hp,g,d,tk,os⟩:=s₁
 repeat (first | with_reducible refine wpAny_field he rfl h1 ?_ | with_reducible refine wpAny_loadPart_at he ?_ | with_reducible refine wpAny_loadPart_at hC ?_ | (with_reducible refine wpAny_isSubtype_exc hC ?_;rw [hcB]) | wp_step)
 exact wpAny_raiseNew_none hh hE
end
end PySem
namespace Wd
open PySem PySem.Spec PyProof.Rows L2
def Oq (C:Addr):Sp:=fun vs H Q _=>∃ e i,vs=[.ref e,.int i]/\H e=some (.ext (ExcNew e C none))/\0<=i/\i<10^60/\∀ dx,H dx=none->dx≠e->Q .non (upd (upd H dx (.xd [("row",.int i)])) e (.ext (ExcNew e C (some dx))))
def Hs (C:Addr):TS:=fun Dn σ H=>(Qy (Qj 0) (Qy (fun σ H Q=>Qj 1 σ H fun v H1=>∃ i:Int,v=.int i/\0<=i/\i<10^60/\∀ x,Q (.str x) H1) J7)) σ H fun vs H1=>∃ e y,vs=[.ref e,y]/\H1 e=some (.ext (ExcNew e C none))/\Dn.nx σ H1
def Ht (C:Addr):TS:=fun Dn σ H=>Qj 1 σ H fun y H1=>Qj 0 σ H1 fun x H2=>∃ e i,x=.ref e/\y=.int i/\H2 e=some (.ext (ExcNew e C none))/\∀ dx,H2 dx=none->dx≠e->Dn.nx σ (upd (upd H2 dx (.xd [("row",.int i)])) e (.ext (ExcNew e C (some dx))))
def Uq (P:Program) (w:World) (K:Fg) (mg:Str->Option Value) (base:Heap) (k:Nat) (x:Str) (c:Nat):Prop :=
 ∃ C CB f fd,XCl K C CB (some (.ref f))/\PySem.W.isFn K (.ref f)=true/\Binds K fd ["self","row"] []/\FnOk P w K mg base Qk k f fd ["self","row"] (Oq C)/\mg x=some (.ref C)/\Qz K c=C
section
variable {P:Program} {w:World} {K:Fg} {mg:Str->Option Value} {base:Heap} {st:Stmt} {k:Nat} {qual:Str} {f C:Addr} {fd:FuncData} {s1 s2:Stmt}
theorem Pp (F:Fun K "__init__" qual st f fd) (S:FnScope ["self","row"] ["self","row"] (Q7 st)) (hd:J9 st=[s1,s2])
  (hb:∀ (cdv:Value) (A:Around) (outer:List Env) (s:Shared) (H:Hp) (E:XK),PS (Qn Qk P w K mg base ["self","row"] qual (Q7 st) f cdv A outer s H E).nox s1 (Hs C)/\PS (Qn Qk P w K mg base ["self","row"] qual (Q7 st) f cdv A outer s H E).nox s2 (Ht C)) :
  FnOk P w K mg base Qk (k+1) f fd ["self","row"] (Oq C):=by
 refine Fun.ok F S (by rintro vs H Q E ⟨e,i,h,_⟩;rw [h];rfl) fun cdv A outer s H vs Q E hr ⟨e,i,hv,hE,i0,i1,q⟩=>?_
 obtain ⟨h1,h2⟩:=hb cdv A outer s H E
 rw [hd]
 refine ⟨_,Jj h1 (Jw h2),?_⟩
 subst hv
 refine ⟨.ref e,rfl,.int i,rfl,i,rfl,i0,i1,fun x=>⟨e,_,rfl,hE,.int i,rfl,.ref e,rfl,e,i,rfl,rfl,hE,fun dx hn ne=>q dx hn ne⟩⟩
end
theorem Cw {K:Fg} {h:Heap} {N:Addr} {mg:Str->Option Value} {n:Str} {v:Value} (X:K.In h) (G:h.Ns N mg) (e:PySem.W.nsIn K N n=some (some v)):mg n=some v:=by
 obtain ⟨o,es,ep,ho,hd,_,hf⟩:=G
 unfold PySem.W.nsIn at e
 split at e
 ·rename_i c d es' n' sl q
  have:=X _ _ q
  rw [ho] at this
  obtain rfl:=Option.some.inj this
  cases hd
  split at e
  ·rename_i he
   cases e
   rw [<- hf]
   unfold nsFind findBy
   rw [<- Array.find?_toList,he]
   rfl
  ·split at e<;>simp at e
 ·simp at e
section
variable {X:Cx} {pins:List (Addr×Obj)} {σ:L2.St} {H:Hp} {s:Shared} {O O' OL:List Nat} {w:Bool} {e:Expr} {ev:Q4} {x:Str} {c k:Nat} {np cpos pos:Pos}
theorem QaK {C CB f:Addr} {fd:FuncData} {i:Int} {ti:Tok} (cl:XCl X.K C CB (some (.ref f))) (hfn:PySem.W.isFn X.K (.ref f)=true) (hb:Binds X.K fd ["self","row"] []) (F:FnOk X.prog X.w X.K X.mg X.base Qk k f fd ["self","row"] (Oq C)) (hr:Room (k+1) X.A)
  (I:Inv X pins σ H s) (i0:0<=i) (i1:i<10^60) {Q:Value->Shared->Prop}
  (hq:∀ e dx H' s',s.heap.objs.size<=e->H e=none->H dx=none->dx≠e->H'=upd (upd H dx (.xd [("row",.int i)])) e (.ext (ExcNew e C (some dx)))->Inv X pins σ H' s'->Q (.ref e) s'):wpAny (model X.prog X.w) X.A (call (.ref C) [.int i ti]) Q X.xe s:=by
 obtain ⟨nm,q',N,bs,sn,sub,ab,col,dd,k0,k1,k2,k3,k5,hC,hok,hni⟩:=cl.obj
 obtain ⟨hh,g,d,tk,os⟩:=s
 have kin:X.K.In hh:=I.kIn
 have hN:hh.Ns N (hh.nsMap N):=.of_isNs (PySem.W.isNs_of_in kin hok)
 have hini:hh.nsMap N "__init__"=some (.ref f):=Cw kin hN hni
 obtain ⟨oI,hlo,hcI⟩:=Option.map_eq_some_iff.mp (show (X.K.lookup f).map (·.cls)=some (.type "function") from beq_iff_eq.mp hfn)
 refine Qcs PySem.F.excBase_ValueError (cl.tl kin) (kin _ _ hC) hN hini (kin _ _ hlo) hcI (fun h' mx=>?_) (by rw [sizeLine_eq];exact Nat.le_add_left 1 _)
 obtain ⟨vs,t0,g1,g2,g3,g4⟩:=mx.ex
 have hE0:H (hh.objs.size+1)=none:=I.hok.fresh (Nat.le_succ _)
 have I2:Inv X pins σ (upd H (hh.objs.size+1) (.ext (ExcNew (hh.objs.size+1) C none))) ⟨h',g,d,tk,os⟩:=I.laid (t':=tk) mx.keeps (Nat.le_succ _) (ExcNew.ok ⟨vs,t0,g1,g2,g3,g4⟩)
 have r2:Vals [V.ref (hh.objs.size+1),V.int i] [Value.ref (hh.objs.size+1),Value.int i ti]:=.cons rfl (.cons ⟨ti,rfl⟩ .nil)
 refine wpAny_call (codeAny_mono (F.run _ X.stack ⟨h',g,d,tk,os⟩ _ ⟨[Value.ref (hh.objs.size+1),.int i ti],[]⟩ [Value.ref (hh.objs.size+1),.int i ti] _ (fun v H2=>v=.non/\∃ dx,H dx=none/\dx≠hh.objs.size+1/\H2=upd (upd H dx (.xd [("row",.int i)])) (hh.objs.size+1) (.ext (ExcNew (hh.objs.size+1) C (some dx)))) E0 (hr.make C _ [])
  (I2.env0.make C _ []) (hb _ _ I2.kIn rfl) r2 ⟨_,i,rfl,QQ,i0,i1,fun dx hn ne=>⟨rfl,dx,?_,ne,?_⟩⟩) fun r s' hq'=>?_)
 ·rw [QB ne] at hn;exact hn
 ·funext b
  by_cases z:b=hh.objs.size+1
  ·rw [z,QQ,QQ]
  ·rw [QB z,QB z]
   by_cases z2:b=dx
   ·rw [z2,QQ,QQ]
   ·rw [QB z2,QB z2,QB z]
 ·cases r with
  | error e=>exact hq'.elim
  | ok fl =>
   cases fl with
   | ret u =>
    obtain ⟨v,H',I3,rv,ev,dx,hn,ne,hH⟩:=I2.after hq'
    subst ev
    exact ⟨rv,hq _ dx H' s' (Nat.le_succ _) hE0 hn ne hH I3⟩
   | next=>exact False.elim hq'
   | brk=>exact False.elim hq'
   | cont=>exact False.elim hq'
end
end Wd
namespace Wd
open PySem PySem.Spec PyProof.Rows L2
theorem Gg {c:Nat} {d:D} {fl:Fl} (h:D.blkO c d=some fl):∃ i,d=.int i/\0<=i/\i<10^60/\fl=.rz c (.int i):=by
 cases d with
 | int i =>
  have h:(if 0<=i/\i<10^60 then some (Fl.rz c (.int i)) else none)=some fl:=h
  split at h
  ·rename_i q;obtain rfl:=Option.some.inj h;exact ⟨i,rfl,q.1,q.2,rfl⟩
  ·simp at h
 | _=>cases h
section
variable {X:Cx} {O O' OL:List Nat} {w:Bool} {e:Expr} {ev:Q4} {x:Str} {c k:Nat} {np cpos pos:Pos}
theorem Ej (m:Uq X.prog X.w X.K X.mg X.base k x c) (hr:Room (k+1) X.A) (hg:Gl X x) (ha:PE X e (tD X O ev)) (hdb:(x==("__debug__":Str))=false:=by decide) (he:starEach [e] X.env=(false,eval e X.env)::starEach [] X.env:=by rfl)
  (hpl:(backTo cpos (starEach [] X.env)).any (·.1)=false:=by rfl):PS X (.Raise (some (.Call (.Name x np) [e] [] cpos)) none pos) (tS X O O' OL w (WS c ev)):=by
 intro pins s σ H Dn I ⟨F0,F,en,fl,rs,z,kk⟩
 obtain ⟨d,e1,z1⟩:=QR z
 obtain ⟨i,rfl,i0,i1,rfl⟩:=Gg z1
 obtain ⟨C,CB,f,fd,cl,hfn,hb,Fk,hm,hxc⟩:=m
 obtain ⟨nm,q',N,bs,sn,sub,ab,col,dd,k0,k1,k2,k3,k5,hC,_⟩:=cl.obj
 rw [arm_exec_Raise]
 refine wpAny_bind (wpAny_standAt (QcA (C:=C) (nm:=nm) (q:=q') (N:=N) (bs:=bs) (bm:=.ref CB::ZO) (hdct:=true) (sn:=sn) (sub:=sub) (ab:=ab) (col:=col) (dd:=dd) (k0:=k0) (k1:=k1) (k2:=k2) (k3:=k3) (k5:=k5) (newId:="ValueError.__new__") rfl hr.hd ?_))
 refine wpAny_bind (QL (wpAny_Call_Name_kw (Xu I hg hm ?_ hdb)) fun v s3 h3=>wpAny_bind (wpAny_standAt (wpAny_pure h3)))
 refine PySem.W.callWith_K (h₀:=X.base) I.ok.mod.kin cl.kp (QL ((Qh ha Qt he) cpos pins s σ H (fun vs H1=>∃ F1,vs=[.int i]/\Gr F H F1 H1) I ⟨F0,F,en,.int i,rs,e1,fun v F1 H1 g1 r1=>?_⟩) fun us s1 ⟨vs,H1,I1,r,F1,ev,g1⟩=>⟨I1.kIn,?_⟩) he hpl
 ·cases r1
  exact ⟨F1,rfl,g1⟩
 ·subst ev
  cases r with
  | cons r1 r2 =>
   cases r2
   obtain ⟨ti,rfl⟩:=r1
   refine QaK cl hfn hb Fk hr I1 i0 i1 fun ea dx H' s' le hn hdn ne hH I3=>?_
   subst hH
   obtain ⟨⟨vs,t0,q1,q2,q3,q4⟩,_,_⟩:=(show ObjOk X.prog X.w _ s'.heap ea (.ext (ExcNew ea C (some dx))) from I3.hok ea _ QQ)
   refine ⟨ea,some dx,vs,rfl,I3.kIn _ _ hC,q1,q4,?_⟩
   have I4:=I3.write (x:=ea) (e:=ea) (o:=.ext (Y5 ea C (some dx))) (h':=s'.heap) (t':=s'.toks) (by rw [QQ];exact trivial) (.inl rfl) (fun b u _ q=>q) ⟨_,q1⟩ (ExcNew.at ⟨vs,t0,q1,q2,q3,q4⟩)
   rw [Qch] at I4
   have fe:F1 ea=none:=g1.fh.none hn
   have fd':F1 dx=none:=g1.fh.none hdn
   have G:Gr F1 H1 (upd (upd F1 dx (.xd [("row",.int i)])) ea (.ext (Y5 ea C (some dx)))) (upd (upd H1 dx (.xd [("row",.int i)])) ea (.ext (Y5 ea C (some dx)))):=by
    refine ⟨?_,?_,(g1.fh.upd2 _ _).upd2 _ _,fun a o h=>?_⟩
    ·exact ((Sm.refl F1).upd _ fd').upd _ fe
    ·exact ((Sm.refl H1).upd _ hdn).upd _ hn
    ·by_cases z1:a=ea
     ·rw [z1];exact .inr hn
     ·rw [QB z1] at h
      by_cases z2:a=dx
      ·rw [z2];exact .inr hdn
      ·rw [QB z2] at h;exact .inl h
   refine kk pins σ _ _ s' ea I4 (rs.exg (g1.trans G)) (.exc (dx:=dx) (by rw [hxc];exact QQ) (by rw [QB ne];exact QQ)) ⟨Nat.le_trans I1.sz le,_,vs,q1,rfl,q2,.inl q4⟩
end
end Wd
namespace Wd
open PySem PySem.Spec PyProof.Rows L2
section
variable {X:Cx} {O O' OL:List Nat} {w:Bool} {x:Str} {k:Nat} {np cpos pos:Pos}
end
end Wd
namespace PySem
open Sem (wp)
section
variable {prog:Program} {w:World} {A:Around} {E:Value->Shared->Prop} {h:Heap} {g:Array GenState} {d:Drawn} {t:Nat} {os:OsState} {K:W.Frag} {C e:Addr} {ox:Obj} {od:Option Obj} {v:Value} {ms:List Value}
theorem Qcu {tk:Tok} {R:Result->Shared->Prop} (X:K.In h) (I:W.InstAt h e ox C od) (hm:W.mroIn K C (.type "BaseException")=some true) (hmo:W.mroIn K C (.type "object")=some true)
  (hf:W.findObj K C od "__class__"=some (.bind (.builtin "getset_descriptor.__get__") (.builtin "object.__class__"))) (hq:R (.ok (.ret (.ref C))) ⟨h,g,d,t,os⟩) :
  codeAny (model prog w) A (.call (.builtin "BaseException.__getattribute__") ⟨[.ref e,.str "__class__" tk],[]⟩) R ⟨h,g,d,t,os⟩:=by
 have L0:=I.type (M:=model prog w)
 have L1:=W.looks_find (M:=model prog w) X I hf
 refine codeAny_call_builtin (by decide +kernel) F.entry_bexc_ga ?_
 have hk:builtinKind "BaseException.__getattribute__"=some .slot:=by decide +kernel
 have hsplit:splitId "BaseException.__getattribute__"=some ("BaseException","__getattribute__"):=by decide +kernel
 have ha:=F.args_bexc_ga (.ref e) (.str "__class__" tk)
 have LI:W.Looks (model prog w) h (isInstance (.ref e) (.type "BaseException")) true:=L0.andThen (W.looks_mroIn X hm)
 simp only [checkBuiltinCall,hk,hsplit]
 refine wpAny_bind (LI.at ?_)
 refine wpAny_of_eq ha ?_
 refine wpAny_bind (wpAny_pure (wpAny_bind (wpAny_pure (wpAny_bind (L0.at (wpAny_bind (L1.at ?_)))))))
 show wpAny _ _ (Builtin.ObjectAttr.bindTo _ _ _ _) _ _ _
 unfold Builtin.ObjectAttr.bindTo
 dsimp only
 refine wpAny_bind (wpAny_holding (wpAny_call (W.class_get (s:=⟨h,g,d,t,os⟩) (ox:=ox) (od:=od) X I hmo ?_)))
 exact wpAny_pure hq
theorem Qct {Q:Option Value->Shared->Prop} (X:K.In h) (I:W.InstAt h e ox C od) (hm:W.mroIn K C (.type "BaseException")=some true) (hmo:W.mroIn K C (.type "object")=some true) (hga:W.findIn K (.ref C) "__getattribute__"=some (some (.builtin "BaseException.__getattribute__")))
  (hno:W.findIn K (.ref C) "__getattr__"=some none) (hf:W.findObj K C od "__class__"=some (.bind (.builtin "getset_descriptor.__get__") (.builtin "object.__class__"))) (hq:Q (some (.ref C)) ⟨h,g,d,t+1,os⟩) :
  wpAny (model prog w) A (getAttr? (.ref e) "__class__") Q E ⟨h,g,d,t,os⟩:=by
 have L0:=I.type (M:=model prog w)
 have L1:=W.looks_findIn (M:=model prog w) X hga
 have L2:=W.looks_findIn (M:=model prog w) X hno
 unfold getAttr? getAttrBy?
 refine wpAny_bind (wpAny_mkText (wpAny_bind (wpAny_attempt ?_)))
 unfold getAttrBy
 refine wpAny_holding (wpAny_bind (L0.at (wpAny_bind (L1.at ?_))))
 show wpAny _ _ (getAttrByItsOwn _ _ _ _ _ _) _ _ _
 refine wpAny_bind (L2.at (wpAny_bind ?_))
 refine wpAny_attempt (wpAny_holding ?_)
 show wpAny _ _ (boundAndCalled _ _ _) _ _ _
 refine wpAny_bind (wpAny_of_eq (F.attrBase_ValueError.ga.bind _) ?_)
 refine wpAny_call (Qcu X I hm hmo hf ?_)
 exact W.handed_on rfl (wpAny_pure hq)
end
end PySem
namespace Wd
open PySem PySem.Spec PyProof.Rows L2
def nonV:V->Bool
 | .non=>true
 | _=>false
def nonD:D->Bool
 | .non=>true
 | _=>false
theorem ID {v:V} {u:Value} (h:RelV v u):plainIs u .none=true/\(u==Value.none)=nonV v:=by
 cases v with
 | non=>cases (show u=Value.none from h);exact ⟨rfl,rfl⟩
 | bl b=>cases (show u=Value.bool b from h);exact ⟨rfl,rfl⟩
 | int i=>obtain ⟨t,rfl⟩:=(show ∃ t,u=Value.int i t from h);exact ⟨rfl,rfl⟩
 | str i=>obtain ⟨t,rfl⟩:=(show ∃ t,u=Value.str i t from h);exact ⟨rfl,rfl⟩
 | byt i=>obtain ⟨t,rfl⟩:=(show ∃ t,u=Value.bytes i t from h);exact ⟨rfl,rfl⟩
 | flt i=>obtain ⟨t,rfl⟩:=(show ∃ t,u=Value.float i t from h);exact ⟨rfl,rfl⟩
 | ref a=>cases (show u=Value.ref a from h);exact ⟨rfl,rfl⟩
 | ty n=>cases (show u=Value.type n from h);exact ⟨rfl,rfl⟩
theorem RdD.nonE {K:Fg} {F H:Hp} {v:V} {d:D} (r:RdD K F H v d):nonV v=nonD d:=by
 rcases r with r | ⟨p,k,xs,ds,rfl,_,_,rfl,_⟩
 ·cases r<;>rfl
 ·cases k<;>rfl
section
variable {X:Cx} {O:List Nat} {a b tg:Expr} {p pos:Pos}
theorem IM:OpR X (compareOp .Is) (fun x y H Q=>y=.non/\Q (.bl (nonV x)) H):=by
 rintro pins s σ H x y v u Q I rx ry ⟨rfl,q⟩
 cases (show u=Value.none from ry)
 obtain ⟨h1,h2⟩:=ID rx
 exact PySem.wpAny_is_plain h1 (by rw [h2];exact PM I q rfl)
theorem AJ:OpR X (compareOp .IsNot) (fun x y H Q=>y=.non/\Q (.bl (!nonV x)) H):=by
 rintro pins s σ H x y v u Q I rx ry ⟨rfl,q⟩
 cases (show u=Value.none from ry)
 obtain ⟨h1,h2⟩:=ID rx
 exact PySem.wpAny_isNot_plain h1 (by rw [h2];exact PM I q rfl)
theorem Dm {ea:Q4} {σ:L2.St} {H:Hp} {Q:VK} (h:tD X O (QA D.isN ea) σ H Q):Yi (fun x y H Q=>y=.non/\Q (.bl (nonV x)) H) (tR X O ea) (tC .non) σ H Q:=by
 obtain ⟨F0,F,en,d,rs,w,k⟩:=h
 obtain ⟨dx,e1,e3⟩:=QR w
 refine ⟨F0,F,en,dx,rs,e1,fun x F1 H1 g1 r1=>⟨rfl,?_⟩⟩
 have:d=.bl (nonD dx):=by cases dx<;>(obtain rfl:=Option.some.inj e3;rfl)
 rw [r1.nonE];subst this
 exact k _ F1 H1 g1 (.bl _)
theorem Dj {ea:Q4} {σ:L2.St} {H:Hp} {Q:VK} (h:tD X O (QA D.isNN ea) σ H Q):Yi (fun x y H Q=>y=.non/\Q (.bl (!nonV x)) H) (tR X O ea) (tC .non) σ H Q:=by
 obtain ⟨F0,F,en,d,rs,w,k⟩:=h
 obtain ⟨dx,e1,e3⟩:=QR w
 refine ⟨F0,F,en,dx,rs,e1,fun x F1 H1 g1 r1=>⟨rfl,?_⟩⟩
 have:d=.bl (!nonD dx):=by cases dx<;>(obtain rfl:=Option.some.inj e3;rfl)
 rw [r1.nonE];subst this
 exact k _ F1 H1 g1 (.bl _)
theorem Es {ea:Q4} {j p} (ha:PE X a (tR X O ea)):PT X (.Compare a [.Is] [.Constant .none j p] pos) (tDT X O (QA D.isN ea)):=PT.imp (SD IM ha UR (J5 _)) fun σ H Q h=>Dm (Ox h)
theorem Et {ea:Q4} {j p} (ha:PE X a (tR X O ea)):PT X (.Compare a [.IsNot] [.Constant .none j p] pos) (tDT X O (QA D.isNN ea)):=PT.imp (SD AJ ha UR (J5 _)) fun σ H Q h=>Dj (Ox h)
end
structure XRd (K:Fg) (C:Addr):Prop where
 ga:PySem.W.findIn K (.ref C) "__getattribute__"=some (some (.builtin "BaseException.__getattribute__"))
 gn:PySem.W.findIn K (.ref C) "__getattr__"=some none
 no:PySem.W.findIn K (.ref C) "row"=some none
 ca:PySem.W.findIn K (.ref C) "__class__"=some (some (.builtin "object.__class__"))
 hn:PySem.W.specialIn K (.builtin "object.__class__") "__get__"=some (some (.builtin "getset_descriptor.__get__"))
 tk:PySem.W.takesIn K (.builtin "object.__class__")=some true
 mb:PySem.W.mroIn K C (.type "BaseException")=some true
 mo:PySem.W.mroIn K C (.type "object")=some true
 hd:PySem.W.hasDictIn K C=true
structure XR (K:Fg):Prop where
 rd:∀ c,c<=6->XRd K (Qz K c)
 is:∀ c c',c<=6->c'<=6->PySem.W.kitOne K (.ref (Qz K c)) (.ref (Qz K c'))=some (decide (c=c'))
 va:∀ c,c<=6->PySem.W.kitOne K (.ref (Qz K c)) (.type "ValueError")=some true
 nn:∀ c,c<=6->PySem.W.kitOne K (.type "NoneType") (.ref (Qz K c))=some false
 nv:PySem.W.kitOne K (.type "NoneType") (.type "ValueError")=some false
theorem D9 {K:Fg} {C:Addr} {od:Option Obj} {name:Str} {a g:Value} (hh:PySem.W.hasDictIn K C=true) (ha:PySem.W.findIn K (.ref C) name=some (some a)) (hg:PySem.W.specialIn K a "__get__"=some (some g)) (ht:PySem.W.takesIn K a=some true):PySem.W.findObj K C od name=some (.bind g a):=by
 obtain ⟨cd,hc,_⟩:=PySem.W.any_some hh
 unfold PySem.W.findObj
 rw [hc,Option.bind_some,ha,Option.bind_some]
 simp [hg,ht]
def Ng (e C:Addr) (h:Heap):Prop:=∃ ox od,PySem.W.InstAt h e ox C od
theorem CN {K:Fg} {e C:Addr} (R:XRd K C):PySem.W.KitX K (.ref e) (.ref C) (Ng e C) where
 ty:=by rintro _ _ _ ⟨_,_,I⟩;exact I.type
 it:=fun _ _ X _=>by
  obtain ⟨cdD,hcD,_⟩:=PySem.W.any_some R.hd
  unfold PySem.W.clsIn at hcD
  split at hcD
  ·rename_i c' d' cd' sl' ho
   intro A' Q' E' s' k q
   unfold isType loadHead
   exact wpAny_bind (wpAny_loadPart (k _ _ (X _ _ ho)) (wpAny_pure q))
  ·simp at hcD
 ne:=fun h tp dd its n sl X htp=>by
  obtain ⟨cdD,hcD,_⟩:=PySem.W.any_some R.hd
  refine Bool.eq_false_iff.mpr fun q=>?_
  have e:C=tp:=Value.ref.inj (beq_iff_eq.mp q)
  subst e
  unfold PySem.W.clsIn at hcD
  split at hcD
  ·rename_i c' d' cd' sl' ho
   have z:=(X _ _ ho).symm.trans htp
   simp at z
  ·simp at hcD
 ca:=fun {_ _ _ _ _ s} X ⟨ox,od,I⟩ k=>by
  obtain ⟨h,g,d,t,os⟩:=s
  exact Qct X I R.mb R.mo R.ga R.gn (D9 R.hd R.ca R.hn R.tk) k
section
variable {X:Cx} {O:List Nat} {a:Expr} {p p2 pos:Pos} {ev:Q4} {x y:Str} {c:Nat} {pins:List (Addr×Obj)} {σ:L2.St} {H F:Hp} {s:Shared}
theorem K7 {e:Addr} {n:D} (I:Inv X pins σ H s) (sm:Sm F H) (r:Rep X.K F (.ref e) (.exc c n)):Ng e (Qz X.K c) s.heap:=by
 cases r with
 | exc0 h =>
  obtain ⟨⟨vs,t,e1,_⟩,_,_⟩:=(show ObjOk X.prog X.w H s.heap e (.ext (Y5 e (Qz X.K 0) none)) from I.hok e _ (sm _ _ h))
  exact ⟨_,none,e1,rfl,rfl,trivial⟩
 | @exc _ dx _ _ h hx =>
  obtain ⟨⟨vs,t,e1,_⟩,_,_⟩:=(show ObjOk X.prog X.w H s.heap e (.ext (Y5 e (Qz X.K c) (some dx))) from I.hok e _ (sm _ _ h))
  obtain ⟨mA,⟨o,es,ep,ho,_⟩,_⟩:=(show ObjOk X.prog X.w H s.heap dx (.xd _) from I.hok dx _ (sm _ _ hx))
  exact ⟨_,some o,e1,rfl,rfl,ho⟩
def Iy (X:Cx) (y:V) (bx:Nat->Bool):List V->Hp->VK->Prop:=fun xs H Q=>∃ x,xs=[x,y]/\((x=.non/\Q (.bl false) H)\/∃ e F c n,x=.ref e/\Sm F H/\Rep X.K F (.ref e) (.exc c n)/\c<=6/\Q (.bl (bx c)) H)
theorem LM {yv:V} {yu:Value} {bx:Nat->Bool} (R:XR X.K) (hy:RelV yv yu) (hy1:∀ u,RelV yv u->u=yu) (h1:∀ c,c<=6->PySem.W.kitOne X.K (.ref (Qz X.K c)) yu=some (bx c)) (h2:PySem.W.kitOne X.K (.type "NoneType") yu=some false):CallR X (.builtin "isinstance") (Iy X yv bx):=by
 intro pins s σ H xs us Q I r ⟨x,hx,h⟩
 subst hx
 obtain ⟨u,w,rfl,rx,rw'⟩:=Sl r
 obtain rfl:=hy1 w rw'
 rcases h with ⟨rfl,q⟩ | ⟨e,F,c,n,rfl,sm,rp,hc,q⟩
 ·cases (show u=Value.none from rx)
  exact PySem.W.kia_one PySem.W.kitx_none I.kIn True.intro h2 (fun z=>nomatch z) fun tk=>⟨.bl false,H,I.tok tk,rfl,q⟩
 ·cases (show u=Value.ref e from rx)
  exact PySem.W.kia_one (CN (R.rd c hc)) I.kIn (K7 I sm rp) (h1 c hc) (fun z=>nomatch z) fun tk=>⟨.bl (bx c),H,I.tok tk,rfl,q⟩
theorem Aj {v:Addr} (hg:Gl X y) (hm:X.mg y=some (.ref v)) (hdb:(y==("__debug__":Str))=false:=by decide):PE X (.Name y pos) (tC (.ref v)):=fun _ _ _ H _ I h=>Xu I hg hm ⟨.ref v,H,I,rfl,h⟩ hdb
theorem KL {g:D->Option D} {yv:V} {bx:Nat->Bool} (hn:g .non=some (.bl false)) (hg:∀ c n d,g (.exc c n)=some d->c<=6/\d=.bl (bx c)) (ho:∀ dx d,g dx=some d->dx=.non\/∃ c n,dx=.exc c n) {σ:L2.St} {H:Hp} {Q:VK} (h:tD X O (QA g ev) σ H Q) :
  Ow (Iy X yv bx) (Qy (tR X O ev) (Qy (tC yv) J7)) σ H Q:=by
 obtain ⟨F0,F,en,d,rs,w,k⟩:=h
 obtain ⟨dx,e1,e2⟩:=QR w
 refine ⟨F0,F,en,dx,rs,e1,fun v F1 H1 g1 r1=>⟨v,rfl,?_⟩⟩
 rcases ho dx d e2 with rfl | ⟨c,n,rfl⟩
 ·rw [hn] at e2;obtain rfl:=Option.some.inj e2
  exact .inl ⟨r1.non,k _ F1 H1 g1 (.bl _)⟩
 ·obtain ⟨h1,rfl⟩:=hg c n d e2
  rcases r1 with r1 | ⟨p,kk,xs,ds,_,_,_,hd,_⟩
  ·cases r1 with
   | exc0 h=>exact .inr ⟨_,F1,0,.non,rfl,g1.fh,.exc0 h,h1,k _ F1 H1 g1 (.bl _)⟩
   | exc h hx=>exact .inr ⟨_,F1,c,_,rfl,g1.fh,.exc h hx,h1,k _ F1 H1 g1 (.bl _)⟩
  ·cases kk<;>cases hd
theorem Dd {dx d:D} (h:D.instX c dx=some d):dx=.non\/∃ c n,dx=.exc c n:=by
 cases dx with
 | non=>exact .inl rfl
 | exc c n=>exact .inr ⟨c,n,rfl⟩
 | _=>cases h
theorem Dc {dx d:D} (h:D.instV dx=some d):dx=.non\/∃ c n,dx=.exc c n:=by
 cases dx with
 | non=>exact .inl rfl
 | exc c n=>exact .inr ⟨c,n,rfl⟩
 | _=>cases h
theorem Ka {q:Prop} [Decidable q] {a d:D} (h:(if q then some a else none)=some d):q/\d=a:=by
 split at h
 ·rename_i z;obtain rfl:=Option.some.inj h;exact ⟨z,rfl⟩
 ·simp at h
theorem Vq (R:XR X.K) (hc:c<=6) (hy:X.mg y=some (.ref (Qz X.K c))) (hg:Gl X x) (hm:X.mg x=none) (hv:bootBuiltins x=some (.builtin "isinstance")) (hg2:Gl X y) (ha:PE X a (tR X O ev)) (hn:x≠"__name__":=by decide) (hdb:(x==("__debug__":Str))=false:=by decide) (hdb2:(y==("__debug__":Str))=false:=by decide)
  (he:starEach [a,.Name y p2] X.env=[(false,eval a X.env),(false,eval (.Name y p2) X.env)]:=by rfl) (he2:starEach [.Name y p2] X.env=[(false,eval (.Name y p2) X.env)]:=by rfl):PE X (.Call (.Name x p) [a,.Name y p2] [] pos) (tD X O (QA (D.instX c) ev)) :=
 PE.imp (UO (LM (yv:=.ref (Qz X.K c)) (yu:=.ref (Qz X.K c)) (bx:=fun c'=>decide (c'=c)) R rfl (fun u h=>h) (fun c' h=>R.is c' c h hc) (R.nn c hc)) hg hm hv (Qh ha (Qh (Aj hg2 hy hdb2) Qt he2) (by rw [he,he2])) hn hdb (by rw [he,he2]) (by rw [he2];rfl))
  fun σ H Q h=>KL rfl (fun c' n d h=>Ka h) (fun dx d h=>Dd h) h
theorem EV (R:XR X.K) (hg:Gl X x) (hm:X.mg x=none) (hv:bootBuiltins x=some (.builtin "isinstance")) (hg2:Gl X "ValueError") (hm2:X.mg "ValueError"=none) (ha:PE X a (tR X O ev)) (hn:x≠"__name__":=by decide) (hdb:(x==("__debug__":Str))=false:=by decide)
  (he:starEach [a,.Name "ValueError" p2] X.env=[(false,eval a X.env),(false,eval (.Name "ValueError" p2) X.env)]:=by rfl) (he2:starEach [.Name "ValueError" p2] X.env=[(false,eval (.Name "ValueError" p2) X.env)]:=by rfl):PE X (.Call (.Name x p) [a,.Name "ValueError" p2] [] pos) (tD X O (QA D.instV ev)) :=
 PE.imp (UO (LM (yv:=.ty "ValueError") (yu:=.type "ValueError") (bx:=fun _=>true) R rfl (fun u h=>h) (fun c' h=>R.va c' h) R.nv) hg hm hv (Qh ha (Qh (Ic hg2 hm2 PyProof.Rows.Boot.«ValueError» (show RelV (.ty "ValueError") (.type "ValueError") from rfl)) Qt he2) (by rw [he,he2])) hn hdb (by rw [he,he2]) (by rw [he2];rfl))
  fun σ H Q h=>KL rfl (fun c' n d h=>Ka h) (fun dx d h=>Dc h) h
end
end Wd
namespace Wd
open PySem PySem.Spec PyProof.Rows L2
section
variable {X:Cx} {O:List Nat} {a:Expr} {p p2 pos:Pos} {ev:Q4}
theorem EU (R:XR X.K) (ha:PE X a (tR X O ev)) (hb:attributeBase a "row" X.env (eval a X.env)=eval a X.env:=by rfl):PE X (.Attribute a "row" pos) (tD X O (QA D.blk ev)):=by
 intro pins s σ H Q I ⟨F0,F,en,d,rs,w,k⟩
 obtain ⟨dx,e1,e2⟩:=QR w
 obtain ⟨c,hc,rfl⟩:∃ c,(¬ (c=0\/6<c))/\dx=.exc c d:=by
  cases dx with
  | exc c n =>
   have e2:(if c=0\/6<c then none else some n)=some d:=e2
   split at e2
   ·simp at e2
   ·rename_i z;obtain rfl:=Option.some.inj e2;exact ⟨c,z,rfl⟩
  | _=>cases e2
 refine GZ hb (QL (ha pins s σ H (fun v H1=>∃ F1,Gr F H F1 H1/\Rep X.K F1 v (.exc c d)) I ⟨F0,F,en,_,rs,e1,fun v F1 H1 g1 r1=>?_⟩) fun u s1 ⟨v,H1,I1,rv,F1,g1,r1⟩=>?_)
 ·rcases r1 with r1 | ⟨p,kk,xs,ds,_,_,_,hd,_⟩
  ·exact ⟨F1,g1,r1⟩
  ·cases kk<;>cases hd
 ·cases r1 with
  | exc0 h=>exact absurd (.inl rfl) hc
  | @exc e dx _ i h hx =>
   cases (show u=Value.ref e from rv)
   have R':=R.rd c (by omega)
   obtain ⟨⟨vs,t,q1,_⟩,_,_⟩:=(show ObjOk X.prog X.w H1 s1.heap e (.ext (Y5 e (Qz X.K c) (some dx))) from I1.hok e _ (g1.fh _ _ h))
   obtain ⟨mA,hns,hl⟩:=(show ObjOk X.prog X.w H1 s1.heap dx (.xd [("row",.int i)]) from I1.hok dx _ (g1.fh _ _ hx))
   obtain ⟨od,ho,hlk⟩:=Kr hns
   obtain ⟨u,hu,ru⟩:=RelO.some_of (v:=.int i) (o:=mA "row") (hl "row")
   obtain ⟨hh,g,d',tk,os⟩:=s1
   exact Qcw (od:=some od) I1.kIn ⟨q1,rfl,rfl,ho⟩ R'.mb R'.ga R'.gn (PySem.W.findObj_own R'.hd R'.no rfl (by rw [hlk,hu])) (DI ru) ⟨.int i,H1,I1.tok _,ru,k _ F1 H1 g1 (.int i)⟩
end
end Wd
namespace Wd
open PySem PySem.Spec PyProof.Rows L2
section
variable {M:Model} {A:Around} {E:Value->Shared->Prop} {s:Shared}
theorem Cf {oT:Obj} {ts:Array Value} (hd:oT.data=.fields ts) (h3:ts[3]?=some .none):Obj.mapFields (·.setIfInBounds 3 Value.none) oT=oT:=by
 rw [Kw hd]
 obtain ⟨c,d,dt,sl⟩:=oT
 dsimp only at hd
 subst hd
 congr 2
 apply Array.ext_getElem?
 intro i
 rw [Array.getElem?_setIfInBounds]
 split
 ·rename_i z;subst z
  obtain ⟨hlt,h⟩:=Array.getElem?_eq_some_iff.mp h3
  rw [if_pos hlt,h3]
 ·rfl
theorem G1 {h:Heap} {T:Addr} {oT:Obj} {ts:Array Value} (hT:h.get? T=some oT) (hd:oT.data=.fields ts) (h3:ts[3]?=some .none) (b:Addr):(h.update T (Obj.mapFields (·.setIfInBounds 3 Value.none))).get? b=h.get? b:=by
 by_cases z:b=T
 ·subst z
  rw [Heap.get?_update_self (Obj.mapFields (·.setIfInBounds 3 Value.none)) hT (Obj.isFreed_of_fields (Obj.data_mapFields hd _)),hT,Cf hd h3]
 ·exact Heap.get?_update_other _ _ (Ne.symm z)
theorem Ac {base:Heap} {env:Env} {outer:List Env} {L ea:Addr} {s₀:Heap} {H:Hp} {Q:Unit->Shared->Prop}
  (hfr:A.frames=some (env::outer)) (hl:s.heap.FunFrames base (env::outer)) (hf:env.frame=some L) (hs:s₀.objs.size<=s.heap.objs.size) (hH:∀ a,s.heap.objs.size<=a->H a=none) (fly:Fly s₀ H ea s.heap)
  (h:∀ h',Passed s₀ H (JH (env::outer)) [] ea s.heap h'->Q () { s with heap:=h' }) :
  wpAny M A (noteFrame (.ref ea) env) (fun _ s'=>wpAny M A (setFlight (.ref ea) none) Q E s') E s:=by
 obtain ⟨h0,oe,vs,he,hd,hsz,h1 | ⟨T,oT,ts,h1,hT0,hHT,hTe,hT,hdT,h3⟩⟩:=fly
 ·unfold noteFrame
  simp only [hf]
  refine wpAny_bind (wpAny_field he hd h1 ?_)
  rw [if_neg (by decide)]
  exact S9 hfr hl hf he hd hsz h0 hs hH fun h' p=>h h' p
 ·unfold noteFrame
  simp only [hf]
  refine wpAny_bind (wpAny_field he hd h1 ?_)
  rw [if_pos (show (Value.ref T != Value.none)=true from by simp)]
  refine wpAny_bind (wpAny_field hT hdT h3 ?_)
  rw [if_neg (show ¬ ((Value.none==rawInt L)=true) from by simp [rawInt])]
  refine wpAny_bind (wpAny_setField hT hdT (Array.getElem?_eq_some_iff.mp h3).1 ?_)
  have all:∀ b,(s.heap.update T (Obj.mapFields (·.setIfInBounds 3 Value.none))).get? b=s.heap.get? b:=fun b=>G1 hT hdT h3 b
  have hsz':(s.heap.update T (Obj.mapFields (·.setIfInBounds 3 Value.none))).objs.size=s.heap.objs.size:=Heap.size_update ..
  refine S9 (base:=base) hfr (hl.of_keeps fun b o hb hnf=>⟨o,(all b).trans hb,rfl⟩) hf ((all ea).trans he) hd hsz h0 (by show s₀.objs.size<=(s.heap.update T _).objs.size;rw [hsz'];exact hs) (fun a ha=>hH a (by have:(s.heap.update T (Obj.mapFields (·.setIfInBounds 3 Value.none))).objs.size<=a:=ha;omega)) fun h' p=>h h' ?_
  exact ⟨fun b o hb hbf hbe hc=>p.keep b o ((all b).trans hb) hbf hbe hc,fun b o hb hbf=>p.slot b o ((all b).trans hb) hbf,fun oe' vs' he' hd'=>p.ex oe' vs' ((all ea).trans he') hd',(fun _ z=>nomatch z),(fun _ z=>nomatch z),p.fly⟩
theorem DC {ea:Addr} {s₀:Heap} {H:Hp} {Q:Unit->Shared->Prop} (fly:Fly s₀ H ea s.heap) (h:∀ h',(∀ b,h'.get? b=s.heap.get? b)->Q () { s with heap:=h' }):wpAny M A (setFlight (.ref ea) none) Q E s:=by
 obtain ⟨h0,oe,vs,he,hd,hsz,h1 | ⟨T,oT,ts,h1,hT0,hHT,hTe,hT,hdT,h3⟩⟩:=fly
 ·unfold setFlight
  refine wpAny_bind (wpAny_field he hd h1 ?_)
  rw [if_neg (by decide)]
  exact wpAny_pure (h s.heap fun _=>rfl)
 ·unfold setFlight
  refine wpAny_bind (wpAny_field he hd h1 ?_)
  rw [if_pos (show (Value.ref T != Value.none)=true from by simp)]
  exact wpAny_setField hT hdT (Array.getElem?_eq_some_iff.mp h3).1 (h _ fun b=>G1 hT hdT h3 b)
end
def PX (X:Cx) (st:Stmt) (O:List Nat) (b:Q8):Prop:=∀ (pins:List (Addr×Obj)) (s:Shared) (σ:L2.St) (H:Hp) (F0:Fz) (F:Hp) (en:Q2) (fl:Fl),Inv X pins σ H s->RS X.K X.H₀ F0 F H σ en O->b en=some fl ->
 wpAny (model X.prog X.w) X.A (exec st X.env) (fun f s'=>f=.next/\fl=.nx en/\∃ F' H',Sm F F'/\Inv X pins σ H' s'/\RS X.K X.H₀ F0 F' H' σ en O)
  (fun v s'=>∃ c n ea F' H',fl=.rz c n/\v=.ref ea/\Sm F F'/\Inv X pins σ H' s'/\RS X.K X.H₀ F0 F' H' σ en O/\Rep X.K F' (.ref ea) (.exc c n)/\Fly X.s₀.heap H' ea s'.heap) s
section
variable {X:Cx} {O OL:List Nat} {w:Bool} {e a:Expr} {es:List Expr} {p pos cpos:Pos} {x y:Str} {ps:List Str} {k:Nat}
theorem Qal {f:List D->Option Rs} {l:JT} (c:R5 X.prog X.w X.K X.mg X.base k x ps (Sf X.K f)) (hr:Room k X.A) (hg:Gl X x) (ha:∀ E,PA (X.wish E) (e::es) (tL (X.wish E) O l)) (hdb:(x==("__debug__":Str))=false:=by decide) (he:starEach (e::es) X.env=(false,eval e X.env)::starEach es X.env:=by rfl)
  (hpl:(backTo cpos (starEach es X.env)).any (·.1)=false:=by rfl) (hsw:swapsWith (.Call (.Name x p) (e::es) [] cpos) none pos.line X.env=pure false:=by rfl):PX X (.Expr (.Call (.Name x p) (e::es) [] cpos) pos) O (UX f l):=by
 intro pins s σ H F0 F en fl I rs z
 obtain ⟨ds,e1,z1⟩:=QR z
 obtain ⟨r,e2,rfl⟩:=JQ z1
 obtain ⟨fa,fd,Fk,hb,hk,hm⟩:=c
 refine wpAny_Expr_any (wpAny_Call_Name_kw (Xu I hg hm ?_ hdb)) I.quiet hsw
 refine PySem.W.callWith_K (h₀:=X.base) I.ok.mod.kin hk (wpAny_mono (ha (fun _ _=>False) cpos pins s σ H (fun vs H1=>∃ F1,Gr F H F1 H1/\Reps X.K F1 vs ds) (I.wish _) ⟨F0,F,en,ds,rs,e1,fun vs F1 H1 g1 r1=>⟨F1,g1,r1⟩⟩) (fun us s1 ⟨vs,H1,I1,rv,F1,g1,r1⟩=>⟨I1.unwish.kIn,?_⟩) (fun _ _ z=>z.elim)) he hpl
 have I2:=I1.unwish
 have r2:Vals (vs++[]) (us++[]):=rv.append .nil
 have spec:Sf X.K f (vs++[]) H1 (fun v H'=>∃ d F',r=.inl d/\Gr F1 H1 F' H') (fun v _ H'=>∃ ea c n F',v=.ref ea/\r=.inr (c,n)/\Gr F1 H1 F' H'/\Rep X.K F' (.ref ea) (.exc c n)):=by
  refine ⟨F1,ds,r,g1.fh,(List.append_nil vs).symm▸r1,e2,?_⟩
  cases r with
  | inl d=>exact fun v F' H' g _=>⟨d,F',rfl,g⟩
  | inr cn=>exact fun ea F' H' g rx=>⟨ea,cn.1,cn.2,F',rfl,rfl,g,rx⟩
 have hl:(us++[]).length=ps.length:=by rw [<- r2.length];exact Fk.len _ _ _ _ spec
 refine wpAny_call (codeAny_mono (Fk.run X.A X.stack s1 H1 ⟨us,[]⟩ (us++[]) (vs++[]) _ _ hr I2.env0 (hb s1 us I2.kIn hl) r2 spec) fun rr s' hq=>?_)
 cases rr with
 | error v =>
  obtain ⟨ea,H',he,hos,hbr,un,hok,fly,ea',c,n,F',hv,rfl,g,rx⟩:=hq
  cases hv
  exact ⟨c,n,ea,F',H',rfl,he,g1.ff.trans g.ff,I2.call' hos un hok hbr (fun b z=>absurd z (by simp)),rs.grow (g1.trans g),rx,fly.mono I2.sz⟩
 | ok fl =>
  cases fl with
  | ret u =>
   obtain ⟨v,H',I3,rv',d,F',rfl,g⟩:=I2.after hq
   exact ⟨rfl,rfl,F',H',g1.ff.trans g.ff,I3,rs.grow (g1.trans g)⟩
  | next=>exact False.elim hq
  | brk=>exact False.elim hq
  | cont=>exact False.elim hq
end
end Wd
namespace PySem
open Sem (wp)
section
variable {M:Model} {A:Around} {E:Value->Shared->Prop}
theorem Qcy {h:Heap} {g:Array GenState} {d:Drawn} {t:Nat} {os:OsState} {e:Addr} {oe:Obj} {Q:Bool->Shared->Prop}
  {nm q nm' q':Str} {C N CB NB:Addr} {bs bm bs' bm':List Value} {hdct hdct':Bool} {sn sn':List Str} {sub sub':List Value} {ab ab':Bool} {col col':Option Bool} {dd dd':Option Addr} {k0 k1 k2 k3 k5 k0' k1' k2' k3' k5':Option Value} {newId newId':String}
  (hC:h.get? C=some (excClassObj nm q C N bs bm hdct sn sub ab col dd k0 k1 k2 k3 k5 newId)) (hB:h.get? CB=some (excClassObj nm' q' CB NB bs' bm' hdct' sn' sub' ab' col' dd' k0' k1' k2' k3' k5' newId')) (he:h.get? e=some oe) (hcls:oe.cls=.ref C)
  (hbase:bm'.contains (.type "BaseException")=true) (hin:bm.contains (.ref CB)=true)
  (hq:Q true ⟨h,g,d,t,os⟩):wpAny M A (excMatches (.ref e) (.ref CB)) Q E ⟨h,g,d,t,os⟩:=by
 have hcB:(Value.ref CB::bm').contains (.type "BaseException")=true:=by rw [List.contains_cons,hbase,Bool.or_true]
 have hcC:(Value.ref C::bm).contains (.ref CB)=true:=by rw [List.contains_cons,hin,Bool.or_true]
 have f:=tc_notTuple
 unfold excMatches
 repeat (first | (with_reducible refine wpAny_loadPart_at he ?_;rw [hcls]) | with_reducible refine wpAny_loadPart_at hB ?_ | with_reducible refine wpAny_loadPart_at hC ?_ | (with_reducible refine wpAny_isSubtype_exc hB ?_;rw [hcB]) | (with_reducible refine wpAny_isSubtype_exc hC ?_;rw [hcC]) | wp_step)
 exact hq
end
end PySem
namespace Wd
open PySem PySem.Spec PyProof.Rows L2
theorem RS.del {K:Fg} {H₀:Hp} {F0:Fz} {F H:Hp} {σ:L2.St} {en:Q2} {O:List Nat} {i:Nat} (r:RS K H₀ F0 F H σ en O) (hi:i<en.length) (hq:Qe i∉O):RS K H₀ F0 F H (σ.set i none) (en.set i none) (dl i O) where
 fh:=r.fh
 hh:=r.hh
 ff:=r.ff
 fr:=r.fr
 slot:=fun j d' e1 hj=>by
  rw [JD hi] at e1
  rw [JD (by rw [r.len];exact hi)]
  split at e1
  ·simp at e1
  ·rename_i z
   rw [if_neg z]
   exact r.slot j d' e1 fun q=>hj (mem_dl.mpr ⟨q,fun w=>z w.symm⟩)
 own:=fun j d' e1 hj=>by
  obtain ⟨h1,h2⟩:=mem_dl.mp hj
  rw [JD hi,if_neg (Ne.symm h2)] at e1
  rw [JD (by rw [r.len];exact hi),if_neg (Ne.symm h2)]
  exact r.own j d' e1 h1
 dis:=fun j k p d1 d2 hj hk f1 f2 e1 e2=>by
  obtain ⟨h1,h2⟩:=mem_dl.mp hj
  obtain ⟨h3,h4⟩:=mem_dl.mp hk
  rw [JD (by rw [r.len];exact hi),if_neg (Ne.symm h2)] at e1
  rw [JD (by rw [r.len];exact hi),if_neg (Ne.symm h4)] at e2
  rw [JD hi,if_neg (Ne.symm h2)] at f1
  rw [JD hi,if_neg (Ne.symm h4)] at f2
  exact r.dis j k p d1 d2 h1 h3 f1 f2 e1 e2
 pin:=fun j hj=>by
  obtain ⟨h1,_⟩:=mem_dl.mp hj
  obtain ⟨p,e1,e2⟩:=r.pin j h1
  refine ⟨p,e1,?_⟩
  rw [List.getElem?_set_ne (fun z:i=j=>hq (by rw [z];exact h1))]
  exact e2
 len:=by rw [List.length_set,List.length_set];exact r.len
section
variable {X:Cx} {pins:List (Addr×Obj)} {σ:L2.St} {H:Hp} {s:Shared}
theorem Qcf {M:Model} {A:Around} {E:Value->Shared->Prop} {i:Nat} {x:Str} {v:V} {Q:Unit->Shared->Prop} (I:Inv X pins σ H s) (hN:X.N.Nodup) (hi:X.N[i]?=some x) (hk:X.env.scope.names.lookup x=some .local) (hv:σ[i]?=some (some v))
  (h:∀ s',Inv X pins (σ.set i none) H s'->Q () s'):wpAny M A (unbindName X.env x) Q E s:=by
 obtain ⟨m,hn,hl⟩:=id I.loc
 have hcls:(X.env.scope.kind==.class||(X.env.scope.kind==.module&&X.env.locals != X.env.globals))=false:=by rw [I.ok.kind];rfl
 have hiσ:i < σ.length:=by rw [I.len];exact (List.getElem?_eq_some_iff.mp hi).1
 have cne:=I.cne
 have hkk:X.env.kindOf x=some .local:=hk
 obtain ⟨u,_,lk⟩:=hl i x v hi hv (.inl hk)
 have hmx:m x=some u:=by
  rcases lk with ⟨_,z⟩ | ⟨z | z,_⟩
  ·exact z
  ·rw [hkk] at z;simp at z
  ·rw [hkk] at z;simp at z
 have tracked:∀ {a:Addr} {h':Heap},(∃ o,s.heap.get? a=some o/\H a=none)->Heap.SameBut a s.heap h'->HOk X.prog X.w H h':=fun {a h'} ha hs b ob e=>by
  obtain ⟨_,_,hfree⟩:=ha
  refine (I.hok b ob e).stay (fun c w' hc q=>(hs.2 c ?_).trans q) (fun _ q=>q) fun _ _ q=>q
  rintro rfl
  rcases hc with rfl | hc
  ·rw [hfree] at e;simp at e
  ·rw [hfree] at hc;simp at hc
 refine wpAny_unbindName_local hkk hn hmx hcls (fun h' u' hn' hs=>?_)
 obtain ⟨oL,_,_,hoL,_⟩:=id hn
 refine h _ ⟨I.ok,I.os,I.bare,⟨fun b o e n hb hx=>?_,fun b o e n hb hx=>?_,I.base.free,fun b o e hx=>?_,I.base.tups,I.base.frzs,I.base.tbls⟩,⟨_,hn',fun j y v' e1 e2 e3=>?_⟩,fun y c e=>?_,I.free,I.freeC,fun p hp=>?_,tracked ⟨oL,hoL,I.free⟩ hs,by rw [List.length_set];exact I.len⟩
 ·exact (hs.2 b (Nat.ne_of_lt (Nat.lt_of_lt_of_le (Heap.lt_size e) I.ok.above))).trans (I.base.keep b o e n hb hx)
 ·obtain ⟨sl,e1⟩:=I.base.slot b o e n hb hx
  exact ⟨sl,(hs.2 b (Nat.ne_of_lt (Nat.lt_of_lt_of_le (Heap.lt_size e) I.ok.above))).trans e1⟩
 ·obtain ⟨o',e1⟩:=I.base.there b o e hx
  exact ⟨o',(hs.2 b (Nat.ne_of_lt (Nat.lt_of_lt_of_le (Heap.lt_size e) I.ok.above))).trans e1⟩
 ·by_cases hj:j=i
  ·subst hj
   rw [List.getElem?_set_self hiσ] at e2
   simp at e2
  ·rw [List.getElem?_set_ne (Ne.symm hj)] at e2
   obtain ⟨u',r',q⟩:=hl j y v' e1 e2 e3
   refine ⟨u',r',?_⟩
   rcases q with ⟨k,e⟩ | ⟨k,c,e,z⟩
   ·refine .inl ⟨k,?_⟩
    have:y≠x:=fun e=>hj (Pk hN e1 (e▸hi))
    simp [this,e]
   ·exact .inr ⟨k,c,e,z.sameBut hs (cne y c e)⟩
 ·obtain ⟨w',z⟩:=I.cell y c e
  exact ⟨w',z.sameBut hs (cne y c e)⟩
 ·obtain ⟨e,n,ne,nf,d⟩:=I.pin p hp
  exact ⟨(hs.2 p.1 ne).trans e,n,ne,nf,d⟩
end
structure XT (K:Fg) (mg:Str->Option Value) (xB:Str):Prop where
 ex:∃ CB,mg xB=some (.ref CB)/\(∃ nm q N bs sn sub ab col dd k0 k1 k2 k3 k5,K.lookup CB=some (excClassObj nm q CB N bs ZO true sn sub ab col dd k0 k1 k2 k3 k5 "ValueError.__new__"))/\∀ c,c<=6->∃ ini,XCl K (Qz K c) CB ini
section
variable {X:Cx} {O OL:List Nat} {w:Bool} {st:Stmt} {b:Q8} {xB y n:Str} {np p1 p2 p3 hp pos:Pos}
theorem En (i j:Nat) (hN:X.N.Nodup) (T:XT X.K X.mg xB) (hg:Gl X xB) (hb:PX X st O b) (hi:X.N[i]?=some y:=by rfl) (hj:X.N[j]?=some n:=by rfl) (hij:i≠j:=by decide) (hy:X.env.scope.names.lookup y=some .local:=by rfl) (hn:X.env.scope.names.lookup n=some .local:=by rfl)
  (hiO:dl i O=O:=by rfl) (hjO:dl j O=O:=by rfl) (hiq:Qe i∉O:=by decide) (hjq:Qe j∉O:=by decide) (hst:X.stack=X.env::X.outer:=by rfl) (hfr:X.env.frame=some X.env.locals:=by rfl) (hdb:(xB==("__debug__":Str))=false:=by decide)
  (hd:(n==("__debug__":Str))=false:=by decide) (hcd:(n==("__classdict__":Str))=false:=by decide) (hs:swapsWith (.Name n p2) (some (.Name y p1)) p3.line X.env=pure false:=by rfl) :
  PS X (.Try [st] [.ExceptHandler (some (.Name xB np)) (some n) [.Assign [.Name y p1] (.Name n p2) p3] hp] [] [] pos) (tS X O O OL w (SJ i j b)):=by
 intro pins s σ H Dn I ⟨F0,F,en,fl,rs,z,k⟩
 have z':Hy i j en (b en)=some fl:=z
 cases q:b en with
 | none=>rw [q] at z';cases z'
 | some f1 =>
  rw [q] at z'
  refine wpAny_Try_except (wpAny_execs_cons (wpAny_mono (hb pins s σ H F0 F en f1 I rs q) (fun f s1 zz=>?_) fun v s1 zz=>?_))
  ·obtain ⟨h1,h2,F',H',sm,I1,r1⟩:=zz
   subst h1
   subst h2
   obtain rfl:=Option.some.inj z'
   exact wpAny_execs_nil (wpAny_execs_nil ⟨σ,H',I1,k σ F' H' sm r1⟩)
  ·obtain ⟨c,nn,ea,F',H',hf,hv,sm,I1,rs1,rp,fly⟩:=zz
   subst hf
   subst hv
   obtain ⟨hc,hfl⟩:c<=6/\fl=.nx ((en.set i (some (.exc c nn))).set j none):=by
    have z':(if c<=6 then some (Fl.nx ((en.set i (some (.exc c nn))).set j none)) else none)=some fl:=z'
    split at z'
    ·rename_i hc;obtain rfl:=Option.some.inj z';exact ⟨hc,rfl⟩
    ·simp at z'
   subst hfl
   obtain ⟨C,dx,hFe⟩:=rp.exF
   have hHe:=rs1.fh _ _ hFe
   refine Ac (base:=X.base) (outer:=X.outer) (s₀:=X.s₀.heap) (H:=H') (by rw [I1.ok.frames,hst]) (by rw [<- hst];exact I1.stack) hfr I1.sz (fun a ha=>I1.hok.fresh ha) fly fun h' p=>?_
   rw [<- hst] at p
   have I2:Inv X pins σ H' { s1 with heap:=h' }:=I1.call' (s':={ s1 with heap:=h' }) (ch:=[]) rfl ⟨fun b o q n hb _=>p.keep b o q hb (fun z=>by rw [z,hHe] at n;simp at n) (fun z=>nomatch z),fun b o q n hb _=>p.slot b o q hb,fun b o q n _=>n,fun b o q _=>?_,fun _ _ q=>q,fun _ _ _ q=>q,fun _ ps q=>⟨#[],by rw [q];simp⟩⟩ (p.hok I1 rs1.fh rp) I1.bare (fun b z=>nomatch z)
   ·obtain ⟨CB,hmB,⟨nm,q',N,bs,sn,sub,ab,col,dd,k0,k1,k2,k3,k5,hB⟩,hcl⟩:=T.ex
    obtain ⟨ini,cl⟩:=hcl c hc
    obtain ⟨nm2,q2,N2,bs2,sn2,sub2,ab2,col2,dd2,k02,k12,k22,k32,k52,hC,_⟩:=cl.obj
    have hE:∃ ox,h'.get? ea=some ox/\ox.cls=.ref (Qz X.K c):=by
     obtain ⟨ox,od,J⟩:=K7 I2 rs1.fh rp
     exact ⟨ox,J.at_,J.cls⟩
    obtain ⟨ox,hox,hoc⟩:=hE
    refine wpAny_handleBy_cons (codeAny_handlers_test (Calls.Name_function_global I2.ok.kind hg (Calls.loadGlobal_global (by rw [I2.ok.glob];exact I2.mod.glob.keeps I2.bk) hmB ?_) hdb)) (by intro q;cases q)
    refine Qcy (I2.kIn _ _ hC) (I2.kIn _ _ hB) hox hoc rfl (by simp) (codeAny_handlers_suite_as ?_)
    refine DC p.fly fun h2 hall=>?_
    have I3:Inv X pins σ H' { s1 with heap:=h2 }:=I2.kept (t':=s1.toks) fun b u q=>(hall b).trans q
    refine Uc (u:=.ref ea) (v:=.ref ea) I3 hN hj (.inl hn) rfl (fun s3 I4=>?_) (.inr hn)
    have hjl:j < σ.length:=by rw [I.len];exact (List.getElem?_eq_some_iff.mp hj).1
    have hil:i < σ.length:=by rw [I.len];exact (List.getElem?_eq_some_iff.mp hi).1
    refine wpAny_execs_cons (wpAny_Assign_Name ?_ hs)
    obtain ⟨m,hns,hl⟩:=id I4.loc
    obtain ⟨u,ru,lk⟩:=hl j n (.ref ea) hj (List.getElem?_set_self hjl) (.inl hn)
    cases (show u=Value.ref ea from ru)
    have hkn:X.env.kindOf n=some .local:=hn
    have hmx:m n=some (.ref ea):=by
     rcases lk with ⟨_,z⟩ | ⟨z | z,_⟩
     ·exact z
     ·rw [hkn] at z;simp at z
     ·rw [hkn] at z;simp at z
    refine wpAny_Name (wpAny_loadName_local I4.ok.kind hkn hns hmx ?_) hd
    refine Uc (u:=.ref ea) (v:=.ref ea) I4 hN hi (.inl hy) rfl (fun s4 I5=>?_) (.inr hy)
    refine wpAny_execs_nil ?_
    refine wpAny_bind (wpAny_bindName (Uc (u:=.none) (v:=.non) I5 hN hj (.inl hn) rfl (fun s5 I6=>?_) (.inr hn)))
    unfold unbindBehindTheSuite
    refine wpAny_onRaise (Qcf I6 hN hj hn (v:=.non) (List.getElem?_set_self (by rw [List.length_set,List.length_set];exact hjl)) fun s6 I7=>?_)
    have hσ:((((σ.set j (some (.ref ea))).set i (some (.ref ea))).set j (some V.non)).set j none)=(σ.set i (some (.ref ea))).set j none:=by
     rw [List.set_set,List.set_comm _ _ (Ne.symm hij),List.set_set]
    rw [hσ] at I7
    have hel:en.length=σ.length:=rs.len.symm
    have R1:=rs1.put (i:=i) rp (by rw [hel];exact hil) hiq
    rw [hiO] at R1
    have R2:=R1.del (i:=j) (by rw [List.length_set,hel];exact hjl) hjq
    rw [hjO] at R2
    exact ⟨_,H',I7,k _ F' H' sm R2⟩
   ·by_cases hbe:b=ea
    ·subst hbe
     obtain ⟨_,oe,vs,e1,e2,_⟩:=fly
     obtain ⟨vs',e3,_⟩:=p.ex oe vs e1 e2
     exact ⟨_,e3⟩
    ·by_cases hbf:b∈JH X.stack
     ·obtain ⟨sl,e3⟩:=p.slot b o q hbf
      exact ⟨_,e3⟩
     ·exact ⟨o,p.keep b o q hbf hbe (fun z=>nomatch z)⟩
end
end Wd
namespace Wd
open PySem PySem.Spec PyProof.Rows L2
theorem FA {dx dy d:D} (h:D.cat dx dy=some d):∃ xs ys,dx=.lst xs/\dy=.lst ys/\xs.length+ys.length<=Qc/\d=.lst (xs++ys):=by
 cases dx with
 | lst xs=>cases dy with
  | lst ys =>
   replace h:(if xs.length+ys.length<=Qc then some (D.lst (xs++ys)) else none)=some d:=h
   split at h
   ·exact ⟨xs,ys,rfl,rfl,‹_›,(Option.some.inj h).symm⟩
   ·contradiction
  | _=>contradiction
 | _=>contradiction
section
variable {X:Cx} {O:List Nat} {a b:Expr} {pos:Pos} {ea eb:Q4}
theorem Le (ha:PE X a (tR X O ea)) (hb:PE X b (tR X O eb)):PE X (.BinOp a .Add b pos) (tO X O (Q0 D.cat ea eb)) :=
 PE.imp (Ih IK ha hb) <| by
  rintro σ H Q ⟨F0,F,en,d,rs,w,k⟩
  obtain ⟨dx,dy,e1,e2,e3⟩:=Yk w
  refine ⟨F0,F,en,dx,rs,e1,fun x F1 H1 g1 r1=>?_⟩
  refine ⟨F0,F1,en,dy,rs.grow g1,e2,fun y F2 H2 g2 r2=>?_⟩
  have s:=g2.fh
  have r1':=r1.gr g2
  obtain ⟨xs,ys,rfl,rfl,hz,rfl⟩:=FA e3
  obtain ⟨p,us,rfl,h1,q1⟩:=r1'.lst s
  obtain ⟨q,ws,rfl,h2,q2⟩:=r2.lst s
  refine ⟨p,q,us,ws,rfl,rfl,h1,h2,by rw [ZC,q1.length,q2.length];exact hz,fun l hl=>?_⟩
  exact k l none (us++ws) (xs++ys) F2 _ ((g1.trans g2).trans (Gr.newO s hl (.lst (us++ws)))) ((g1.trans g2).hh.none hl) (s.none hl) QQ (q1.append q2) rfl trivial
end
structure XDf (K:Fg) (mg:Str->Option Value) (x qual:Str) (c:Nat) (st:Stmt) (C CB f:Addr) (fd:FuncData):Prop where
 cl:XCl K C CB (some (.ref f))
 xb:XB K CB
 fn:PySem.W.isFn K (.ref f)=true
 bd:Binds K fd ["self","row"] []
 fu:Fun K "__init__" qual st f fd
 mx:mg x=some (.ref C)
 mb:mg "BookError"=some (.ref CB)
 xc:Qz K c=C
theorem XDf.mk' {P:Program} {w:World} {K:Fg} {mg:Str->Option Value} {base:Heap} {x qual:Str} {c:Nat} {st s1 s2:Stmt} (h:∃ C CB f fd,XDf K mg x qual c st C CB f fd) (S:FnScope ["self","row"] ["self","row"] (Q7 st)) (hd:J9 st=[s1,s2])
  (hb:∀ (C CB f:Addr) (fd:FuncData),XDf K mg x qual c st C CB f fd->∀ (cdv:Value) (A:Around) (outer:List Env) (s:Shared) (H:Hp) (E:XK),PS (Qn Qk P w K mg base ["self","row"] qual (Q7 st) f cdv A outer s H E).nox s1 (Hs C)/\PS (Qn Qk P w K mg base ["self","row"] qual (Q7 st) f cdv A outer s H E).nox s2 (Ht C)) :
  Uq P w K mg base 1 x c:=by
 obtain ⟨C,CB,f,fd,z⟩:=h
 exact ⟨C,CB,f,fd,z.cl,z.fn,z.bd,Pp (k:=0) z.fu S hd (hb C CB f fd z),z.mx,z.xc⟩
def FG (s:Stmt):List Stmt:=match s with
 | .ClassDef _ _ _ b _ _ _ _ _ _ _=>b
 | _=>[]
end Wd
namespace Wd
open PySem PySem.Spec PyProof.Rows L2
def Rf:Data->Option ClassData
 | .cls c=>some c
 | _=>none
def Sv (K:Fg) (C:Addr) (bm:List Value) (ini:Option Value):Bool:=match K.lookup C with
 | some o=>(match Rf o.data with
  | some cd=>o.cls==.type "type"&&cd.mro==.ref C::bm&&o.slots==#[o.slots.getD 0 none,o.slots.getD 1 none,o.slots.getD 2 none,o.slots.getD 3 none,some (.builtin "ValueError.__new__"),o.slots.getD 5 none]&&!cd.hasDel&&cd.hasDict&&PySem.W.nsOkIn K cd.ns&&PySem.W.nsIn K cd.ns "__init__"==some ini
  | none=>false)
 | none=>false
theorem FH {d:Data} {c:ClassData} (h:Rf d=some c):d=.cls c:=by
 cases d with
 | cls x=>obtain rfl:=Option.some.inj h;rfl
 | _=>contradiction
theorem G8 {K:Fg} {C:Addr} {bm:List Value} {ini:Option Value} (q:Sv K C bm ini=true) :
  ∃ nm q N bs sn sub ab col dd k0 k1 k2 k3 k5,K.lookup C=some (excClassObj nm q C N bs bm true sn sub ab col dd k0 k1 k2 k3 k5 "ValueError.__new__")/\PySem.W.nsOkIn K N=true/\PySem.W.nsIn K N "__init__"=some ini:=by
 unfold Sv at q
 cases ho:K.lookup C with
 | none=>rw [ho] at q;cases q
 | some o =>
  rw [ho] at q
  obtain ⟨cls,dd,data,sl⟩:=o
  cases hc:Rf data with
  | some cd =>
   obtain rfl:=FH hc
   replace q:(cls==.type "type"&&cd.mro==.ref C::bm&&sl==#[sl.getD 0 none,sl.getD 1 none,sl.getD 2 none,sl.getD 3 none,some (.builtin "ValueError.__new__"),sl.getD 5 none]&&!cd.hasDel&&cd.hasDict&&PySem.W.nsOkIn K cd.ns&&PySem.W.nsIn K cd.ns "__init__"==some ini)=true:=q
   simp only [Bool.and_eq_true,beq_iff_eq,Bool.not_eq_true'] at q
   obtain ⟨⟨⟨⟨⟨⟨h1,h2⟩,h3⟩,h5⟩,h6⟩,h7⟩,h8⟩:=q
   obtain ⟨nm,bs,mro,ns,qn,hd',sn,sub,ab,col,del⟩:=cd
   dsimp only at h1 h2 h5 h6 h7 h8
   subst h1 h2 h5 h6
   exact ⟨nm,qn,ns,bs,sn,sub,ab,col,dd,_,_,_,_,_,congrArg (fun s=>some (⟨_,dd,_,s⟩:Obj)) h3,h7,h8⟩
  | none =>
   simp [hc] at q
def Su (K:Fg) (C CB:Addr) (ini:Option Value):Bool:=Sv K C (.ref CB::ZO) ini&&PySem.W.tailIn K ZO (.ref CB::ZO)&&PySem.W.findIn K (.ref C) "__setattr__"==some (some (.builtin "object.__setattr__"))&&PySem.W.takerIn K C "row"==some none &&
 PySem.W.findIn K (.ref C) "__getattribute__"==some (some (.builtin "BaseException.__getattribute__"))&&PySem.W.findIn K (.ref C) "__getattr__"==some none&&PySem.W.findIn K (.ref C) "row"==some none&&PySem.W.keepIn K (.ref C)
theorem G7 {K:Fg} {C CB:Addr} {ini:Option Value} (h:Su K C CB ini=true):XCl K C CB ini:=by
 unfold Su at h
 simp only [Bool.and_eq_true,beq_iff_eq] at h
 obtain ⟨⟨⟨⟨⟨⟨⟨a,b⟩,c⟩,d⟩,e⟩,f⟩,g⟩,i⟩:=h
 exact ⟨G8 a,b,c,d,e,f,g,i⟩
def N1 (K:Fg) (CB:Addr):Bool:=PySem.W.readsIn K CB (.type "type")&&PySem.W.specialIn K (.ref CB) "__getattribute__"==some (some (.builtin "type.__getattribute__"))&&(match PySem.W.findCls K (.ref CB) (.type "type") "__init__" with
 | some (.val (.builtin n))=>n=="ValueError.__init__"
 | _=>false)
theorem QcD {K:Fg} {CB:Addr} (h:N1 K CB=true):XB K CB:=by
 unfold N1 at h
 simp only [Bool.and_eq_true,beq_iff_eq] at h
 obtain ⟨⟨a,b⟩,c⟩:=h
 refine ⟨a,b,?_⟩
 split at c
 ·rename_i n q
  rw [q,beq_iff_eq.mp c]
 ·simp at c
def N3 (K:Fg) (C:Addr):Bool:=PySem.W.findIn K (.ref C) "__getattribute__"==some (some (.builtin "BaseException.__getattribute__"))&&PySem.W.findIn K (.ref C) "__getattr__"==some none&&PySem.W.findIn K (.ref C) "row"==some none&&PySem.W.findIn K (.ref C) "__class__"==some (some (.builtin "object.__class__")) &&
 PySem.W.specialIn K (.builtin "object.__class__") "__get__"==some (some (.builtin "getset_descriptor.__get__"))&&PySem.W.takesIn K (.builtin "object.__class__")==some true&&PySem.W.mroIn K C (.type "BaseException")==some true&&PySem.W.mroIn K C (.type "object")==some true&&PySem.W.hasDictIn K C
theorem QcF {K:Fg} {C:Addr} (h:N3 K C=true):XRd K C:=by
 unfold N3 at h
 simp only [Bool.and_eq_true,beq_iff_eq] at h
 obtain ⟨⟨⟨⟨⟨⟨⟨⟨a,b⟩,c⟩,d⟩,e⟩,f⟩,g⟩,i⟩,j⟩:=h
 exact ⟨a,b,c,d,e,f,g,i,j⟩
def G9 (K:Fg):Bool:=(PySem.W.kitOne K (.type "NoneType") (.type "ValueError")==some false)&&(List.range 7).all fun c=>N3 K (Qz K c)&&PySem.W.kitOne K (.ref (Qz K c)) (.type "ValueError")==some true&&PySem.W.kitOne K (.type "NoneType") (.ref (Qz K c))==some false &&
 (List.range 7).all fun c'=>PySem.W.kitOne K (.ref (Qz K c)) (.ref (Qz K c'))==some (decide (c=c'))
theorem xr_of {K:Fg} (h:G9 K=true):XR K:=by
 unfold G9 at h
 rw [Bool.and_eq_true,List.all_eq_true] at h
 obtain ⟨h0,h⟩:=h
 have g:∀ c,c<=6->_:=fun c hc=>h c (List.mem_range.mpr (by omega))
 simp only [Bool.and_eq_true,beq_iff_eq,List.all_eq_true] at g
 exact ⟨fun c hc=>QcF (g c hc).1.1.1,fun c c' hc hc'=>(g c hc).2 c' (List.mem_range.mpr (by omega)),fun c hc=>(g c hc).1.1.2,fun c hc=>(g c hc).1.2,beq_iff_eq.mp h0⟩
def DY (K:Fg) (C:Addr):Option Value:=((PySem.W.clsIn K C).bind fun cd=>PySem.W.nsIn K cd.ns "__init__").join
def GA (K:Fg) (CB:Addr):Bool:=Sv K CB ZO none&&(List.range 7).all fun c=>Su K (Qz K c) CB (DY K (Qz K c))
theorem xt_of {K:Fg} {mg:Str->Option Value} {CB:Addr} {xB:Str} (hm:mg xB=some (.ref CB)) (h:GA K CB=true):XT K mg xB:=by
 unfold GA at h
 rw [Bool.and_eq_true,List.all_eq_true] at h
 obtain ⟨h0,h⟩:=h
 obtain ⟨nm,q,N,bs,sn,sub,ab,col,dd,k0,k1,k2,k3,k5,hC,_⟩:=G8 h0
 exact ⟨CB,hm,⟨nm,q,N,bs,sn,sub,ab,col,dd,k0,k1,k2,k3,k5,hC⟩,fun c hc=>⟨_,G7 (h c (List.mem_range.mpr (by omega)))⟩⟩
theorem XDf.of {K:Fg} {mg:Str->Option Value} {h:Heap} {x qual:Str} {c:Nat} {st:Stmt} {C CB f:Addr} {oc kV dc pm cd ct:Value} {od an:Option Addr} {osl:Array (Option Value)} (X:K.In h) (G:h.Ns mainGlobals mg)
  (hb:∀ us:List Value,us.length=2->bindArgs (PySem.W.fnOf "__init__" qual (ZH st) (J9 st) (Q7 st) .none kV dc pm an cd ct) ⟨us,[]⟩=pure ((["self","row"]:List Str).zip us))
  (e:(Su K C CB (some (.ref f)),N1 K CB,PySem.W.isFn K (.ref f),PySem.W.codeIn K cd qual,PySem.W.keepIn K (.ref f))=(true,true,true,true,true))
  (l:K.lookup f=some ⟨oc,od,.func (PySem.W.fnOf "__init__" qual (ZH st) (J9 st) (Q7 st) .none kV dc pm an cd ct),osl⟩)
  (m:(PySem.W.nsIn K mainGlobals x,PySem.W.nsIn K mainGlobals "BookError",Qz K c)=(some (some (.ref C)),some (some (.ref CB)),C)):∃ C CB f fd,XDf K mg x qual c st C CB f fd:=by
 simp only [Prod.mk.injEq] at e m
 obtain ⟨e1,e2,e3,e4,e5⟩:=e
 obtain ⟨m1,m2,m3⟩:=m
 exact ⟨C,CB,f,_,G7 e1,QcD e2,e3,Binds.all fun us hl=>hb us hl,⟨⟨oc,od,kV,dc,pm,an,cd,ct,osl,rfl,l,e4⟩,e5⟩,PySem.W.mg_of X G m1,PySem.W.mg_of X G m2,m3⟩
end Wd
namespace Wd
open PySem PySem.Spec PyProof.Rows L2
section
variable {X:Cx} {O O' OL:List Nat} {w:Bool} {e a b:Expr} {es:List Expr} {p pos cpos:Pos} {x y:Str} {ps:List Str} {k:Nat} {f:List D->Option Rs} {l:JT}
theorem XW.ex {F0:Fz} {F H:Hp} {c:Nat} {n:D} (k:XW X F0 c n) (x:Ex X.H₀ F0 F H) {ea:Addr} (r:Rep X.K F (.ref ea) (.exc c n)):EX X (.ref ea) none H:=fun ea' pins σ s' e I fly=>by
 cases e
 exact k pins σ F H s' ea I x r fly
end
theorem two {α:Type} {l:List α} (h:l.length=2):∃ a b,l=[a,b]:=by
 cases l with
 | nil=>simp at h
 | cons a l =>
  obtain ⟨b,rfl⟩:=List.length_eq_one_iff.mp (Nat.succ.inj h)
  exact ⟨a,b,rfl⟩
section
variable {P:Program} {w:World} {K:Fg} {mg:Str->Option Value} {base:Heap} {x:Str} {st:Stmt} {N ps:List Str} {k:Nat}
end
section
variable {X:Cx} {O O' OL:List Nat} {k:Nat} {l:JT}
end
end Wd
namespace Wd
open PySem PySem.Spec PyProof.Rows L2
section
variable {X:Cx} {O O' OL:List Nat} {w:Bool} {scope:Scope} {n:Nat} {caps:List Nat} {tg iter elt:Expr} {ifs:List Expr} {pos:Pos} {it:Jo} {g:Qw} {c el:Q4}
end
end Wd
namespace Wd
open PySem PySem.Spec PyProof.Rows L2
inductive Nw (H:Hp):V->D->Hp->Prop
 | bl (b:Bool):Nw H (.bl b) (.bl b) H
 | int (i:Int):Nw H (.int i) (.int i) H
 | str (x:Str):Nw H (.str x) (.str x) H
 | lst {p:Addr} (N:List Str) (h:H p=none):Nw H (.ref p) (.lst (N.map .str)) (upd H p (.lst (N.map V.str)))
 | tup {p:Addr} (N:List Str) (h:H p=none):Nw H (.ref p) (.tup (N.map .str)) (upd H p (.tup (N.map V.str)))
theorem Reps.strs {K:Fg} {F:Hp}:∀ (L:List Str),Reps K F (L.map V.str) (L.map .str)
 | []=>.nil
 | x::L=>.cons (.str x) (Reps.strs L)
theorem Nw.gr {K:Fg} {F H H':Hp} {v:V} {d:D} (n:Nw H v d H') (s:Sm F H):∃ F',Gr F H F' H'/\Rep K F' v d:=by
 cases n with
 | bl b=>exact ⟨F,.refl s,.bl b⟩
 | int b=>exact ⟨F,.refl s,.int b⟩
 | str b=>exact ⟨F,.refl s,.str b⟩
 | lst N h=>exact ⟨_,.new s h _,.lst QQ (Reps.strs N)⟩
 | tup N h=>exact ⟨_,.new s h _,.tup QQ (Reps.strs N)⟩
def rS (f:Str->Str->Option D):V->List V->Hp->VK->Prop:=fun u vs H Q=>∃ x y d,u=.str x/\vs=[.str y]/\f x y=some d/\∀ v H',Nw H v d H'->Q v H'
def HG (k:Nat) (f:Str->Str->Option D):V->List V->Hp->VK->Prop:=fun u vs H Q=>∃ x y d,u=.str x/\vs=[.str y,.int k]/\f x y=some d/\∀ v H',Nw H v d H'->Q v H'
def HF (f:Str->Option D):V->List V->Hp->VK->Prop:=fun u vs H Q=>∃ x d,u=.str x/\vs=[]/\f x=some d/\∀ v H',Nw H v d H'->Q v H'
theorem Hi {f:Str->Str->Option D} {dx dy d:D} (h:QS f dx dy=some d):∃ x y,dx=.str x/\dy=.str y/\f x y=some d:=by
 unfold QS at h
 split at h
 ·exact ⟨_,_,rfl,rfl,h⟩
 ·simp at h
theorem QbL {f:Str->Option D} {dx d:D} (h:Va f dx=some d):∃ x,dx=.str x/\f x=some d:=by
 unfold Va at h
 split at h
 ·exact ⟨_,rfl,h⟩
 ·simp at h
section
variable {X:Cx} {O:List Nat} {a b c:Expr} {pos apos:Pos} {name:Str} {id:String}
theorem JU {f:Str->Str->Option D} {ea eb:Q4} (hm:MtR X id (rS f)) (slot:Slot "str" name id) (hty:typeOf (.builtin id)=pure (.type "method_descriptor")) (ha:PE X a (tR X O ea)) (hb:PE X b (tR X O eb))
  (hbase:attributeBase a name X.env (eval a X.env)=eval a X.env:=by rfl)
  (hfew:((backTo pos (starEach [b] X.env)).all (fun x=>!x.1)&&(backToKw pos (keywordEach [] X.env)).all (fun x=>x.1.isSome)&&decide (([b]:List Expr).length+([]:List Keyword).length+(if ([]:List Keyword).isEmpty then 0 else 1)<30))=true:=by rfl)
  (hline:(apos.endLine==pos.line)=true:=by rfl) (hs:starEach [b] X.env=(false,eval b X.env)::starEach [] X.env:=by rfl) :
  PE X (.Call (.Attribute a name apos) [b] [] pos) (tD X O (Q0 (QS f) ea eb)) :=
 PE.imp (ZN PySem.F.plainAttrs_str slot hty hm ha (VU hb hs) hbase hfew hline hs) <| by
  rintro σ H Q ⟨F0,F,en,d,rs,w,k⟩
  obtain ⟨dx,dy,e1,e2,e3⟩:=Yk w
  obtain ⟨x,y,rfl,rfl,e4⟩:=Hi e3
  refine ⟨F0,F,en,_,rs,e1,fun u F1 H1 g1 r1=>?_⟩
  rw [r1.str]
  refine ⟨rfl,F0,F1,en,_,rs.grow g1,e2,fun v F2 H2 g2 r2=>?_⟩
  rw [r2.str]
  refine ⟨x,y,d,rfl,rfl,e4,fun v H' n=>?_⟩
  obtain ⟨F',g3,r3⟩:=n.gr (K:=X.K) g2.fh
  exact k v F' H' ((g1.trans g2).trans g3) r3
theorem Lp {n:Nat} {f:Str->Str->Option D} {ea eb:Q4} (hm:MtR X id (HG n f)) (slot:Slot "str" name id) (hty:typeOf (.builtin id)=pure (.type "method_descriptor")) (ha:PE X a (tR X O ea)) (hb:PE X b (tR X O eb)) (hc:PE X c (tD X O (eC (.int n))))
  (hbase:attributeBase a name X.env (eval a X.env)=eval a X.env:=by rfl)
  (hfew:((backTo pos (starEach [b,c] X.env)).all (fun x=>!x.1)&&(backToKw pos (keywordEach [] X.env)).all (fun x=>x.1.isSome)&&decide (([b,c]:List Expr).length+([]:List Keyword).length+(if ([]:List Keyword).isEmpty then 0 else 1)<30))=true:=by rfl)
  (hline:(apos.endLine==pos.line)=true:=by rfl) (hs:starEach [b,c] X.env=(false,eval b X.env)::starEach [c] X.env:=by rfl) (hs2:starEach [c] X.env=[(false,eval c X.env)]:=by rfl) (hpl:(backTo pos (starEach [c] X.env)).any (·.1)=false:=by rfl) :
  PE X (.Call (.Attribute a name apos) [b,c] [] pos) (tD X O (Q0 (QS f) ea eb)) :=
 PE.imp (ZN PySem.F.plainAttrs_str slot hty hm ha (Qh hb (Qh hc Qt hs2) hs) hbase hfew hline hs hpl) <| by
  rintro σ H Q ⟨F0,F,en,d,rs,w,k⟩
  obtain ⟨dx,dy,e1,e2,e3⟩:=Yk w
  obtain ⟨x,y,rfl,rfl,e4⟩:=Hi e3
  refine ⟨F0,F,en,_,rs,e1,fun u F1 H1 g1 r1=>?_⟩
  rw [r1.str]
  refine ⟨rfl,F0,F1,en,_,rs.grow g1,e2,fun v F2 H2 g2 r2=>?_⟩
  rw [r2.str]
  refine ⟨F0,F2,en,_,(rs.grow g1).grow g2,rfl,fun v F3 H3 g3 r3=>?_⟩
  rw [r3.iI]
  refine ⟨x,y,d,rfl,rfl,e4,fun v H' n=>?_⟩
  obtain ⟨F',g4,r4⟩:=n.gr (K:=X.K) g3.fh
  exact k v F' H' (((g1.trans g2).trans g3).trans g4) r4
theorem EZ {f:Str->Option D} {ea:Q4} (hm:MtR X id (HF f)) (slot:Slot "str" name id) (hty:typeOf (.builtin id)=pure (.type "method_descriptor")) (ha:PE X a (tR X O ea))
  (hbase:attributeBase a name X.env (eval a X.env)=eval a X.env:=by rfl) (hline:(apos.endLine==pos.line)=true:=by rfl):PE X (.Call (.Attribute a name apos) [] [] pos) (tD X O (QA (Va f) ea)) :=
 PE.imp (Af PySem.F.plainAttrs_str slot hty hm ha hbase hline) <| by
  rintro σ H Q ⟨F0,F,en,d,rs,w,k⟩
  obtain ⟨dx,e1,e3⟩:=QR w
  obtain ⟨x,rfl,e4⟩:=QbL e3
  refine ⟨F0,F,en,_,rs,e1,fun u F1 H1 g1 r1=>?_⟩
  rw [r1.str]
  refine ⟨rfl,x,d,rfl,rfl,e4,fun v H' n=>?_⟩
  obtain ⟨F',g4,r4⟩:=n.gr (K:=X.K) g1.fh
  exact k v F' H' (g1.trans g4) r4
theorem N0 {y:Str} {us:List Value} (h:Vals [.str y] us):∃ u,us=[.str y u]:=by
 obtain ⟨u,rfl,t,rfl⟩:=Vi h
 exact ⟨t,rfl⟩
theorem Qcm {y:Str} {n:Int} {us:List Value} (h:Vals [.str y,.int n] us):∃ u v,us=[.str y u,.int n v]:=by
 obtain ⟨_,_,rfl,⟨t,rfl⟩,u,rfl⟩:=Sl h
 exact ⟨t,u,rfl⟩
theorem Xv {f:Str->Str->Option D} (h:∀ (pins:List (Addr×Obj)) (s:Shared) (σ:L2.St) (H:Hp) (x y:Str) (d:D) (t u:Tok) (Q:VK),Inv X pins σ H s->f x y=some d->(∀ v H',Nw H v d H'->Q v H')->wpAny (model X.prog X.w) X.A (call (.builtin id) [.str x t,.str y u]) (EP X pins σ Q) X.xe s):MtR X id (rS f):=by
 rintro pins s σ H x xs v us Q I rx rs ⟨z,y,d,rfl,rfl,e,q⟩
 obtain ⟨t,rfl⟩:=(show ∃ t,v=Value.str z t from rx)
 obtain ⟨u,rfl⟩:=N0 rs
 exact h pins s σ H z y d t u Q I e q
theorem Zh:MtR X "str.startswith" (rS JK):=Xv fun pins s σ H x y d t u Q I e q=>by
 obtain rfl:=Option.some.inj e
 exact SC.startswith ⟨.bl _,H,I,rfl,q _ _ (.bl _)⟩
theorem Tu:MtR X "str.count" (rS Z0):=Xv fun pins s σ H x y d t u Q I e q=>by
 obtain rfl:=Option.some.inj e
 exact SC.count ⟨.int _,H,I.tok _,⟨_,rfl⟩,q _ _ (.int _)⟩
theorem Cm:MtR X "str.strip" (rS Ud):=Xv fun pins s σ H x y d t u Q I e q=>by
 unfold Ud at e
 split at e
 ·rename_i h
  obtain rfl:=Option.some.inj e
  exact SC.stripChars (fun t' k=>⟨.str _,H,I.tok _,⟨_,rfl⟩,q _ _ (.str _)⟩) (by rw [ZC];exact h)
 ·simp at e
theorem Cj:MtR X "str.isdigit" (HF KW):=by
 rintro pins s σ H x xs v us Q I rx rs ⟨z,d,rfl,rfl,e,q⟩
 obtain ⟨t,rfl⟩:=(show ∃ t,v=Value.str z t from rx)
 cases Vals.zero rs
 obtain rfl:=Option.some.inj e
 exact SC.isdigit ⟨.bl _,H,I,rfl,q _ _ (.bl _)⟩
theorem QbO {N:List Str}:∀ {l:List (Str×Tok)},l.map (·.1)=N->Vals (N.map V.str) (strValues l):=by
 intro l
 induction l generalizing N with
 | nil=>intro h;cases h;exact .nil
 | cons p l ih=>intro h;cases h;exact .cons ⟨_,rfl⟩ (ih rfl)
theorem X9 {pins:List (Addr×Obj)} {s:Shared} {σ:L2.St} {H:Hp} {Q:VK} (I:Inv X pins σ H s) {N:List Str} {l:List (Str×Tok)} (e:l.map (·.1)=N) (hl:N.length<=200000) {tk:Nat} (q:∀ v H',Nw H v (.lst (N.map .str)) H'->Q v H') :
  EP X pins σ Q (.ref s.heap.objs.size) { s with heap:=s.heap.push { cls:=.type "list",data:=.seq (strValues l).toArray },toks:=tk }:=by
 have hz:=sizeLine_eq
 have hv:=QbO e
 refine ⟨.ref s.heap.objs.size,upd H s.heap.objs.size (.lst (N.map V.str)),I.laid (fun b o h=>Heap.get?_push_of_some _ h) (Nat.le_refl _) ⟨by rw [List.length_map];omega,strValues l,0,hv,?_⟩,rfl,q _ _ (.lst N (I.hok.fresh (Nat.le_refl _)))⟩
 exact Heap.get?_push_size _ rfl
theorem QbK {x y:Str}:(Txt.split x y).length<=x.length+2:=by
 unfold Txt.split
 split
 ·simp
 ·split
  ·simp
  ·rw [length_partsBetween]
   have:=StrLaws.occ_length_le x y 0 x.length (x.length+1)
   omega
theorem QbJ {x y:Str} {k:Int}:(Txt.splitMax x y k).length<=x.length+2:=by
 unfold Txt.splitMax
 split
 ·simp
 ·split
  ·simp
  ·rw [length_partsBetween]
   have:=StrLaws.occ_length_le_len x y 0 x.length (limitOf x k)
   omega
theorem Tv:MtR X "str.split" (rS V8):=Xv fun pins s σ H x y d t u Q I e q=>by
 unfold V8 at e
 split at e
 ·rename_i h
  obtain rfl:=Option.some.inj e
  obtain ⟨hy,hx⟩:=h
  have hz:=sizeLine_eq
  have hn:(Builtin.Str.partsBetween x (Builtin.Str.occurrences x y 0 x.length (x.length+1)) y.length).length<=sizeLine:=by
   have e1:=StrLaws.occ_length_le x y 0 x.length (x.length+1)
   rw [length_partsBetween];omega
  have hl:(Txt.split x y).length<=200000:=by have:=QbK (x:=x) (y:=y);omega
  cases h1:(decide (x.length<y.length)||decide (Builtin.Str.strKind x<Builtin.Str.strKind y))
  ·cases hf:(Builtin.Str.occurrences x y 0 x.length (x.length+1)).isEmpty
   ·refine call_meets F.slot_str_split (typeIs_str _ _ _) F.entry_str_split (F.args_str_split_2 _ _) (meets_str_split_sep x y t u h1 hy hf (by omega) hn) ?_
    show wants (EP X pins σ Q) X.xe _ { s with toks:=_,heap:=s.heap.push { cls:=.type "list",data:=.seq (strsFrom s.toks (Builtin.Str.partsBetween x (Builtin.Str.occurrences x y 0 x.length (x.length+1)) y.length)).toArray } }
    rw [strsFrom_eq]
    exact X9 I ((numbered_texts _ _).trans ((if_neg (ne_true_of_eq_false h1)).trans (if_neg (ne_true_of_eq_false hf))).symm) hl q
   ·exact call_meets F.slot_str_split (typeIs_str _ _ _) F.entry_str_split (F.args_str_split_2 _ _) (meets_str_split_not_found x y t u h1 hy hf)
     (X9 I (l:=[(x,t)]) ((if_neg (ne_true_of_eq_false h1)).trans (if_pos hf)).symm hl q)
  ·exact call_meets F.slot_str_split (typeIs_str _ _ _) F.entry_str_split (F.args_str_split_2 _ _) (meets_str_split_cannot_occur x y t u h1)
    (X9 I (l:=[(x,t)]) (if_pos h1).symm hl q)
 ·simp at e
theorem IA {n:Nat}:MtR X "str.split" (HG n (WU n)):=by
 rintro pins s σ H x xs v us Q I rx rs ⟨z,y,d,rfl,rfl,e,q⟩
 obtain ⟨t,rfl⟩:=(show ∃ t,v=Value.str z t from rx)
 obtain ⟨u,w,rfl⟩:=Qcm rs
 unfold WU at e
 split at e
 ·rename_i h
  obtain rfl:=Option.some.inj e
  obtain ⟨hy,hx,hk⟩:=h
  have hz:=sizeLine_eq
  have hn:(Builtin.Str.partsBetween z (Builtin.Str.occurrences z y 0 z.length (limitOf z n)) y.length).length<=sizeLine:=by
   have e1:=StrLaws.occ_length_le_len z y 0 z.length (limitOf z n)
   rw [length_partsBetween];omega
  have hl:(Txt.splitMax z y n).length<=200000:=by have:=QbJ (x:=z) (y:=y) (k:=n);omega
  have hk':(decide ((n:Int) < -(2^63:Int))||decide ((n:Int) ≥ 2^63))=false:=by simp;omega
  cases h1:(decide (z.length<y.length)||decide (Builtin.Str.strKind z<Builtin.Str.strKind y))
  ·cases hf:(Builtin.Str.occurrences z y 0 z.length (limitOf z n)).isEmpty
   ·refine call_meets F.slot_str_split (typeIs_str _ _ _) F.entry_str_split (F.args_str_split_3 _ _ _) (meets_str_split_sep_max z y n t u w hk' h1 hy hf (by omega) hn) ?_
    show wants (EP X pins σ Q) X.xe _ { s with toks:=_,heap:=s.heap.push { cls:=.type "list",data:=.seq (strsFrom s.toks (Builtin.Str.partsBetween z (Builtin.Str.occurrences z y 0 z.length (limitOf z n)) y.length)).toArray } }
    rw [strsFrom_eq]
    exact X9 I ((numbered_texts _ _).trans ((if_neg (ne_true_of_eq_false h1)).trans (if_neg (ne_true_of_eq_false hf))).symm) hl q
   ·exact call_meets F.slot_str_split (typeIs_str _ _ _) F.entry_str_split (F.args_str_split_3 _ _ _) (meets_str_split_max_not_found z y n t u w hk' h1 hy hf)
     (X9 I (l:=[(z,t)]) ((if_neg (ne_true_of_eq_false h1)).trans (if_pos hf)).symm hl q)
  ·exact call_meets F.slot_str_split (typeIs_str _ _ _) F.entry_str_split (F.args_str_split_3 _ _ _) (meets_str_split_max_cannot_occur z y n t u w hk' h1)
    (X9 I (l:=[(z,t)]) (if_pos h1).symm hl q)
 ·simp at e
theorem I0:MtR X "str.partition" (rS V5):=Xv fun pins s σ H x y d t u Q I e q=>by
 unfold V5 at e
 split at e
 ·rename_i h
  obtain rfl:=Option.some.inj e
  obtain ⟨hy,hx⟩:=h
  have hz:=sizeLine_eq
  refine call_meets F.slot_str_partition (typeIs_str _ _ _) F.entry_str_partition (F.args_str_partition_2 _ _) (meets_str_partition x y t u hy (by omega)) ?_
  have fin:∀ (p q' r:Str) (ta tb tc:Tok) (tk:Nat),(Txt.partition x y)=(p,q',r)->EP X pins σ Q (.ref s.heap.objs.size) { s with heap:=s.heap.push { cls:=.type "tuple",data:=.seq [.str p ta,.str q' tb,.str r tc].toArray },toks:=tk }:=fun p q' r ta tb tc tk he=>by
   rw [he] at q
   refine ⟨.ref s.heap.objs.size,upd H s.heap.objs.size (.tup ([p,q',r].map V.str)),I.laid (fun b o h=>Heap.get?_push_of_some _ h) (Nat.le_refl _) ⟨by simp;omega,_,.cons ⟨ta,rfl⟩ (.cons ⟨tb,rfl⟩ (.cons ⟨tc,rfl⟩ .nil)),?_⟩,rfl,q _ _ (.tup [p,q',r] (I.hok.fresh (Nat.le_refl _)))⟩
   exact ⟨_,Heap.get?_push_size _ rfl,rfl,_,rfl⟩
  revert fin
  unfold Txt.partition
  cases Builtin.Str.occurrences x y 0 x.length 1 with
  | nil=>intro fin;exact fin _ _ _ _ _ _ _ rfl
  | cons i r=>intro fin;exact fin _ _ _ _ _ _ _ rfl
 ·simp at e
end
end Wd
namespace Wd
open PySem PySem.Spec PyProof.Rows L2
section
variable {X:Cx} {O:List Nat} {a b c:Expr} {pos apos:Pos}
def HE:List V->Hp->VK->Prop:=fun xs H Q=>∃ c:Nat,xs=[.str ⟨#[c]⟩]/\Q (.int c) H
theorem Gz:CallR X (.builtin "ord") HE/\C1 X HE D.ord:=by
 refine ⟨fun pins s σ H xs us Q I r ⟨c,hx,q⟩=>?_,fun F H x dx d Q s rx e k=>?_⟩
 ·subst hx
  obtain ⟨u,rfl⟩:=N0 r
  exact PySem.P.ord_of_char ⟨.int c,H,I.tok _,⟨_,rfl⟩,q⟩
 ·cases dx with
  | str z =>
   simp only [D.ord,IT] at e
   split at e
   ·rename_i c hc
    obtain rfl:=Option.some.inj e
    have:z=⟨#[c]⟩:=Str.ext' (by rw [<- Array.toArray_toList (xs:=z.cps),hc])
    exact ⟨c,by rw [rx.str,this],k _ F H (.refl s) (.int _)⟩
   ·simp at e
  | _=>cases e
def Iz:List V->Hp->VK->Prop:=fun xs H Q=>∃ z n,xs=[.str z]/\z.length<=640/\intText? z=some n/\Q (.int n) H
theorem LN:CallR X (.type "int") Iz/\C1 X Iz D.intS:=by
 refine ⟨fun pins s σ H xs us Q I r ⟨z,n,hx,hl,hn,q⟩=>?_,fun F H x dx d Q s rx e k=>?_⟩
 ·subst hx
  obtain ⟨u,rfl⟩:=N0 r
  exact PySem.W.KIN.call_text hn hl ⟨.int n,H,I.tok _,⟨_,rfl⟩,q⟩
 ·cases dx with
  | str z =>
   simp only [D.intS] at e
   split at e
   ·rename_i hl
    obtain ⟨n,hn,rfl⟩:=JQ e
    exact ⟨z,n,by rw [rx.str],hl,hn,k _ F H (.refl s) (.int _)⟩
   ·simp at e
  | _=>cases e
def Py (K:Fg):List V->Hp->VK->Prop:=fun xs H Q=>∃ (l:Addr) (bs:List Bool),xs=[.ref l]/\SqL K H l (bs.map V.bl)/\Q (.bl (bs.all id)) H
theorem MI (bs:List Bool):∀ k,k<=bs.length->(List.range k).all (fun i=>bs.getD i false)=(bs.take k).all id
 | 0,_=>by simp
 | k+1,h=>by
  rw [List.range_succ,List.all_append,MI bs k (by omega),List.take_succ,List.getElem?_eq_getElem (by omega),List.all_append]
  simp [List.getElem?_eq_getElem (show k<bs.length by omega)]
theorem Gq (hc:X.calm=true):CallR X (.builtin "all") (Py X.K):=by
 intro pins s σ H xs us Q I r ⟨l,bs,hx,hq,q⟩
 subst hx
 obtain ⟨u,rfl,rx⟩:=Vi r
 cases rx
 obtain ⟨its,rv,pl,hz⟩:=I.list hq
 refine call_all_walk (Qco I (I.ok.hd hc) pl fun s₂ W st hfp back=>?_)
 have hval:∀ i v,its.toArray[i]?=some v->v=Value.bool (bs.getD i false):=fun i v h=>by
  obtain ⟨w,h1,h2⟩:=Qck rv (by simpa using h)
  rw [List.getElem?_map] at h1
  cases q:bs[i]? with
  | none=>rw [q] at h1;simp at h1
  | some n =>
   rw [q] at h1
   obtain rfl:=Option.some.inj h1
   rw [show v=Value.bool n from h2,List.getD_eq_getElem?_getD,q];rfl
 have hl:=rv.length
 rw [List.length_map] at hl
 refine ⟨_,_,_,_,_,_,(fun i=>bs.getD i false),rfl,W,st,fun i v s3 Q3 E3 hP hQ=>?_,fun h' tk hk=>?_⟩
 ·rw [hval i v hP];exact wpAny_truthy_bool hQ
 ·have e:(List.range its.toArray.size).all (fun i=>bs.getD i false)=bs.all id:=by rw [List.size_toArray,<- hl,MI bs bs.length (Nat.le_refl _),List.take_length]
  rw [e]
  exact ⟨.bl (bs.all id),H,back h' tk hk,rfl,q⟩
theorem LL (hc:X.calm=true):CallR X (.builtin "all") (Py X.K)/\C1 X (Py X.K) D.allL:=by
 refine ⟨Gq hc,fun F H x dx d Q s rx e k=>?_⟩
 cases dx with
 | lst ds =>
  obtain ⟨bs,q,rfl⟩:=JQ e
  obtain ⟨l,xs,rfl,h,r⟩:=rx.lst s
  have:=Gp r q
  subst this
  exact ⟨l,bs,rfl,SqL.of h,k _ F H (.refl s) (.bl _)⟩
 | _=>cases e
def HC:R2:=fun x y H Q=>∃ i j:Str,x=.str i/\y=.str j/\Q (.bl (!(decide (j.cps.toList<i.cps.toList)))) H
theorem S4:OpR X (compareOp .LtE) HC/\J8 X HC D.leS:=by
 refine ⟨fun pins s σ H x y v u Q I rx ry ⟨i,j,hx,hy,q⟩=>?_,fun F H x y dx dy d Q sm rx ry e k=>?_⟩
 ·subst hx hy
  obtain ⟨t,rfl⟩:=rx
  obtain ⟨t',rfl⟩:=ry
  exact PySem.P.le_str ⟨.bl _,H,I,rfl,q⟩
 ·cases dx<;>cases dy<;>try (simp [D.leS] at e;done)
  case str.str i j =>
   obtain rfl:=Option.some.inj e
   exact ⟨i,j,rx.str,ry.str,k _ F H (.refl sm) (.bl _)⟩
theorem Rep.sI {K:Fg} {F:Hp} {v:V} {i:Str} (h:Rep K F v (.str i)):v=.str i:=by cases h;rfl
theorem QbQ {K:Fg} {F:Hp} {zs:List V} {ds:List D} {L:List Str} (h:Reps K F zs ds) (e:V9 ds=some L):zs=L.map V.str:=by
 refine h.ind (M:=fun v d=>∀ L,V9 d=some L->v=L.map V.str) (fun ns e=>by obtain rfl:=Option.some.inj e;rfl) (fun {x d xs ds} h r ih ns e=>?_) L e
 cases d with
 | str i =>
  obtain ⟨M,e1,rfl⟩:=JQ e
  rw [ih _ e1,h.sI];rfl
 | _=>simp [V9] at e
theorem Hm:∀ {N:List Str} {its:List Value},Vals (N.map V.str) its->StrsAre its N
 | [],_,.nil=>.nil
 | x::N,_,.cons ⟨t,e⟩ r=>by rw [e];exact .cons x t (Hm r)
theorem Hn {B:Nat}:∀ (N:List Str),(∀ y∈N,y.length<=B)->(N.map (·.length)).sum<=N.length*B
 | [],_=>by simp
 | x::N,h=>by
  have h1:=h x List.mem_cons_self
  have h2:=Hn N fun y hy=>h y (List.mem_cons_of_mem _ hy)
  rw [List.map_cons,List.sum_cons,List.length_cons,Nat.add_mul]
  omega
def Qao (K:Fg):V->List V->Hp->VK->Prop:=fun u vs H Q=>∃ sep l N,u=.str sep/\sep.length<=16/\vs=[.ref l]/\SqL K H l (N.map V.str)/\N.length<=100/\(∀ y∈N,y.length<=10000)/\Q (.str (Str.join sep N)) H
theorem Ck:MtR X "str.join" (Qao X.K):=by
 rintro pins s σ H x vs v us Q I rx rv ⟨sep,l,N,rfl,hsep,rfl,hH,hl,hN,q⟩
 obtain ⟨t,rfl⟩:=(show ∃ t,v=Value.str sep t from rx)
 obtain ⟨u,rfl,ru⟩:=Vi rv
 cases ru
 obtain ⟨its,r,pl,_⟩:=I.list hH
 have hs:=Hn N hN
 have:N.length*10000<=100*10000:=Nat.mul_le_mul_right _ hl
 refine join_listW (ys:=N) pl.isList (by simpa using Hm r) hsep (by omega) fun t' k=>⟨.str (Str.join sep N),H,I.tok k,⟨t',?_⟩,q⟩
 rw [eq_of_beq (join_plain_closes sep N)]
theorem Lm {sep:Str} {j} {p:Pos} {ev:Q4} (hl:sep.length<=16) (ha:PE X a (tR X O ev)) (hbase:attributeBase (.Constant (.str sep) j p) "join" X.env (eval (.Constant (.str sep) j p) X.env)=eval (.Constant (.str sep) j p) X.env:=by rfl)
  (hfew:((backTo pos (starEach [a] X.env)).all (fun x=>!x.1)&&(backToKw pos (keywordEach [] X.env)).all (fun x=>x.1.isSome)&&decide (([a]:List Expr).length+([]:List Keyword).length+(if ([]:List Keyword).isEmpty then 0 else 1)<30))=true:=by rfl)
  (hline:(apos.endLine==pos.line)=true:=by rfl) (hs:starEach [a] X.env=(false,eval a X.env)::starEach [] X.env:=by rfl):PE X (.Call (.Attribute (.Constant (.str sep) j p) "join" apos) [a] [] pos) (tD X O (QA (D.joinS sep) ev)) :=
 PE.imp (ZN PySem.F.plainAttrs_str PySem.F.slot_str_join PySem.F.type_str_join Ck VX (VU ha hs) hbase hfew hline hs) <| by
  rintro σ H Q ⟨F0,F,en,d,rs,w,k⟩
  obtain ⟨dx,e1,e2⟩:=QR w
  refine ⟨rfl,F0,F,en,dx,rs,e1,fun v F1 H1 g1 r1=>?_⟩
  cases dx with
  | lst ds =>
   obtain ⟨N,h1,h2⟩:=QR (show ((V9 ds).bind fun N=>if N.length<=100/\∀ y∈N,y.length<=10000 then some (D.str (Str.join sep N)) else none)=some d from e2)
   split at h2
   ·rename_i hh
    obtain rfl:=Option.some.inj h2
    obtain ⟨l,xs,rfl,h,r⟩:=r1.lst g1.fh
    have:=QbQ r h1
    subst this
    exact ⟨sep,l,N,rfl,hl,rfl,SqL.of h,hh.1,hh.2,k _ F1 H1 g1 (.str _)⟩
   ·simp at h2
  | _=>cases e2
inductive PFs (X:Cx) (O:List Nat):List Expr->List YM->Prop
 | nil:PFs X O [] []
 | lit {x:Str} {j} {p:Pos} {r:List Expr} {ps:List YM} (h:x.length<=100000) (t:PFs X O r ps):PFs X O (.Constant (.str x) j p::r) (.inl x::ps)
 | val {e:Expr} {p:Pos} {ev:Q4} {r:List Expr} {ps:List YM} (h:PE X e (tD X O ev)) (t:PFs X O r ps):PFs X O (.FormattedValue e (-1) none p::r) (.inr ev::ps)
theorem DD {es:List Expr} {ps:List YM} (h:PFs X O es ps):∀ (pins:List (Addr×Obj)) (s:Shared) (σ:L2.St) (F0:Fz) (F H:Hp) (en:Q2) (Q:VK) (acc out:Str),Inv X pins σ H s->RS X.K X.H₀ F0 F H σ en O->YA ps en acc=some out->acc.length+ps.length*100000<=10000000 ->
  (∀ F' H',Gr F H F' H'->Q (.str out) H')->wpAny (model X.prog X.w) X.A (joinParts acc (evalEach es X.env)) (EP X pins σ Q) X.xe s:=by
 have hz:=sizeLine_eq
 induction h with
 | nil =>
  intro pins s σ F0 F H en Q acc out I rs e hl k
  obtain rfl:=Option.some.inj e
  exact joinParts_nilE (joinParts_nil ⟨.str _,H,I.tok _,⟨_,rfl⟩,k F H (.refl rs.fh)⟩ (by omega))
 | @lit x j p r ps hx t ih =>
  intro pins s σ F0 F H en Q acc out I rs e hl k
  rw [List.length_cons,Nat.add_mul] at hl
  refine joinParts_consE (joinParts_cons (Calls.Constant_str ⟨by rw [Str.length_append];omega,?_⟩))
  exact ih pins _ σ F0 F H en Q (acc++x) out (I.tok _) rs e (by rw [Str.length_append];omega) k
 | @val ex p ev r ps he t ih =>
  intro pins s σ F0 F H en Q acc out I rs e hl k
  rw [List.length_cons,Nat.add_mul] at hl
  obtain ⟨d,e1,e2⟩:=QR (show ((ev en).bind fun d=>(Yb d).bind fun x=>YA ps en (acc++x))=some out from e)
  obtain ⟨x,e3,e4⟩:=QR e2
  refine joinParts_consE (joinParts_cons (FormattedValue_plain (QL (he pins s σ H (fun v H1=>∃ F1,Gr F H F1 H1/\Rep X.K F1 v d) I ⟨F0,F,en,d,rs,e1,fun v F1 H1 g1 r1=>⟨F1,g1,r1⟩⟩) fun u s1 ⟨v,H1,I1,ru,F1,g1,r1⟩=>?_)))
  have fin:∀ s',(∃ tk,s'={ s1 with toks:=tk })->x.length<=100000->(acc++x).length<=sizeLine/\wpAny (model X.prog X.w) X.A (joinParts (acc++x) (evalEach r X.env)) (EP X pins σ Q) X.xe s':=fun s' ⟨tk,hs⟩ lx=>by
   rw [hs]
   refine ⟨by rw [Str.length_append];omega,ih pins _ σ F0 F1 H1 en Q (acc++x) out (I1.tok _) (rs.grow g1) e4 (by rw [Str.length_append];omega) fun F' H' g'=>k F' H' (g1.trans g')⟩
  cases d with
  | str y =>
   simp only [Yb] at e3
   split at e3
   ·rename_i hy
    obtain rfl:=Option.some.inj e3
    cases r1
    obtain ⟨t,rfl⟩:=ru
    exact formatField_str (fun t' tk=>fin _ ⟨tk,rfl⟩ hy) (by omega)
   ·simp at e3
  | int i =>
   simp only [Yb] at e3
   split at e3
   ·rename_i hi
    obtain rfl:=Option.some.inj e3
    cases r1
    obtain ⟨t,rfl⟩:=ru
    obtain ⟨l1,l2⟩:=KO i hi.1 hi.2
    exact formatField_int_small l2 (fin _ ⟨_,rfl⟩ (by have:(Str.ofString (toString i)).length<=60:=l1;omega))
   ·simp at e3
  | _=>cases e3
theorem T8 {e1 e2:Expr} {es:List Expr} {ps:List YM} (hl:ps.length<=20) (h:PFs X O (e1::e2::es) ps):PE X (.JoinedStr (e1::e2::es) pos) (tD X O (Vx ps)):=by
 rintro pins s σ H Q I ⟨F0,F,en,d,rs,w,k⟩
 obtain ⟨out,e1,rfl⟩:=JQ w
 refine JoinedStr_many (DD h pins s σ F0 F H en Q Str.empty out I rs e1 ?_ fun F' H' g=>k _ F' H' g (.str _))
 have:ps.length*100000<=20*100000:=Nat.mul_le_mul_right _ hl
 have:Str.empty.length=0:=rfl
 omega
end
end Wd
namespace Wd
open PySem PySem.Spec PyProof.Rows L2
section
variable {X:Cx} {O:List Nat} {a b:Expr} {pos:Pos}
def Iw (X:Cx):R2:=fun x y H Q=>UT X id x y H Q\/(x=.non/\∃ p ys,y=.ref p/\SqL X.K H p ys/\Q (.bl false) H)
theorem AB (hu:X.A.units+64<cLine):OpR X (compareOp .Eq) (Iw X)/\J8 X (Iw X) D.eqN:=by
 refine ⟨fun pins s σ H x y v u Q I rx ry z=>?_,fun F H x y dx dy d Q sm rx ry e k=>?_⟩
 ·rcases z with z | ⟨rfl,p,ys,rfl,hq,q⟩
  ·exact (Yd hu).1 pins s σ H x y v u Q I rx ry z
  ·obtain rfl:=(show v=Value.none from rx)
   obtain rfl:=(show u=Value.ref p from ry)
   obtain ⟨its,_,pl,_⟩:=I.list hq
   exact SeqAt.RcAt.none_list pl.isList (by omega) X.prog X.w X.xe _ ⟨.bl false,H,I,rfl,q⟩
 ·unfold D.eqN at e
  split at e
  ·obtain rfl:=Option.some.inj e
   obtain ⟨p,xs,rfl,h,r⟩:=ry.lst sm
   have hx:x=.non:=by
    rcases rx with r | ⟨_,kk,_,_,_,_,_,h4,_⟩
    ·cases r;rfl
    ·cases kk<;>cases h4
   exact .inr ⟨hx,p,xs,rfl,SqL.of h,k _ F H (.refl sm) (.bl _)⟩
  ·exact .inl ((Yd hu).2 F H x y _ _ d Q sm rx ry e k)
def HD:R2:=fun x y H Q=>∃ i j:Str,x=.str i/\y=.str j/\Q (.bl (!Txt.contains j i)) H
theorem AR:OpR X (compareOp .NotIn) HD/\J8 X HD D.notInS:=by
 refine ⟨fun pins s σ H x y v u Q I rx ry ⟨i,j,hx,hy,q⟩=>?_,fun F H x y dx dy d Q sm rx ry e k=>?_⟩
 ·subst hx hy
  obtain ⟨t,rfl⟩:=rx
  obtain ⟨t',rfl⟩:=ry
  exact SB.notContains ⟨.bl _,H,I,rfl,q⟩
 ·cases dx<;>cases dy<;>try (simp [D.notInS] at e;done)
  case str.str i j =>
   obtain rfl:=Option.some.inj e
   exact ⟨i,j,rx.str,ry.str,k _ F H (.refl sm) (.bl _)⟩
def GB (x:Str):It:=⟨fun i _=>i<x.cps.size,fun i H v H'=>H'=H/\∃ c,x.cps[i]?=some c/\v=.str ⟨#[c]⟩,fun i _=>x.cps.size<=i⟩
theorem Qcd {P:Program} {w:World} {K:Fg} {tg:Expr} (x:Str) (t:Tok) (it:Addr):Turn P w K tg (GB x) [it] it (fun i h=>h.IsStrIter it "str_ascii_iterator" x t i) where
 mem:=by simp
 obj:=fun i h st b hb=>by
  have e:b=it:=by simpa using hb
  subst e
  obtain ⟨o,e,c,d⟩:=st
  exact ⟨o,e,fun v z=>by rw [d] at z;cases z⟩
 keep:=fun i h h' st k=>by
  obtain ⟨o,e,r⟩:=st
  exact ⟨o,k it (by simp) o e,r⟩
 item:=by
  intro X hP hw hK hc i pins s σ H E I hf st hg
  subst hP hw hK
  obtain ⟨f0,f1,f2,f3,f4,f5⟩:=hf it (by simp)
  obtain ⟨c0,hx⟩:∃ c,x.cps[i]?=some c:=⟨_,Array.getElem?_eq_getElem (show i<x.cps.size from hg)⟩
  refine wpAny_pyNext_ascii_item st hx fun h' st' sb=>?_
  have I1:Inv X pins σ H { s with heap:=h',toks:=s.toks+1 }:=I.turned (fun b o hb e=>(sb.2 b hb).trans e) f0 f1 f3 f4 f5
  obtain ⟨o,e,c,d⟩:=id st'
  exact ⟨_,rfl,PR (s:={ s with heap:=h',toks:=s.toks+1 }) e c d (by decide) ⟨.str ⟨#[c0]⟩,H,I1,⟨_,rfl⟩,⟨rfl,_,hx,rfl⟩,st',fun b hb=>(hf b hb).1⟩⟩
 done:=by
  intro X hP hw hK hc i pins s σ H E I hf st hg
  subst hP hw hK
  obtain ⟨f0,f1,f2,f3,f4,f5⟩:=hf it (by simp)
  exact wpAny_pyNext_ascii_end (I.ok.hd hc) st (by have:x.cps.size<=i:=hg;simp [this]) fun h' eb=>⟨rfl,I.turned (t':=s.toks) (fun b o hb e=>eb b o hb e) f0 f1 f3 f4 f5⟩
 self:=fun _ _ _ _ _ st h=>wpAny_pyIter_striter_ascii st h
variable {tg iter:Expr}
theorem Lv {ev:Q4} (h:PE X iter (tD X O ev)):PI X tg iter (tI X O (W4 ev)):=by
 rintro pins s σ H R I ⟨F0,F,en,ds,rs,z,k⟩
 obtain ⟨d,e1,e2⟩:=QR z
 refine QL (h pins s σ H (fun v H1=>∃ F1,Gr F H F1 H1/\Rep X.K F1 v d) I ⟨F0,F,en,d,rs,e1,fun v F1 H1 g1 r1=>⟨F1,g1,r1⟩⟩) ?_
 rintro v s1 ⟨x,H1,I1,rx,F1,g1,r1⟩
 cases d with
 | str y =>
  cases r1
  obtain ⟨t,rfl⟩:=rx
  simp only [D.itsS] at e2
  split at e2
  ·rename_i ha
   obtain rfl:=(Option.some.inj e2).symm
   refine wpAny_pyIter_ascii ha ?_
   refine ⟨s1.heap.objs.size,[s1.heap.objs.size],_,_,H1,rfl,I1.kept (t':=s1.toks) fun b o e=>Heap.get?_push_of_some _ e,Qcd y t _,⟨_,Heap.get?_push_size _ rfl,rfl,rfl⟩,fun b hb=>?_,k F1 H1 _ g1 ⟨fun i F' H' _ _ hi=>?_,fun i F' H' x H2 _ s' hi ⟨hH,c,hc,hx⟩=>?_,fun i F' H' _ _ hi=>?_⟩⟩
   ·have e:b=s1.heap.objs.size:=by simpa using hb
    subst e
    exact I1.fpOk (Nat.le_refl _) (I1.hok.fresh (Nat.le_refl _))
   ·show i<y.cps.size
    simpa using hi
   ·subst hH hx
    exact ⟨F',.str ⟨#[c]⟩,.refl s',by rw [List.getElem?_map,Array.getElem?_toList,hc];rfl,.str _⟩
   ·show y.cps.size<=i
    simpa using hi
  ·simp at e2
 | _=>cases e2
end
end Wd
namespace Wd
open PySem PySem.Spec PyProof.Rows L2
section
variable {X:Cx} {O:List Nat} {pos apos:Pos}
theorem CU {i:Nat} {x:Str} {p:Pos} {pins:List (Addr×Obj)} {s:Shared} {σ:L2.St} {H:Hp} {v:V} {Q:Value->Shared->Prop} {E:Value->Shared->Prop} (I:Inv X pins σ H s) (hN:X.N[i]?=some x) (hv:ZZ X.env.scope x) (e:σ[i]?=some (some v)) (h:∀ u,RelV v u->Q u s)
  (hd:(x==("__debug__":Str))=false:=by decide) (hcd:(x==("__classdict__":Str))=false:=by decide):wpAny (model X.prog X.w) X.A (eval (.Name x p) X.env) Q E s:=by
 obtain ⟨m,hn,hl⟩:=I.loc
 obtain ⟨u,r,l⟩:=hl i x v hN e hv
 have fin:=h u r
 rcases l with ⟨hk,hm⟩ | ⟨hk,c,hc,hcell⟩
 ·exact wpAny_Name (wpAny_loadName_local I.ok.kind hk hn hm fin) hd
 ·rcases hk with hk | hk
  ·exact wpAny_Name (wpAny_loadName_cell I.ok.kind hk hc hcell fin) hd
  ·exact wpAny_Name (wpAny_loadName_free I.ok.kind hk hc hcell fin hcd) hd
theorem Lo {i:Nat} {x y z:Str} {k:Int} {j1 j2 j3} {p1 p2 p3 p4 p5:Pos} (hyz:(y==z)=false) (hz:z.length<=14) (hN:X.N[i]?=some x) (hv:ZZ X.env.scope x) (hO:i∉O) (hd:(x==("__debug__":Str))=false:=by decide) (hcd:(x==("__classdict__":Str))=false:=by decide)
  (hbase:attributeBase (.Subscript (.Name x p1) (.Constant (.int k) j1 p2) p3) "replace" X.env (eval (.Subscript (.Name x p1) (.Constant (.int k) j1 p2) p3) X.env)=eval (.Subscript (.Name x p1) (.Constant (.int k) j1 p2) p3) X.env:=by rfl)
  (hline:(apos.endLine==pos.line)=true:=by rfl) :
  PE X (.Call (.Attribute (.Subscript (.Name x p1) (.Constant (.int k) j1 p2) p3) "replace" apos) [.Constant (.str y) j2 p4,.Constant (.str z) j3 p5] [] pos) (tD X O (QA (D.replI k y z) (eV i))):=by
 rintro pins s σ H Q I ⟨F0,F,en,d,rs,w,kk⟩
 obtain ⟨dx,e3,e2⟩:=QR w
 cases dx with
 | tup ds =>
  obtain ⟨dt,e5,e6⟩:=QR (show (((Qu ds.length k).bind fun j=>ds[j]?).bind fun x=>D.repl y z x)=some d from e2)
  cases dt with
  | str t =>
   simp only [D.repl] at e6
   split at e6
   ·rename_i ht
    obtain rfl:=Option.some.inj e6
    obtain ⟨v,h1,h2⟩:=rs.slot i _ (Z2 e3) hO
    obtain ⟨a,xs,rfl,ha,ra⟩:∃ a xs,v=.ref a/\F a=some (.tup xs)/\Reps X.K F xs ds:=by cases h2 with | tup a b=>exact ⟨_,_,rfl,a,b⟩
    obtain ⟨q,hq,rq⟩:=Uv ra e5
    obtain rfl:=rq.sI
    refine wpAny_Call_method_late hbase rfl hline rfl ?_
    refine Subscript_ (CU I hN hv h1 (fun u ru=>?_) hd hcd)
    obtain rfl:=(show u=Value.ref a from ru)
    refine wpAny_Constant_int ?_
    have I1:=I.tok (s.toks+1)
    obtain ⟨its,r,pl,hz'⟩:=I1.tuple (SqT.of (rs.fh _ _ ha))
    obtain ⟨j,g1,g2,g3,g4,g5⟩:=Uu hq
    obtain ⟨w',ew,rw'⟩:=r.get g2
    obtain ⟨tt,rfl⟩:=rw'
    have hl:=r.length
    have hn:=X7
    refine subscriptTail_builtinR (x:=.str t tt) pl.typeIs slot_tuple_getitem.lookup
     (getItem_tuple (j:=j) pl (by omega) (by omega) (by rw [List.size_toArray,<- hl];exact g1) (by simpa using ew) ⟨rfl,?_⟩)
    refine ⟨"str","str.replace",PySem.F.plainAttrs_str,PySem.F.slot_str_replace,PySem.F.type_str_replace,typeIs_str _ _ _,fun _ e=>(nomatch e),?_⟩
    refine Calls.callWith_builtin rfl (Calls.evalArgs_plain ?_)
    refine Calls.spliced_cons (Calls.Constant_str (k:=j2) (pos:=p4) (Calls.spliced_cons (Calls.Constant_str (k:=j3) (pos:=p5) (Calls.spliced_nil ?_))))
    exact SC.replaceW (by simp) (by simp) (by simp) hyz ht hz fun t' tk=>⟨.str _,H,(I.tok tk),⟨_,rfl⟩,kk _ F H (.refl rs.fh) (.str _)⟩
   ·simp at e6
  | _=>cases e6
 | _=>cases e2
end
end Wd
namespace Wd
open PySem PySem.Spec PyProof.Rows L2
section
variable {μ:Type}
abbrev Vk (μ:Type):=μ->Fz->Hp->Hp->Prop
inductive tSR (X:Cx) (O:List Nat) (Res:Vk μ) (b:J4 μ) (Dn:Ends) (σ:L2.St) (H:Hp):Prop
 | mk (F0:Fz) (F:Hp) (e:Q2) (m:μ) (r:Q2×μ) (h1:RS X.K X.H₀ F0 F H σ e O) (h2:Res m F0 F H) (h3:b e m=some r) (h4:∀ σ' F' H',Sm F F'->RS X.K X.H₀ F0 F' H' σ' r.1 O->Res r.2 F0 F' H'->Dn.nx σ' H'):tSR X O Res b Dn σ H
variable {X:Cx} {O:List Nat} {Res:Vk μ} {tg iter:Expr} {body:List Stmt} {pos:Pos}
theorem Ly {it:Jo} {g:Qw} {b:J4 μ} (gr:∀ m F0 F H F' H',Res m F0 F H->Gr F H F' H'->Res m F0 F' H') (hc:X.calm=true) (hp:PassesOwn (model X.prog X.w) X.A X.env X.xe) (hi:PI X tg iter (tI X O it)) (hg:PG X tg (tG X O O g)) (hb:PSs X body (tSR X O Res b)) (hs:∀ x,foldedSetIterable iter X.env x=pure x:=by intro _;rfl) :
  PS X (.For tg iter body [] pos) (tSR X O Res (V7 it g b)) :=
 PS.imp (Pw hp hc hi hg hb hs) <| by
  rintro Dn σ H ⟨F0,F,en,m,rr,rs,res,z,k⟩
  obtain ⟨ds,e1,e2⟩:=QR z
  refine ⟨F0,F,en,ds,rs,e1,fun F1 H1 J g1 io=>?_⟩
  refine ⟨fun i n σ' H'=>n=ds.length-i/\i<=ds.length/\∃ F' en' m',Sm F1 F'/\RS X.K X.H₀ F0 F' H' σ' en' O/\Res m' F0 F' H'/\loopR g b (ds.drop i) en' m'=some rr,⟨ds.length,by omega,by omega,F1,en,m,.refl F1,rs.grow g1,gr _ _ _ _ _ _ res g1,by rw [List.drop_zero];exact e2⟩,?_⟩
  rintro i n σ' H' ⟨rfl,hle,F',en',m',s',rs',res',e3⟩
  rcases Nat.lt_or_ge i ds.length with hi | hi
  ·refine .inr ⟨io.go i F' H' s' rs'.fh hi,fun σ2 H2=>∃ n',n'<ds.length-i/\n'=ds.length-(i+1)/\i+1<=ds.length/\∃ F' en' m',Sm F1 F'/\RS X.K X.H₀ F0 F' H2 σ2 en' O/\Res m' F0 F' H2/\loopR g b (ds.drop (i+1)) en' m'=some rr,
    fun σ2 H2 ⟨n',h1,h2⟩=>⟨n',h1,h2⟩,fun x H2 hy=>?_⟩
   obtain ⟨F2,d,g2,hd,r2⟩:=io.yld i F' H' x H2 s' rs'.fh hi hy
   have hdr:ds.drop i=d::ds.drop (i+1):=by
    rw [List.drop_eq_getElem_cons hi]
    rw [List.getElem?_eq_getElem hi] at hd
    obtain rfl:=Option.some.inj hd;rfl
   rw [hdr] at e3
   obtain ⟨en2,e4,e5⟩:=QR (show ((g d en').bind fun e1=>(b e1 m').bind fun r=>loopR g b (ds.drop (i+1)) r.1 r.2)=some rr from e3)
   obtain ⟨r2',e6,e7⟩:=QR e5
   refine ⟨F0,F2,en',d,en2,rs'.grow g2,r2,e4,fun σ3 H3 F3 s3 rs3=>?_⟩
   have sA:Sm F1 F3:=(s'.trans g2.ff).trans s3.ff
   exact ⟨F0,F3,en2,m',r2',rs3,gr _ _ _ _ _ _ (gr _ _ _ _ _ _ res' g2) s3,e6,fun σ4 F4 H4 s4 rs4 res4=>⟨_,by omega,rfl,hi,F4,r2'.1,r2'.2,sA.trans s4,rs4,res4,e7⟩⟩
  ·have hz:ds.drop i=[]:=List.drop_eq_nil_of_le hi
   rw [hz] at e3
   obtain rfl:=Option.some.inj e3
   exact .inl ⟨io.stop i F' H' s' rs'.fh hi,k σ' F' H' (g1.ff.trans s') rs' res'⟩
theorem Vu {st:Stmt} {b:J4 μ} (h:PS X st (tSR X O Res b)):PSs X [st] (tSR X O Res b):=Jw h
theorem Rr:PSs X [] (tSR X O Res fun e m=>some (e,m)):=PSs.imp Yg <| by
 rintro Dn σ H ⟨F0,F,en,m,r,rs,res,z,k⟩
 obtain rfl:=Option.some.inj z
 exact k σ F H (.refl F) rs res
theorem Wr {st:Stmt} {rest:List Stmt} {ba bb:J4 μ} (h1:PS X st (tSR X O Res ba)) (h2:PSs X rest (tSR X O Res bb)):PSs X (st::rest) (tSR X O Res (Jl ba bb)) :=
 PSs.imp (Jj h1 h2) <| by
  rintro Dn σ H ⟨F0,F,en,m,r,rs,res,z,k⟩
  obtain ⟨q,e1,e2⟩:=QR z
  exact ⟨F0,F,en,m,q,rs,res,e1,fun σ' F' H' s rs' res'=>⟨F0,F',q.1,q.2,r,rs',res',e2,fun σ2 F2 H2 s2=>k σ2 F2 H2 (s.trans s2)⟩⟩
end
theorem Gr.keepN {F H F' H':Hp} (g:Gr F H F' H') {a:Addr} {o:HO} (h:H a=some o) (f:F a=none):F' a=none:=by
 cases e:F' a with
 | none=>rfl
 | some z =>
  rcases g.fr a z e with y | y
  ·rw [f] at y;simp at y
  ·rw [h] at y;simp at y
section
variable {K:Fg} {H₀:Hp} {F0:Fz} {F H F' H':Hp} {σ:L2.St} {e:Q2} {O:List Nat}
def PinO (O:List Nat):Prop:=∀ i∈O,1000<=i
theorem PinO.no (h:PinO O) (hl:e.length<=1000) {j:Nat} {d:D} (he:e[j]?=some (some d)) (hj:j∈O):False:=by
 have:=(List.getElem?_eq_some_iff.mp he).1
 have:=h j hj
 omega
theorem PinO.nin (h:PinO O) (hl:e.length<=1000) {j:Nat} {d:D} (he:e[j]?=some (some d)):j∉O:=fun hj=>h.no hl he hj
theorem RS.nest (r:RS K H₀ F0 F H σ e O) (hO:PinO O) (hl:e.length<=1000) (s:Sm F F') (s2:Sm F' H') (s3:Sm F0.h H') (fr:∀ a o,F' a=some o->F a=some o\/F0.h a=none):RS K H₀ F0 F' H' σ e O:=by
 refine ⟨s2,s3,r.ff.trans s,fun a o h=>?_,fun j d h hj=>?_,fun j d h hj=>(hO.no hl h hj).elim,fun j _ _ _ _ hj _ h1=>(hO.no hl h1 hj).elim,r.pin,r.len⟩
 ·rcases fr a o h with z | z
  ·exact r.fr a o z
  ·exact .inr z
 ·obtain ⟨v,h1,h2⟩:=r.slot j d h hj
  exact ⟨v,h1,h2.mono s⟩
theorem RS.wr (rs:RS K H₀ F0 F H σ e O) (hO:PinO O) (hl:e.length<=1000) {q:Addr} (hf:F q=none) (hh:F0.h q=none) (o:HO):RS K H₀ F0 F (upd H q o) σ e O :=
 rs.nest hO hl (.refl F) (rs.fh.upd _ hf) (rs.hh.upd _ hh) fun a o h=>.inl h
theorem RS.view {F1:Hp} (r:RS K H₀ F0 F H σ e O) (hO:PinO O) (hl:e.length<=1000) (s1:Sm F F1) (s2:Sm F1 H):RS K H₀ ⟨F1,H,np⟩ F1 H σ e []:=by
 refine ⟨s2,.refl H,.refl F1,fun a o h=>.inl h,fun j d h _=>?_,fun j d _ hj=>(nomatch hj),fun j _ _ _ _ hj=>(nomatch hj),fun j hj=>(nomatch hj),r.len⟩
 obtain ⟨v,h1,h2⟩:=r.slot j d h (hO.nin hl h)
 exact ⟨v,h1,h2.mono s1⟩
theorem RS.see {F1:Hp} {i:Nat} {v:V} {d:D} (r:RS K H₀ F0 F1 H σ e []) (hs:σ[i]?=some (some v)) (hr:Rep K F1 v d):RS K H₀ F0 F1 H σ (e.set i (some d)) []:=by
 refine ⟨r.fh,r.hh,r.ff,r.fr,fun j d' h hj=>?_,fun j d _ hj=>(nomatch hj),fun j _ _ _ _ hj=>(nomatch hj),fun j hj=>(nomatch hj),by rw [List.length_set];exact r.len⟩
 rw [List.getElem?_set] at h
 split at h
 ·rename_i z
  subst z
  split at h
  ·obtain rfl:=Option.some.inj (Option.some.inj h)
   exact ⟨v,hs,hr⟩
  ·simp at h
 ·exact r.slot j d' h hj
end
section
variable {μ:Type} {X:Cx} {O:List Nat} {Res:Vk μ}
def Vw (X:Cx) (O:List Nat) (Res:Vk μ) (vw:Q2->μ->Q2):Prop:=∀ F0 F H σ e m,RS X.K X.H₀ F0 F H σ e O->Res m F0 F H->e.length<=1000->∃ F1,Sm F F1/\RS X.K X.H₀ ⟨F1,H,np⟩ F1 H σ (vw e m) []
def Wc (Res:Vk μ):Prop:=∀ m F0 F H F' H',Res m F0 F H->Gr F H F' H'->Res m F0 F' H'
theorem go {F H H':Hp} (s0:Sm F H) (s:Sm H H'):Gr F H F H':=⟨.refl F,s,s0.trans s,fun _ _ h=>.inl h⟩
theorem TJ {vw:Q2->μ->Q2} (hv:Vw X O Res vw) (gr:Wc Res) {c:Expr} {a b:List Stmt} {cv:Q4} {ba bb:J4 μ} {pos:Pos} (hc:PT X c (tDT X [] cv)) (ha:PSs X a (tSR X O Res ba)) (hb:PSs X b (tSR X O Res bb)):PS X (.If c a b pos) (tSR X O Res (Jz vw cv ba bb)) :=
 PS.imp (Ye hc ha hb) <| by
  rintro Dn σ H ⟨F0,F,en,m,r,rs,res,z,k⟩
  unfold Jz at z
  split at z
  ·rename_i hl
   obtain ⟨F1,s1,rs1⟩:=hv F0 F H σ en m rs res hl
   split at z
   ·rename_i e1
    exact ⟨_,F1,_,true,rs1,e1,fun F' H' g=>Jv ⟨_,F,en,m,r,rs.grow (go rs.fh g.hh),gr _ _ _ _ _ _ res (go rs.fh g.hh),z,k⟩⟩
   ·rename_i e1
    exact ⟨_,F1,_,false,rs1,e1,fun F' H' g=>Jh ⟨_,F,en,m,r,rs.grow (go rs.fh g.hh),gr _ _ _ _ _ _ res (go rs.fh g.hh),z,k⟩⟩
   ·simp at z
  ·simp at z
theorem Rep.pl {K:Fg} {F F':Hp} {v:V} {d:D} (r:Rep K F v d) (h:Il d=true):Rep K F' v d:=by
 cases r<;>first | exact .bl _ | exact .int _ | exact .str _ | exact .non | cases h
theorem Em {vw:Q2->μ->Q2} (hv:Vw X O Res vw) (gr:Wc Res) {j:Nat} {st:Stmt} {ev:Q4} (hij:Qe j∉O) (hj:j∉O) (h:PS X st (WV (tD X [] ev) (Yw j))):PS X st (tSR X O Res (Wi vw j ev)) :=
 PS.imp h <| by
  rintro Dn σ H ⟨F0,F,en,m,r,rs,res,z,k⟩
  unfold Wi at z
  split at z
  ·rename_i hl
   obtain ⟨F1,s1,rs1⟩:=hv F0 F H σ en m rs res hl
   obtain ⟨d,e1,e2⟩:=QR z
   split at e2
   ·rename_i hp
    obtain rfl:=Option.some.inj e2
    refine ⟨_,F1,_,d,rs1,e1,fun v F' H' g r1=>?_⟩
    have rs2:=(rs.grow (go rs.fh g.hh)).put' j (r1.pl hp) hij
    rw [show dl j O=O by unfold dl;rw [List.filter_eq_self];intro a ha;simp;rintro rfl;exact hj ha] at rs2
    exact k _ F H' (.refl F) rs2 (gr _ _ _ _ _ _ res (go rs.fh g.hh))
   ·simp at e2
  ·simp at z
theorem Rq {st:Stmt} {OL:List Nat} {w:Bool} {b:Q8} (hO:PinO O) (gr:Wc Res) (h:PS X st (tS X O O OL w b)):PS X st (tSR X O Res (Za b)) :=
 PS.imp h <| by
  rintro Dn σ H ⟨F0,F,en,m,r,rs,res,z,k⟩
  obtain ⟨e',z1,hl,hl',rfl⟩:∃ e',b en=some (.nx e')/\en.length<=1000/\e'.length<=1000/\r=(e',m):=by
   unfold Za at z
   split at z
   ·rename_i e' h1
    split at z
    ·rename_i h2;obtain rfl:=Option.some.inj z;exact ⟨e',h1,h2.1,h2.2,rfl⟩
    ·simp at z
   ·simp at z
  refine ⟨⟨F,H,F0.p⟩,F,en,_,⟨rs.fh,.refl H,.refl F,fun a o h=>.inl h,rs.slot,fun j d h hj=>(hO.no hl h hj).elim,fun j _ _ _ _ hj _ h1=>(hO.no hl h1 hj).elim,rs.pin,rs.len⟩,z1,fun σ' F' H' s q=>?_⟩
  refine k σ' F' H' s ⟨q.fh,rs.hh.trans q.hh,rs.ff.trans q.ff,fun a o h=>?_,q.slot,fun j d h hj=>(hO.no hl' h hj).elim,fun j _ _ _ _ hj _ h1=>(hO.no hl' h1 hj).elim,q.pin,q.len⟩ (gr _ _ _ _ _ _ res q.ex.gr)
  rcases q.fr a o h with z | z
  ·exact rs.fr a o z
  ·exact .inr (rs.hh.none z)
end
end Wd
namespace Wd
open PySem PySem.Spec PyProof.Rows L2
section
variable (K:Fg) (F H:Hp)
inductive ImH:V->Im->List Addr->Prop
 | pl {v:V} {d:D} (r:Rep K F v d):ImH v (.pl d) []
 | wd {t n:Addr} {x:Str} {ns:List Str} (ht:F t=some (.tup [.str "word",.str x,.ref n])) (hn:H n=some (.lst (ns.map V.str))) (fn:F n=none):ImH (.ref t) (.wd x ns) [n]
inductive ImsH:List V->List Im->List Addr->Prop
 | nil:ImsH [] [] []
 | cons {v:V} {i:Im} {fp:List Addr} {vs:List V} {is:List Im} {fq:List Addr} (h:ImH K F H v i fp) (r:ImsH vs is fq):ImsH (v::vs) (i::is) (fp++fq)
inductive BkH:V->Bk->List Addr->Prop
 | pl {v:V} {d:D} (r:Rep K F v d):BkH v (.pl d) []
 | tb {t l:Addr} {u:V} {rows:List Str} {lab:D} (ht:F t=some (.tup [.str "table",.ref l,u])) (hu:Rep K F u lab) (hl:H l=some (.lst (rows.map V.str))) (fl:F l=none):BkH (.ref t) (.tb rows lab) [l]
 | pa {t l:Addr} {vs:List V} {is:List Im} {fp:List Addr} (ht:F t=some (.tup [.str "para",.ref l])) (hl:H l=some (.lst vs)) (fl:F l=none) (r:ImsH K F H vs is fp):BkH (.ref t) (.pa is) (l::fp)
inductive BksH:List V->List Bk->List Addr->Prop
 | nil:BksH [] [] []
 | cons {v:V} {i:Bk} {fp:List Addr} {vs:List V} {is:List Bk} {fq:List Addr} (h:BkH K F H v i fp) (r:BksH vs is fq):BksH (v::vs) (i::is) (fp++fq)
inductive BH (m:BM) (p:Addr) (fp:List Addr):Prop
 | mk (vs:List V) (hp:H p=some (.lst vs)) (fn:F p=none) (b:BksH K F H vs m fp) (nd:(p::fp).Nodup):BH m p fp
end
section
variable {K:Fg} {F H F' H':Hp}
def We (fp:List Addr) (H H':Hp):Prop:=∀ a∈fp,∀ o,H a=some o->H' a=some o
theorem ImH.mono {v:V} {i:Im} {fp:List Addr} (h:ImH K F H v i fp) (s:Sm F F') (k:We fp H H') (n:∀ a∈fp,F' a=none):ImH K F' H' v i fp:=by
 cases h with
 | pl r=>exact .pl (r.mono s)
 | wd ht hn fn=>exact .wd (s _ _ ht) (k _ (by simp) _ hn) (n _ (by simp))
theorem ImsH.mono {vs:List V} {is:List Im} {fp:List Addr} (h:ImsH K F H vs is fp) (s:Sm F F') (k:We fp H H') (n:∀ a∈fp,F' a=none):ImsH K F' H' vs is fp:=by
 induction h with
 | nil=>exact .nil
 | cons h r ih=>exact .cons (h.mono s (fun a ha=>k a (List.mem_append_left _ ha)) fun a ha=>n a (List.mem_append_left _ ha)) (ih (fun a ha=>k a (List.mem_append_right _ ha)) fun a ha=>n a (List.mem_append_right _ ha))
theorem BkH.mono {v:V} {i:Bk} {fp:List Addr} (h:BkH K F H v i fp) (s:Sm F F') (k:We fp H H') (n:∀ a∈fp,F' a=none):BkH K F' H' v i fp:=by
 cases h with
 | pl r=>exact .pl (r.mono s)
 | tb ht hu hl fl=>exact .tb (s _ _ ht) (hu.mono s) (k _ (by simp) _ hl) (n _ (by simp))
 | pa ht hl fl r=>exact .pa (s _ _ ht) (k _ (by simp) _ hl) (n _ (by simp)) (r.mono s (fun a ha=>k a (List.mem_cons_of_mem _ ha)) fun a ha=>n a (List.mem_cons_of_mem _ ha))
theorem BksH.mono {vs:List V} {is:List Bk} {fp:List Addr} (h:BksH K F H vs is fp) (s:Sm F F') (k:We fp H H') (n:∀ a∈fp,F' a=none):BksH K F' H' vs is fp:=by
 induction h with
 | nil=>exact .nil
 | cons h r ih=>exact .cons (h.mono s (fun a ha=>k a (List.mem_append_left _ ha)) fun a ha=>n a (List.mem_append_left _ ha)) (ih (fun a ha=>k a (List.mem_append_right _ ha)) fun a ha=>n a (List.mem_append_right _ ha))
theorem ImsH.at {vs:List V} {is:List Im} {fp:List Addr} (h:ImsH K F H vs is fp):∀ a∈fp,(∃ us,H a=some (.lst us))/\F a=none:=by
 induction h with
 | nil=>exact fun a ha=>nomatch ha
 | cons h r ih =>
  intro a ha
  rcases List.mem_append.mp ha with z | z
  ·cases h with
   | pl r=>cases z
   | wd ht hn fn=>rw [List.mem_singleton.mp z];exact ⟨⟨_,hn⟩,fn⟩
  ·exact ih a z
theorem BksH.at {vs:List V} {is:List Bk} {fp:List Addr} (h:BksH K F H vs is fp):∀ a∈fp,(∃ us,H a=some (.lst us))/\F a=none:=by
 induction h with
 | nil=>exact fun a ha=>nomatch ha
 | cons h r ih =>
  intro a ha
  rcases List.mem_append.mp ha with z | z
  ·cases h with
   | pl r=>cases z
   | tb ht hu hl fl=>rw [List.mem_singleton.mp z];exact ⟨⟨_,hl⟩,fl⟩
   | pa ht hl fl r =>
    rcases List.mem_cons.mp z with y | y
    ·rw [y];exact ⟨⟨_,hl⟩,fl⟩
    ·exact r.at a y
  ·exact ih a z
theorem BH.at {m:BM} {p:Addr} {fp:List Addr} (h:BH K F H m p fp):∀ a∈p::fp,(∃ us,H a=some (.lst us))/\F a=none:=by
 obtain ⟨vs,hp,fn,b,nd⟩:=h
 intro a ha
 rcases List.mem_cons.mp ha with z | z
 ·rw [z];exact ⟨⟨_,hp⟩,fn⟩
 ·exact b.at a z
theorem BH.gr {m:BM} {p:Addr} {fp:List Addr} (h:BH K F H m p fp) (g:Gr F H F' H'):BH K F' H' m p fp:=by
 have ha:=h.at
 obtain ⟨vs,hp,fn,b,nd⟩:=h
 refine ⟨vs,g.hh _ _ hp,g.keepN hp fn,b.mono g.ff (fun a _ o e=>g.hh a o e) fun a h=>?_,nd⟩
 obtain ⟨⟨us,e⟩,f⟩:=ha a (List.mem_cons_of_mem _ h)
 exact g.keepN e f
theorem ImsH.snoc {vs:List V} {is:List Im} {fp:List Addr} (h:ImsH K F H vs is fp) {v:V} {i:Im} {fq:List Addr} (q:ImH K F H v i fq):ImsH K F H (vs++[v]) (is++[i]) (fp++fq):=by
 induction h with
 | nil=>have:=ImsH.cons q .nil;simpa using this
 | cons h r ih=>rw [List.append_assoc];exact .cons h ih
theorem BksH.snoc {vs:List V} {is:List Bk} {fp:List Addr} (h:BksH K F H vs is fp) {v:V} {i:Bk} {fq:List Addr} (q:BkH K F H v i fq):BksH K F H (vs++[v]) (is++[i]) (fp++fq):=by
 induction h with
 | nil=>have:=BksH.cons q .nil;simpa using this
 | cons h r ih=>rw [List.append_assoc];exact .cons h ih
theorem ImsH.last {is:List Im} {i:Im}:∀ {vs:List V} {fp:List Addr},ImsH K F H vs (is++[i]) fp->∃ ws v fq fr,vs=ws++[v]/\fp=fq++fr/\ImsH K F H ws is fq/\ImH K F H v i fr:=by
 induction is with
 | nil =>
  intro vs fp h
  cases h with
  | cons h r=>cases r with
   | nil=>exact ⟨[],_,[],_,rfl,by simp,.nil,h⟩
 | cons j is ih =>
  intro vs fp h
  cases h with
  | cons h r =>
   obtain ⟨ws,v,fq,fr,rfl,rfl,a,b⟩:=ih r
   exact ⟨_::ws,v,_++fq,fr,rfl,by rw [List.append_assoc],.cons h a,b⟩
theorem BksH.last {is:List Bk} {i:Bk}:∀ {vs:List V} {fp:List Addr},BksH K F H vs (is++[i]) fp->∃ ws v fq fr,vs=ws++[v]/\fp=fq++fr/\BksH K F H ws is fq/\BkH K F H v i fr:=by
 induction is with
 | nil =>
  intro vs fp h
  cases h with
  | cons h r=>cases r with
   | nil=>exact ⟨[],_,[],_,rfl,by simp,.nil,h⟩
 | cons j is ih =>
  intro vs fp h
  cases h with
  | cons h r =>
   obtain ⟨ws,v,fq,fr,rfl,rfl,a,b⟩:=ih r
   exact ⟨_::ws,v,_++fq,fr,rfl,by rw [List.append_assoc],.cons h a,b⟩
theorem ImsH.len {vs:List V} {is:List Im} {fp:List Addr} (h:ImsH K F H vs is fp):vs.length=is.length:=by
 induction h with
 | nil=>rfl
 | cons h r ih=>simp [ih]
theorem BksH.len {vs:List V} {is:List Bk} {fp:List Addr} (h:BksH K F H vs is fp):vs.length=is.length:=by
 induction h with
 | nil=>rfl
 | cons h r ih=>simp [ih]
theorem ImH.rep {v:V} {i:Im} {fp:List Addr} (h:ImH K F H v i fp) (s:Sm F F') (k:∀ a∈fp,F' a=H a):Rep K F' v (Z3 i):=by
 cases h with
 | pl r=>exact r.mono s
 | wd ht hn fn=>exact .tup (s _ _ ht) (.cons (.str _) (.cons (.str _) (.cons (.lst ((k _ (by simp)).trans hn) (Reps.strs _)) .nil)))
theorem ImsH.rep {vs:List V} {is:List Im} {fp:List Addr} (h:ImsH K F H vs is fp) (s:Sm F F') (k:∀ a∈fp,F' a=H a):Reps K F' vs (is.map Z3):=by
 induction h with
 | nil=>exact .nil
 | cons h r ih=>exact .cons (h.rep s fun a ha=>k a (List.mem_append_left _ ha)) (ih fun a ha=>k a (List.mem_append_right _ ha))
theorem BkH.rep {v:V} {i:Bk} {fp:List Addr} (h:BkH K F H v i fp) (s:Sm F F') (k:∀ a∈fp,F' a=H a):Rep K F' v (J3 i):=by
 cases h with
 | pl r=>exact r.mono s
 | tb ht hu hl fl=>exact .tup (s _ _ ht) (.cons (.str _) (.cons (.lst ((k _ (by simp)).trans hl) (Reps.strs _)) (.cons (hu.mono s) .nil)))
 | pa ht hl fl r=>exact .tup (s _ _ ht) (.cons (.str _) (.cons (.lst ((k _ (by simp)).trans hl) (r.rep s fun a ha=>k a (List.mem_cons_of_mem _ ha))) .nil))
theorem BksH.rep {vs:List V} {is:List Bk} {fp:List Addr} (h:BksH K F H vs is fp) (s:Sm F F') (k:∀ a∈fp,F' a=H a):Reps K F' vs (is.map J3):=by
 induction h with
 | nil=>exact .nil
 | cons h r ih=>exact .cons (h.rep s fun a ha=>k a (List.mem_append_left _ ha)) (ih fun a ha=>k a (List.mem_append_right _ ha))
def fz (F H:Hp) (fp:List Addr):Hp:=fun a=>if a∈fp then H a else F a
theorem X2 {fp:List Addr} {a:Addr} (h:a∈fp):fz F H fp a=H a:=if_pos h
theorem Tc {fp:List Addr} {a:Addr} {o:HO} (h:fz F H fp a=some o):a∈fp/\H a=some o\/F a=some o:=by
 unfold fz at h
 split at h
 ·rename_i z;exact .inl ⟨z,h⟩
 ·exact .inr h
theorem Tb {fp:List Addr} (n:∀ a∈fp,F a=none):Sm F (fz F H fp):=fun a o h=>by
 unfold fz
 rw [if_neg fun z=>by rw [n a z] at h;simp at h]
 exact h
theorem KG {fp:List Addr} (s:Sm F H):Sm (fz F H fp) H:=fun a o h=>by
 rcases Tc h with ⟨_,z⟩ | z
 ·exact z
 ·exact s a o z
theorem BH.frz {m:BM} {p:Addr} {fp:List Addr} (h:BH K F H m p fp) (s:Sm F H):Sm F (fz F H (p::fp))/\Sm (fz F H (p::fp)) H/\Rep K (fz F H (p::fp)) (.ref p) (JM m):=by
 have ha:=h.at
 have s1:Sm F (fz F H (p::fp)):=Tb fun a h=>(ha a h).2
 obtain ⟨vs,hp,fn,b,nd⟩:=h
 exact ⟨s1,KG s,.lst ((X2 List.mem_cons_self).trans hp) (b.rep s1 fun a ha=>X2 (List.mem_cons_of_mem _ ha))⟩
theorem W5 {fp:List Addr} {l:Addr} {o:HO} (h:l∉fp):We fp H (upd H l o):=fun a ha x e=>by
 have:a≠l:=fun z=>h (z▸ha)
 rw [QB this];exact e
theorem BH.app {m:BM} {p:Addr} {fp:List Addr} (h:BH K F H m p fp) {b:Bk} {v:V} {fq:List Addr} (q:BkH K F H v b fq) (nd:(p::(fp++fq)).Nodup) {vs:List V} (hv:H p=some (.lst vs)):BH K F (upd H p (.lst (vs++[v]))) (m++[b]) p (fp++fq):=by
 have ha:=h.at
 obtain ⟨ws,hp,fn,b',nd'⟩:=h
 rw [hp] at hv
 obtain rfl:ws=vs:=by cases hv;rfl
 have nn:=List.nodup_cons.mp nd
 have hm:=b'.snoc q
 refine ⟨_,QQ,fn,hm.mono (.refl F) (W5 nn.1) fun a ha'=>?_,nd⟩
 exact (hm.at a ha').2
theorem BH.row {m:BM} {rows:List Str} {lab:D} {p:Addr} {fp:List Addr} (h:BH K F H (m++[.tb rows lab]) p fp):∃ vs t l u,l∈fp/\H p=some (.lst (vs++[.ref t]))/\F t=some (.tup [.str "table",.ref l,u])/\H l=some (.lst (rows.map V.str)) /\
  ∀ y,BH K F (upd H l (.lst (rows.map V.str++[.str y]))) (m++[.tb (rows++[y]) lab]) p fp:=by
 obtain ⟨vs,hp,fn,b,nd⟩:=h
 obtain ⟨ws,v,fq,fr,rfl,rfl,a,c⟩:=b.last
 cases c with
 | tb ht hu hl fl =>
 rename_i t l u
 have nn:=List.nodup_cons.mp nd
 have n2:=List.nodup_append.mp nn.2
 have lq:l∉fq:=fun z=>n2.2.2 l z l (by simp) rfl
 have lp:p≠l:=fun z=>nn.1 (List.mem_append_right _ (by simp [z]))
 refine ⟨ws,t,l,u,by simp,hp,ht,hl,fun y=>⟨_,by rw [QB lp];exact hp,fn,(a.mono (.refl F) (W5 lq) fun a' ha'=>(a.at a' ha').2).snoc (.tb ht hu (by rw [QQ,List.map_append];rfl) fl),nd⟩⟩
theorem BH.item {m:BM} {is:List Im} {p:Addr} {fp:List Addr} (h:BH K F H (m++[.pa is]) p fp):∃ vs t l us,l∈fp/\H p=some (.lst (vs++[.ref t]))/\F t=some (.tup [.str "para",.ref l])/\H l=some (.lst us)/\us.length=is.length/\Reps K (fz F H (p::fp)) us (is.map Z3) /\
  ∀ v i fq,ImH K F H v i fq->(p::(fp++fq)).Nodup->BH K F (upd H l (.lst (us++[v]))) (m++[.pa (is++[i])]) p (fp++fq):=by
 have s1:Sm F (fz F H (p::fp)):=Tb fun a ha=>(h.at a ha).2
 obtain ⟨vs,hp,fn,b,nd⟩:=h
 obtain ⟨ws,v,fq,fr,rfl,rfl,a,c⟩:=b.last
 cases c with
 | pa ht hl fl r =>
 rename_i t l us fp'
 have nn:=List.nodup_cons.mp nd
 have n2:=List.nodup_append.mp nn.2
 have lq:l∉fq:=fun z=>n2.2.2 l z l (by simp) rfl
 have lp:p≠l:=fun z=>nn.1 (List.mem_append_right _ (by simp [z]))
 have lf:l∉fp':=(List.nodup_cons.mp n2.2.1).1
 refine ⟨ws,t,l,us,by simp,hp,ht,hl,r.len,r.rep s1 (fun a ha=>X2 (by simp [ha])),fun v i fg q nd2=>⟨_,by rw [QB lp];exact hp,fn,?_,nd2⟩⟩
 have nn2:=(List.nodup_append.mp (List.nodup_cons.mp nd2).2)
 have lg:l∉fp'++fg:=fun z=>by
  rcases List.mem_append.mp z with z | z
  ·exact lf z
  ·exact nn2.2.2 l (by simp) l z rfl
 have hs:=r.snoc q
 have:=(a.mono (.refl F) (W5 (o:=.lst (us++[v])) lq) fun a' ha'=>(a.at a' ha').2).snoc (.pa ht QQ fl (hs.mono (.refl F) (W5 lg) fun a' ha'=>(hs.at a' ha').2))
 rw [List.append_assoc]
 exact this
theorem BH.note {m:BM} {is:List Im} {x:Str} {ns:List Str} {p:Addr} {fp:List Addr} (h:BH K F H (m++[.pa (is++[.wd x ns])]) p fp):∃ vs t l us t2 n,(n∈fp/\l∈fp)/\H p=some (.lst (vs++[.ref t]))/\F t=some (.tup [.str "para",.ref l])/\H l=some (.lst (us++[.ref t2])) /\
  F t2=some (.tup [.str "word",.str x,.ref n])/\H n=some (.lst (ns.map V.str))/\Reps K (fz F H (p::fp)) (us++[.ref t2]) ((is++[Im.wd x ns]).map Z3)/\∀ y,BH K F (upd H n (.lst (ns.map V.str++[.str y]))) (m++[.pa (is++[.wd x (ns++[y])])]) p fp:=by
 have s1:Sm F (fz F H (p::fp)):=Tb fun a ha=>(h.at a ha).2
 obtain ⟨vs,hp,fn,b,nd⟩:=h
 obtain ⟨ws,v,fq,fr,rfl,rfl,a,c⟩:=b.last
 cases c with
 | pa ht hl fl r =>
 rename_i t l us fp'
 have rr:=r.rep s1 (fun a ha=>X2 (by simp [ha]))
 obtain ⟨us',v',fq',fr',rfl,rfl,a2,c2⟩:=r.last
 cases c2 with
 | wd ht2 hn fn2 =>
 rename_i t2 n
 have nn:=List.nodup_cons.mp nd
 have n2:=List.nodup_append.mp nn.2
 have n3:=List.nodup_cons.mp n2.2.1
 have n4:=List.nodup_append.mp n3.2
 have nq:n∉fq:=fun z=>n2.2.2 n z n (by simp) rfl
 have np:p≠n:=fun z=>nn.1 (List.mem_append_right _ (by simp [z]))
 have nl:l≠n:=fun z=>n3.1 (by simp [z])
 have nq':n∉fq':=fun z=>n4.2.2 n z n (by simp) rfl
 refine ⟨ws,t,l,us',t2,n,⟨by simp,by simp⟩,hp,ht,hl,ht2,hn,rr,fun y=>⟨_,by rw [QB np];exact hp,fn,?_,nd⟩⟩
 exact (a.mono (.refl F) (W5 nq) fun a' ha'=>(a.at a' ha').2).snoc (.pa ht (by rw [QB nl];exact hl) fl ((a2.mono (.refl F) (W5 nq') fun a' ha'=>(a2.at a' ha').2).snoc (.wd ht2 (by rw [QQ,List.map_append];rfl) fn2)))
end
end Wd
namespace Wd
open PySem PySem.Spec PyProof.Rows L2
def un (G G':Hp):Hp:=fun a=>match G a with
 | some o=>some o
 | none=>G' a
theorem Vh (G G':Hp):Sm G (un G G'):=fun a o h=>by unfold un;rw [h]
theorem WZ {F G G':Hp} (s:Sm G F) (s':Sm G' F):Sm G' (un G G'):=fun a o h=>by
 unfold un
 cases e:G a with
 | none=>exact h
 | some x =>
  have:=s a x e
  rw [s' a o h] at this
  exact this.symm
theorem Wa {F G G':Hp} (s:Sm G F) (s':Sm G' F):Sm (un G G') F:=fun a o h=>by
 unfold un at h
 cases e:G a with
 | none=>rw [e] at h;exact s' a o h
 | some x=>rw [e] at h;obtain rfl:=Option.some.inj h;exact s a _ e
theorem Uh {G G':Hp} {a:Addr} {o:HO} (h:un G G' a=some o):G a=some o\/G' a=some o:=by
 unfold un at h
 cases e:G a with
 | none=>rw [e] at h;exact .inr h
 | some x=>rw [e] at h;exact .inl h
def Om (p:Addr) (o:HO):Hp:=fun a=>if a=p then some o else none
theorem Qbx (p:Addr) (o:HO):Om p o p=some o:=if_pos rfl
theorem Qby {F:Hp} {p:Addr} {o:HO} (h:F p=some o):Sm (Om p o) F:=fun a x e=>by
 unfold Om at e
 split at e
 ·rename_i z;subst z;obtain rfl:=Option.some.inj e;exact h
 ·simp at e
def Kept (fp:List Addr) (H H':Hp):Prop:=∀ a o,a∉fp->H a=some o->H' a=some o
theorem ML {α:Type} (xs:List α) (x:α):Jy (xs++[x]) (-1)=some x:=by
 unfold Jy YC
 rw [if_neg (by omega),if_pos (by simp;omega)]
 simp [show (-1+((xs.length:Int)+1)).toNat=xs.length by omega]
section
variable {X:Cx} {pos:Pos}
theorem UQ {j} {p:Pos}:PE X (.UnaryOp .USub (.Constant (.int 1) j p) pos) (tC (.int (-1))):=PE.imp (Ii G0 V6) fun σ H Q h=>⟨1,rfl,h⟩
def ZX (K:Fg) (t:TE):TE:=Yi (XF K) t (tC (.int (-1)))
def Y3 (K:Fg) (t:TE) (i:Int):TE:=Yi (XF K) t (tC (.int i))
theorem XH {K:Fg} {σ:L2.St} {H:Hp} {Q:VK} {t:TE} {p:Addr} {vs:List V} {v:V} (h:H p=some (.lst (vs++[v]))) (q:Q v H) (ht:∀ Q:VK,Q (.ref p) H->t σ H Q):ZX K t σ H Q:=ht _ (.inl ⟨p,_,-1,v,rfl,rfl,SqL.of h,ML vs v,q⟩)
theorem WW {K:Fg} {σ:L2.St} {H:Hp} {Q:VK} {t:TE} {p:Addr} {vs:List V} {v:V} {i:Int} (h:H p=some (.tup vs)) (hi:Jy vs i=some v) (q:Q v H) (ht:∀ Q:VK,Q (.ref p) H->t σ H Q):Y3 K t i σ H Q:=ht _ (.inr (.inl ⟨p,_,i,v,rfl,rfl,SqT.of h,hi,q⟩))
end
def Rz (i:Nat):Q4:=Q0 D.ix (eV i) (QA D.neg (eC (.int 1)))
theorem C6 (ds:List D) (d:D):D.ix (.lst (ds++[d])) (.int (-1))=some d:=by
 unfold D.ix Qu
 simp only
 rw [if_neg (by omega),if_pos (by simp;omega)]
 simp [show (-1+((ds.length:Int)+1)).toNat=ds.length by omega]
theorem YD {k:Str} {d:D} {b:Bool} (h:XA k d=some b):b=false/\∃ x r,d=.tup (.str x::r)/\x≠k:=by
 unfold XA at h
 obtain ⟨x,h1,h2⟩:=QR h
 split at h2
 ·simp at h2
 ·rename_i hk
  obtain rfl:=(Option.some.inj h2).symm
  unfold To at h1
  split at h1
  ·obtain rfl:=Option.some.inj h1;exact ⟨rfl,_,_,rfl,hk⟩
  ·simp at h1
theorem YJ {α:Type} (m:List α):m=[]\/∃ m0 b,m=m0++[b]:=by
 rcases List.eq_nil_or_concat m with h | ⟨m0,b,h⟩
 ·exact .inl h
 ·exact .inr ⟨m0,b,by rw [h,List.concat_eq_append]⟩
theorem VN (f:Bk->Option Bool) (m:BM) (b:Bk):Z9 f (m++[b])=f b:=by unfold Z9;simp
theorem Tp (f:Bk->Bk) (m:BM) (b:Bk):ZL f (m++[b])=m++[f b]:=by unfold ZL;simp
theorem T1 (m:BM) (b:Bk):JM (m++[b])=.lst (m.map J3++[J3 b]):=by unfold JM;simp
def XZ:Bk->Option Str
 | .tb _ _=>some "table"
 | .pa _=>some "para"
 | .pl d=>To d
theorem Ra {b:Bk} {k:Str} (h:XZ b=some k):D.ix (J3 b) (.int 0)=some (.str k):=by
 cases b with
 | tb r l=>obtain rfl:=Option.some.inj h;rfl
 | pa is=>obtain rfl:=Option.some.inj h;rfl
 | pl d =>
  simp only [XZ,To] at h
  split at h
  ·obtain rfl:=Option.some.inj h
   show ((Qu (_+1) 0).bind fun k=>_)=_
   unfold Qu
   simp
  ·simp at h
theorem Qb1 {b:Bk} {c:Bool} (h:Vd b=some c):∃ k,XZ b=some k/\c=decide (k="table"):=by
 cases b with
 | tb r l=>obtain rfl:=Option.some.inj h;exact ⟨_,rfl,rfl⟩
 | pa is=>obtain rfl:=Option.some.inj h;exact ⟨_,rfl,by decide⟩
 | pl d=>obtain ⟨rfl,x,r,rfl,hx⟩:=YD h;exact ⟨x,rfl,by simp [hx]⟩
theorem AY {b:Bk} {c:Bool} (h:WL b=some c):∃ k,XZ b=some k/\c=decide (k="para"):=by
 cases b with
 | tb r l=>obtain rfl:=Option.some.inj h;exact ⟨_,rfl,by decide⟩
 | pa is=>obtain rfl:=Option.some.inj h;exact ⟨_,rfl,rfl⟩
 | pl d=>obtain ⟨rfl,x,r,rfl,hx⟩:=YD h;exact ⟨x,rfl,by simp [hx]⟩
end Wd
namespace Wd
open PySem PySem.Spec PyProof.Rows L2
theorem Rv (x y:Str):D.eqO (.str x) (.str y)=some (.bl (decide (x=y))):=by
 unfold D.eqO;rw [Vs,if_pos (by decide),VH];rfl
theorem Cq (x y:Str):D.neO (.str x) (.str y)=some (.bl (!decide (x=y))):=by
 unfold D.neO;rw [Vs,if_pos (by decide),VH];rfl
def Vy (i:Nat):Q4:=QA D.len (eV i)
def Wu (i:Nat):Q4:=Q0 D.ix (Rz i) (eC (.int 0))
def T6:Q4:=QP (Q0 D.gt (Vy 0) (eC (.int 0))) (Q0 D.eqO (Wu 0) (eC (.str "table")))
def Vo:Q4:=QP (Q0 D.gt (Vy 1) (eC (.int 0))) (Q0 D.eqO (Wu 1) (eC (.str "word")))
def Ri (i:Nat) (c:Q4):Q4:=Qm c (Qm (Q0 D.eqO (Vy i) (eC (.int 0))) (Q0 D.neO (Wu i) (eC (.str "para"))))
theorem D5 {i:Nat} {e:Q2} {ds:List D} {d:D} (h:eV i e=some (.lst (ds++[d]))):Rz i e=some d:=by
 unfold Rz Q0
 rw [h]
 exact C6 ds d
theorem Ry {i:Nat} {e:Q2} {ds:List D} {d:D} {k:Str} (h:eV i e=some (.lst (ds++[d]))) (hk:D.ix d (.int 0)=some (.str k)):Wu i e=some (.str k):=by
 unfold Wu Q0
 rw [D5 h]
 exact hk
theorem Vz {i:Nat} {e:Q2} {ds:List D} (h:eV i e=some (.lst ds)):Vy i e=some (.int ds.length):=by
 unfold Vy QA
 rw [h];rfl
theorem FT {e:Q2} {m:BM} {b:Bool} (he:eV 0 e=some (JM m)) (h:Z9 Vd m=some b):T6 e=some (.bl b):=by
 rcases YJ m with rfl | ⟨m0,k,rfl⟩
 ·obtain rfl:=Option.some.inj h
  unfold T6 QP Q0
  rw [Vz he];rfl
 ·rw [VN] at h
  obtain ⟨x,hx,rfl⟩:=Qb1 h
  rw [T1] at he
  unfold T6 QP Q0
  rw [Vz he,Ry he (Ra hx)]
  show Ju (some (.bl (decide ((0:Int)<((m0.map J3++[J3 k]).length:Nat))))) (D.eqO (.str x) (.str "table")) _=_
  rw [show decide ((0:Int)<((m0.map J3++[J3 k]).length:Nat))=true by simp,Rv]
  rfl
theorem DT {i:Im} {c:Bool} (h:Uj i=some c):∃ k,D.ix (Z3 i) (.int 0)=some (.str k)/\c=decide (k="word"):=by
 cases i with
 | wd x ns=>obtain rfl:=Option.some.inj h;exact ⟨_,rfl,rfl⟩
 | pl d =>
  obtain ⟨rfl,x,r,rfl,hx⟩:=YD h
  refine ⟨x,?_,by simp [hx]⟩
  show ((Qu (_+1) 0).bind fun k=>_)=_
  unfold Qu
  simp
theorem FU {e:Q2} {is:List Im} {b:Bool} (he:eV 1 e=some (.lst (is.map Z3))) (h:Zm (.pa is)=some b):Vo e=some (.bl b):=by
 rcases YJ is with rfl | ⟨m0,k,rfl⟩
 ·obtain rfl:=Option.some.inj h
  unfold Vo QP Q0
  rw [Vz he];rfl
 ·have h':Uj k=some b:=by unfold Zm at h;simpa using h
  obtain ⟨x,hx,rfl⟩:=DT h'
  rw [List.map_append] at he
  unfold Vo QP Q0
  rw [Vz he,Ry he hx]
  show Ju (some (.bl (decide ((0:Int)<((m0.map Z3++[k].map Z3).length:Nat))))) (D.eqO (.str x) (.str "word")) _=_
  rw [show decide ((0:Int)<((m0.map Z3++[k].map Z3).length:Nat))=true by simp,Rv]
  rfl
theorem FR {i:Nat} {c:Q4} {e:Q2} {m:BM} {b:Bool} (hc:c e=some (.bl false)) (he:eV i e=some (JM m)) (h:Z9 WL m=some b):Ri i c e=some (.bl (!b)):=by
 unfold Ri Qm
 rw [hc]
 show Ju (Q0 D.eqO (Vy i) (eC (.int 0)) e) (some (.bl true)) (Q0 D.neO (Wu i) (eC (.str "para")) e)=_
 unfold Q0
 rcases YJ m with rfl | ⟨m0,k,rfl⟩
 ·obtain rfl:=Option.some.inj h
  rw [Vz he];rfl
 ·rw [VN] at h
  obtain ⟨x,hx,rfl⟩:=AY h
  rw [T1] at he
  rw [Vz he,Ry he (Ra hx)]
  show Ju (D.eqO (.int ((m0.map J3++[J3 k]).length:Nat)) (.int 0)) (some (.bl true)) (D.neO (.str x) (.str "para"))=_
  rw [show D.eqO (.int ((m0.map J3++[J3 k]).length:Nat)) (.int 0)=some (.bl false) by
   unfold D.eqO;rw [Vr,if_pos (by decide),Wt]
   rw [decide_eq_false (by simp;omega)];rfl,Cq]
  rfl
def Ul (F H:Hp) (p:Addr) (u:V):Prop:=∃ vs t l w,H p=some (.lst (vs++[.ref t]))/\F t=some (.tup [.str "table",.ref l,w])/\u=.ref l
def Uk (F H:Hp) (p:Addr) (u:V):Prop:=∃ vs t l us t2 n x,H p=some (.lst (vs++[.ref t]))/\F t=some (.tup [.str "para",.ref l])/\H l=some (.lst (us++[.ref t2]))/\F t2=some (.tup [.str "word",.str x,.ref n])/\u=.ref n
inductive spAl (K:Fg) (q:Bk->Option Bool) (A:Hp->Hp->Addr->V->Prop) (vs:List V) (H:Hp) (Q:VK) (ux0:XK):Prop
 | mk (F:Hp) (m:BM) (p:Addr) (fp:List Addr) (b:Bool) (h1:Sm F H) (h2:vs=[.ref p]) (h3:BH K F H m p fp) (h4:Z9 q m=some b) (h5:∀ u H',Sm H H'->(b=false->u=.non)->(b=true->A F H p u)->Q u H'):spAl K q A vs H Q ux0
theorem XG {K:Fg} {H₀ F H:Hp} {σ:L2.St} {e:Q2} (s:Sm F H) (hs:∀ (i:Nat) (d:D),e[i]?=some (some d)->∃ v,σ[i]?=some (some v)/\Rep K F v d) (hl:σ.length=e.length):RS K H₀ ⟨F,H,np⟩ F H σ e [] :=
 ⟨s,.refl H,.refl F,fun a o h=>.inl h,fun j d h _=>hs j d h,fun j d _ hj=>(nomatch hj),fun j _ _ _ _ hj=>(nomatch hj),fun j hj=>(nomatch hj),hl⟩
section
variable {P:Program} {w:World} {K:Fg} {mg:Str->Option Value} {base:Heap} {x y z:Str} {st:Stmt} {k:Nat}
theorem BB (h:Df K mg x st [y]) (S:FnScope [y] [y] (Q7 st))
  (hb:∀ (f:Addr) (cdv:Value) (A:Around) (outer:List Env) (s:Shared) (H:Hp) (E:XK),Room k (A.deeper (envOfC x (Q7 st) s.heap.objs.size f cdv))->PSs (Qn Qk P w K mg base [y] x (Q7 st) f cdv A outer s H E).nox (J9 st) (ZD (Vb (tDT (Qn Qk P w K mg base [y] x (Q7 st) f cdv A outer s H E).nox [] T6) (Y3 K (ZX K (Qj 0)) 1) (tC .non)))) :
  QM P w K mg base (k+1) x [y] (spAl K Vd Ul):=by
 obtain ⟨f,fd,F,hbd,hm⟩:=h
 refine ⟨f,fd,F.ok S (fun vs H Q E q=>by obtain ⟨_,_,_,_,_,_,hv,_⟩:=q;rw [hv];rfl) (fun cdv A outer s H vs Q E hr q=>?_),hbd,F.kp,hm⟩
 obtain ⟨Fz,m,p,fp,b,sm,hv,bh,hq,k⟩:=q
 refine ⟨_,hb f cdv A outer s H E hr,?_⟩
 have hst:start [y] vs=[some (V.ref p)]:=by rw [hv];rfl
 rw [hst]
 obtain ⟨s1,s2,r1⟩:=bh.frz sm
 refine ⟨⟨_,H,np⟩,_,[some (JM m)],b,XG s2 (fun i d h=>?_) rfl,FT rfl hq,fun F' H' g=>?_⟩
 ·cases i with
  | zero=>cases h;exact ⟨_,rfl,r1⟩
  | succ i=>simp at h
 ·cases b with
  | false=>exact Jh (k .non H' g.hh (fun _=>rfl) (fun h=>nomatch h))
  | true =>
   refine Jv ?_
   rcases YJ m with rfl | ⟨m0,bl,rfl⟩
   ·cases hq
   ·rw [VN] at hq
    cases bl with
    | tb rows lab =>
     obtain ⟨us,t,l,u,_,a1,a2,a3,_⟩:=bh.row
     refine WW (g.hh _ _ (sm _ _ a2)) rfl (k (.ref l) H' g.hh (fun h=>nomatch h) fun _=>⟨us,t,l,u,a1,a2,rfl⟩) fun Q q=>XH (g.hh _ _ a1) q fun Q q=>⟨_,rfl,q⟩
    | pa is=>cases hq
    | pl d=>obtain ⟨h,_⟩:=YD hq;cases h
end
end Wd
namespace Wd
open PySem PySem.Spec PyProof.Rows L2
inductive spIo (K:Fg) (vs:List V) (H:Hp) (Q:VK) (ux0:XK):Prop
 | mk (F:Hp) (u:V) (d:D) (k:Str) (h1:Sm F H) (h2:vs=[u]) (h3:Rep K F u d) (h4:D.ix d (.int 0)=some (.str k))
  (h5:k="para"->∃ t l,u=.ref t/\H t=some (.tup [.str "para",.ref l])/\∀ H',Sm H H'->Q (.ref l) H') (h6:k≠"para"->∀ H' q,Sm H H'->H q=none->H' q=some (.lst [])->Q (.ref q) H'):spIo K vs H Q ux0
def FQ:Q4:=Q0 D.eqO (Q0 D.ix (eV 0) (eC (.int 0))) (eC (.str "para"))
def Ld:Q4:=Q0 D.gt (Vy 0) (eC (.int 0))
theorem Reps.lastR {K:Fg} {F:Hp} {d:D}:∀ {ds:List D} {xs:List V},Reps K F xs (ds++[d])->∃ ys v,xs=ys++[v]/\Rep K F v d
 | [],_,.cons h .nil=>⟨[],_,rfl,h⟩
 | _::_,_,.cons _ r=>by
  obtain ⟨ys,v,rfl,h⟩:=Reps.lastR r
  exact ⟨_::ys,v,rfl,h⟩
theorem HY {H H':Hp} {q:Addr} {o:HO} (s:Sm H H') (hq:H' q=none):Sm H (upd H' q o):=s.upd _ (s.none hq)
section
variable {P:Program} {w:World} {K:Fg} {mg:Str->Option Value} {base:Heap} {x y z:Str} {st:Stmt} {k:Nat}
theorem B7 (h:Df K mg x st [y]) (S:FnScope [y] [y] (Q7 st))
  (hb:∀ (f:Addr) (cdv:Value) (A:Around) (outer:List Env) (s:Shared) (H:Hp) (E:XK),Room k (A.deeper (envOfC x (Q7 st) s.heap.objs.size f cdv))->PSs (Qn Qk P w K mg base [y] x (Q7 st) f cdv A outer s H E).nox (J9 st) (ZD (Vb (tDT (Qn Qk P w K mg base [y] x (Q7 st) f cdv A outer s H E).nox [] FQ) (Y3 K (Qj 0) 1) (XI J7)))) :
  QM P w K mg base (k+1) x [y] (spIo K):=by
 obtain ⟨f,fd,F,hbd,hm⟩:=h
 refine ⟨f,fd,F.ok S (fun vs H Q E q=>by obtain ⟨_,_,_,_,_,hv,_⟩:=q;rw [hv];rfl) (fun cdv A outer s H vs Q E hr q=>?_),hbd,F.kp,hm⟩
 obtain ⟨Fz,u,d,kd,sm,hv,r,hk,h5,h6⟩:=q
 refine ⟨_,hb f cdv A outer s H E hr,?_⟩
 have hst:start [y] vs=[some u]:=by rw [hv];rfl
 rw [hst]
 refine ⟨⟨_,H,np⟩,Fz,[some d],decide (kd="para"),XG sm (fun i d' h=>?_) rfl,?_,fun F' H' g=>?_⟩
 ·cases i with
  | zero=>cases h;exact ⟨_,rfl,r⟩
  | succ i=>simp at h
 ·show ((D.ix d (.int 0)).bind fun x=>D.eqO x (.str "para"))=_
  rw [hk];exact Rv _ _
 ·by_cases e:kd="para"
  ·rw [decide_eq_true e]
   obtain ⟨t,l,rfl,ht,q⟩:=h5 e
   exact Jv (WW (g.hh _ _ ht) rfl (q H' g.hh) fun Q q=>⟨_,rfl,q⟩)
  ·rw [decide_eq_false e]
   exact Jh ⟨Nat.zero_le _,fun q hq=>h6 e _ q (HY g.hh hq) (g.hh.none hq) QQ⟩
theorem BA (h:Df K mg x st [y]) (S:FnScope [y,z] [y] (Q7 st))
  (hb:∀ (f:Addr) (cdv:Value) (A:Around) (outer:List Env) (s:Shared) (H:Hp) (E:XK),Room k (A.deeper (envOfC x (Q7 st) s.heap.objs.size f cdv))->PSs (Qn Qk P w K mg base [y,z] x (Q7 st) f cdv A outer s H E).nox (J9 st)
   (ZY (WV (Vb (tDT (Qn Qk P w K mg base [y,z] x (Q7 st) f cdv A outer s H E).nox [] Ld) (Zl (spIo K) [] E0 (Qy (ZX K (Qj 0)) J7)) (XI J7)) (Yw 1)) (ZD (Vb (tDT (Qn Qk P w K mg base [y,z] x (Q7 st) f cdv A outer s H E).nox [] Vo) (Y3 K (ZX K (Qj 1)) 2) (tC .non))))) :
  QM P w K mg base (k+1) x [y] (spAl K Zm Uk):=by
 obtain ⟨f,fd,F,hbd,hm⟩:=h
 refine ⟨f,fd,F.ok S (fun vs H Q E q=>by obtain ⟨_,_,_,_,_,_,hv,_⟩:=q;rw [hv];rfl) (fun cdv A outer s H vs Q E hr q=>?_),hbd,F.kp,hm⟩
 obtain ⟨Fz,m,p,fp,b,sm,hv,bh,hq,k⟩:=q
 refine ⟨_,hb f cdv A outer s H E hr,?_⟩
 have hst:start [y,z] vs=[some (V.ref p),none]:=by rw [hv];rfl
 rw [hst]
 obtain ⟨s1,s2,r1⟩:=bh.frz sm
 have one:∀ {F:Hp} {v:V} {d:D},Sm F H->Rep K F v d->RS K H ⟨F,H,np⟩ F H [some v,none] [some d,none] []:=fun s r=>XG s (fun i d' h=>by
  match i,h with
  | 0,h=>cases h;exact ⟨_,rfl,r⟩
  | 1,h=>simp at h
  | i+2,h=>simp at h) rfl
 have two:∀ {F H':Hp} {u v:V} {d:D},Sm F H'->Rep K F v d->RS K H ⟨F,H',np⟩ F H' [some u,some v] [none,some d] []:=fun s r=>XG s (fun i d' h=>by
  match i,h with
  | 0,h=>simp at h
  | 1,h=>cases h;exact ⟨_,rfl,r⟩
  | i+2,h=>simp at h) rfl
 have nil:∀ {H':Hp} {q:Addr} {u:V},b=false->Sm H H'->H' q=some (.lst [])->ZD (Vb (tDT (Qn Qk P w K mg base [y,z] x (Q7 st) f cdv A outer s H E).nox [] Vo) (Y3 K (ZX K (Qj 1)) 2) (tC .non)) { nx:=fun _ H'=>Q V.non H',rt:=Q } [some u,some (.ref q)] H':=fun {H' q u} hb s' hq' =>
  ⟨_,_,_,false,two (Qby hq') (.lst (Qbx q _) .nil),rfl,fun F2 H2 g2=>Jh (k .non H2 (s'.trans g2.hh) (fun _=>rfl) fun h=>by rw [hb] at h;cases h)⟩
 rcases YJ m with rfl | ⟨m0,bl,rfl⟩
 ·obtain rfl:=Option.some.inj hq
  refine ⟨_,_,_,false,one s2 r1,rfl,fun F' H' g=>Jh ⟨Nat.zero_le _,fun q hq=>nil rfl (HY g.hh hq) QQ⟩⟩
 ·rw [VN] at hq
  refine ⟨_,_,_,true,one s2 r1,?_,fun F' H' g=>Jv ?_⟩
  ·unfold Ld Q0
   rw [T1,Vz rfl]
   show some (D.bl (decide ((0:Int)<((m0.map J3++[J3 bl]).length:Nat))))=_
   simp
  ·have par:∀ {is:List Im} {us vs':List V} {t l:Addr},Zm (.pa is)=some b->H p=some (.lst (vs'++[.ref t]))->Fz t=some (.tup [.str "para",.ref l])->l∈fp->H l=some (.lst us)->Reps K (fz Fz H (p::fp)) us (is.map Z3)->(∀ H2,Sm H H2->b=true->Y3 K (ZX K (Qj 1)) 2 [some (.ref p),some (.ref l)] H2 Q) ->
     Zl (spIo K) [] E0 (Qy (ZX K (Qj 0)) J7) [some (V.ref p),none] H' fun v H1=>ZD (Vb (tDT (Qn Qk P w K mg base [y,z] x (Q7 st) f cdv A outer s H E).nox [] Vo) (Y3 K (ZX K (Qj 1)) 2) (tC .non)) { nx:=fun _ H'=>Q V.non H',rt:=Q } [some (V.ref p),some v] H1:=fun {is us vs' t l} hw a1 a2 lf a3 rr fin=>by
    have rl:Rep K (fz Fz H (p::fp)) (.ref l) (.lst (is.map Z3)):=.lst ((X2 (List.mem_cons_of_mem _ lf)).trans a3) rr
    refine XH (g.hh _ _ a1) ⟨_,.ref t,J3 (.pa is),"para",s2.trans g.hh,rfl,.tup (s1 _ _ a2) (.cons (.str _) (.cons rl .nil)),rfl,fun _=>⟨t,l,rfl,g.hh _ _ (sm _ _ a2),fun H2 h2=>?_⟩,fun h=>absurd rfl h⟩ fun Q q=>⟨_,rfl,q⟩
    have h3:=g.hh.trans h2
    refine ⟨_,_,_,b,two (s2.trans h3) rl,FU rfl hw,fun F3 H3 g3=>?_⟩
    cases b with
    | false=>exact Jh (k .non H3 (h3.trans g3.hh) (fun _=>rfl) fun h=>nomatch h)
    | true=>exact Jv (fin H3 (h3.trans g3.hh) rfl)
   have oth:∀ {kd:Str},b=false->XZ bl=some kd->kd≠"para"->Zl (spIo K) [] E0 (Qy (ZX K (Qj 0)) J7) [some (V.ref p),none] H' fun v H1=>ZD (Vb (tDT (Qn Qk P w K mg base [y,z] x (Q7 st) f cdv A outer s H E).nox [] Vo) (Y3 K (ZX K (Qj 1)) 2) (tC .non)) { nx:=fun _ H'=>Q V.non H',rt:=Q } [some (V.ref p),some v] H1:=fun {kd} hb0 hk hn=>by
    rw [T1] at r1
    obtain ⟨ys,u,hp,ru⟩:∃ ys u,H p=some (.lst (ys++[u]))/\Rep K (fz Fz H (p::fp)) u (J3 bl):=by
     cases r1 with
     | lst hl rs =>
      obtain ⟨ys,u,rfl,r⟩:=rs.lastR
      exact ⟨ys,u,s2 _ _ hl,r⟩
    exact XH (g.hh _ _ hp) ⟨_,u,J3 bl,kd,s2.trans g.hh,rfl,ru,Ra hk,fun h=>absurd h hn,fun _ H2 q h2 hq hq'=>nil hb0 (g.hh.trans h2) hq'⟩ fun Q q=>⟨_,rfl,q⟩
   cases bl with
   | pa is =>
    cases b with
    | false =>
     obtain ⟨us,t,l,vs',lf,a1,a2,a3,a4,a5,_⟩:=bh.item
     exact par hq a1 a2 lf a3 a5 fun _ _ h=>nomatch h
    | true =>
     rcases YJ is with rfl | ⟨is0,i,rfl⟩
     ·cases hq
     ·have h':Uj i=some true:=by unfold Zm at hq;simpa using hq
      cases i with
      | pl d=>obtain ⟨h,_⟩:=YD h';cases h
      | wd xx ns =>
       obtain ⟨us,t,l,vs',t2,n,⟨nf,lf⟩,a1,a2,a3,a4,a5,a6,_⟩:=bh.note
       exact par hq a1 a2 lf a3 a6 fun H2 s3 _=>WW (s3 _ _ (sm _ _ a4)) rfl (k (.ref n) H2 s3 (fun h=>nomatch h) fun _=>⟨us,t,l,vs',t2,n,xx,a1,a2,a3,a4,rfl⟩) fun Q q=>XH (s3 _ _ a3) q fun Q q=>⟨_,rfl,q⟩
   | tb rows lab =>
    obtain rfl:=Option.some.inj hq
    exact oth rfl rfl (by decide)
   | pl d =>
    obtain ⟨rfl,kd,r,rfl,hk⟩:=YD hq
    exact oth rfl rfl hk
end
end Wd
namespace Wd
open PySem PySem.Spec PyProof.Rows L2
inductive spT (vs:List V) (H:Hp) (Q:VK) (ux0:XK):Prop
 | mk (x:Str) (u:V) (h2:vs=[u,.str x]) (hx:x.length<=100000) (h3:(u=.non/\∀ H',Sm H H'->Q (.bl false) H')\/∃ l zs,u=.ref l/\H l=some (.lst zs)/\zs.length<100000/\∀ H',Kept [l] H H'->H' l=some (.lst (zs++[.str (VV x)]))->Q (.bl true) H'):spT vs H Q ux0
def P0 (i:Nat):Q4:=Q0 D.ix (Q0 (QS V5) (eV i) (eC (.str " "))) (eC (.int 2))
theorem D6 {i:Nat} {e:Q2} {x:Str} (h:eV i e=some (.str x)) (hx:x.length<=100000):P0 i e=some (.str (VV x)):=by
 unfold P0 Q0
 rw [h]
 show (V5 x " ").bind (fun a=>D.ix a (.int 2))=_
 unfold V5
 rw [if_pos ⟨rfl,hx⟩]
 rfl
theorem Sm.kept {H H':Hp} (s:Sm H H') (fp:List Addr):Kept fp H H':=fun a o _ h=>s a o h
theorem Kept.upd {H H':Hp} {fp:List Addr} (k:Kept fp H H') {l:Addr} (o:HO) (h:l∈fp):Kept fp H (L2.upd H' l o):=fun a x ha e=>by
 have:a≠l:=fun z=>ha (z▸h)
 rw [QB this];exact k a x ha e
def N4 (K:Fg) (F H:Hp) (p:Addr) (fp:List Addr) (N:Addr->Prop) (Q:VK) (r:Bool×BM):Prop:=∀ F' H' fp',Sm F F'->Sm F' H'->Kept (p::fp) H H'->(∀ a o,F' a=some o->F a=some o\/a∈p::fp\/N a)->BH K F' H' r.2 p fp'->(∀ a∈fp',a∈fp\/N a)->Q (.bl r.1) H'
inductive spIt (K:Fg) (vs:List V) (H:Hp) (Q:VK) (ux0:XK):Prop
 | mk (F G:Hp) (m:BM) (p:Addr) (fp:List Addr) (v:V) (d:D) (r:Bool×BM) (h1:Sm F H) (h2:vs=[.ref p,v]) (h3:BH K F H m p fp) (h4:Sm G H) (h5:Rep K G v d) (h6:∀ a o,G a=some o->F a=none/\a∉p::fp) (h7:RP d m=some r)
  (h8:N4 K F H p fp (fun a=>G a≠none\/H a=none) Q r):spIt K vs H Q ux0
theorem Qb6 (d:D):(∃ x,d=.tup [.str "word",.str x,.lst []]/\Vf d=.wd x [])\/Vf d=.pl d:=by
 unfold Vf
 split
 ·split
  ·rename_i h;subst h;exact .inl ⟨_,rfl,rfl⟩
  ·exact .inr rfl
 ·exact .inr rfl
theorem Qb5 (d:D):(∃ l,d=.tup [.str "table",.lst [],.str l]/\WY d=.tb [] (.str l))\/(d=.tup [.str "para",.lst []]/\WY d=.pa [])\/WY d=.pl d:=by
 unfold WY
 split
 ·split
  ·rename_i h;subst h;exact .inl ⟨_,rfl,rfl⟩
  ·exact .inr (.inr rfl)
 ·split
  ·rename_i h;subst h;exact .inr (.inl ⟨rfl,rfl⟩)
  ·exact .inr (.inr rfl)
 ·exact .inr (.inr rfl)
theorem Rep.tI {K:Fg} {F:Hp} {v:V} {ds:List D} (h:Rep K F v (.tup ds)):∃ a xs,v=.ref a/\F a=some (.tup xs)/\Reps K F xs ds:=by cases h with | tup a b=>exact ⟨_,_,rfl,a,b⟩
theorem Rep.lI {K:Fg} {F:Hp} {v:V} {ds:List D} (h:Rep K F v (.lst ds)):∃ a xs,v=.ref a/\F a=some (.lst xs)/\Reps K F xs ds:=by cases h with | lst a b=>exact ⟨_,_,rfl,a,b⟩
theorem Reps.co {K:Fg} {F:Hp} {xs:List V} {d:D} {ds:List D} (h:Reps K F xs (d::ds)):∃ x ys,xs=x::ys/\Rep K F x d/\Reps K F ys ds:=by cases h with | cons r rs=>exact ⟨_,_,rfl,r,rs⟩
theorem Reps.ni {K:Fg} {F:Hp} {xs:List V} (h:Reps K F xs []):xs=[]:=by cases h;rfl
def wo (G:Hp) (n:Addr):Hp:=fun a=>if a=n then none else G a
theorem Sr (G:Hp) (n:Addr):Sm (wo G n) G:=fun a o h=>by
 unfold wo at h
 split at h
 ·simp at h
 ·exact h
theorem G5 (G:Hp) (n:Addr):wo G n n=none:=if_pos rfl
theorem G4 {G:Hp} {n a:Addr} (h:a≠n):wo G n a=G a:=if_neg h
section
variable {K:Fg} {F G H:Hp} {v:V} {d:D}
theorem Cs (r:Rep K G v d) (s:Sm G H) (sF:Sm F H) (dis:∀ a o,G a=some o->F a=none):∃ F' fq,Sm F F'/\Sm F' H/\ImH K F' H v (Vf d) fq/\(∀ a o,F' a=some o->F a=some o\/G a≠none)/\(∀ a∈fq,G a≠none)/\fq.Nodup:=by
 rcases Qb6 d with ⟨x,rfl,e⟩ | e<;>rw [e]
 ·obtain ⟨t,_,rfl,ht,r1⟩:=r.tI
  obtain ⟨_,_,rfl,q1,r2⟩:=r1.co
  obtain ⟨_,_,rfl,q2,r3⟩:=r2.co
  obtain ⟨_,_,rfl,q3,r4⟩:=r3.co
  obtain rfl:=r4.ni
  obtain rfl:=q1.sI
  obtain rfl:=q2.sI
  obtain ⟨n,_,rfl,hn,r5⟩:=q3.lI
  obtain rfl:=r5.ni
  have tn:t≠n:=fun z=>by rw [z,hn] at ht;simp at ht
  have sw:Sm (wo G n) H:=(Sr G n).trans s
  refine ⟨un F (wo G n),[n],Vh _ _,Wa sF sw,.wd (WZ sF sw _ _ (by rw [G4 tn];exact ht)) (s _ _ hn) ?_,fun a o h=>?_,fun a ha=>?_,by simp⟩
  ·unfold un
   rw [dis n _ hn];exact G5 G n
  ·rcases Uh h with z | z
   ·exact .inl z
   ·exact .inr (by rw [Sr G n a o z];simp)
  ·rw [List.mem_singleton.mp ha,hn];simp
 ·refine ⟨un F G,[],Vh _ _,Wa sF s,.pl (r.mono (WZ sF s)),fun a o h=>?_,fun a ha=>(nomatch ha),by simp⟩
  rcases Uh h with z | z
  ·exact .inl z
  ·exact .inr (by rw [z];simp)
theorem Cr (r:Rep K G v d) (s:Sm G H) (sF:Sm F H) (dis:∀ a o,G a=some o->F a=none):∃ F' fq,Sm F F'/\Sm F' H/\BkH K F' H v (WY d) fq/\(∀ a o,F' a=some o->F a=some o\/G a≠none)/\(∀ a∈fq,G a≠none)/\fq.Nodup:=by
 have one:∀ {n:Addr} {xs:List V},G n=some (.lst xs)->Sm F (un F (wo G n))/\Sm (un F (wo G n)) H/\(∀ a o,a≠n->G a=some o->un F (wo G n) a=some o)/\un F (wo G n) n=none/\(∀ a o,un F (wo G n) a=some o->F a=some o\/G a≠none):=fun {n xs} hn=>by
  have sw:Sm (wo G n) H:=(Sr G n).trans s
  refine ⟨Vh _ _,Wa sF sw,fun a o ha h=>WZ sF sw _ _ (by rw [G4 ha];exact h),?_,fun a o h=>?_⟩
  ·unfold un
   rw [dis n _ hn];exact G5 G n
  ·rcases Uh h with z | z
   ·exact .inl z
   ·exact .inr (by rw [Sr G n a o z];simp)
 rcases Qb5 d with ⟨lab,rfl,e⟩ | ⟨rfl,e⟩ | e<;>rw [e]
 ·obtain ⟨t,_,rfl,ht,r1⟩:=r.tI
  obtain ⟨_,_,rfl,q1,r2⟩:=r1.co
  obtain ⟨_,_,rfl,q2,r3⟩:=r2.co
  obtain ⟨w,_,rfl,q3,r4⟩:=r3.co
  obtain rfl:=r4.ni
  obtain rfl:=q1.sI
  obtain ⟨n,_,rfl,hn,r5⟩:=q2.lI
  obtain rfl:=r5.ni
  have tn:t≠n:=fun z=>by rw [z,hn] at ht;simp at ht
  obtain ⟨o1,o2,o3,o4,o5⟩:=one hn
  exact ⟨_,[n],o1,o2,.tb (o3 _ _ tn ht) (q3.pl rfl) (s _ _ hn) o4,o5,fun a ha=>by rw [List.mem_singleton.mp ha,hn];simp,by simp⟩
 ·obtain ⟨t,_,rfl,ht,r1⟩:=r.tI
  obtain ⟨_,_,rfl,q1,r2⟩:=r1.co
  obtain ⟨_,_,rfl,q2,r3⟩:=r2.co
  obtain rfl:=r3.ni
  obtain rfl:=q1.sI
  obtain ⟨n,_,rfl,hn,r5⟩:=q2.lI
  obtain rfl:=r5.ni
  have tn:t≠n:=fun z=>by rw [z,hn] at ht;simp at ht
  obtain ⟨o1,o2,o3,o4,o5⟩:=one hn
  exact ⟨_,[n],o1,o2,.pa (o3 _ _ tn ht) (s _ _ hn) o4 .nil,o5,fun a ha=>by rw [List.mem_singleton.mp ha,hn];simp,by simp⟩
 ·refine ⟨un F G,[],Vh _ _,Wa sF s,.pl (r.mono (WZ sF s)),fun a o h=>?_,fun a ha=>(nomatch ha),by simp⟩
  rcases Uh h with z | z
  ·exact .inl z
  ·exact .inr (by rw [z];simp)
end
end Wd
namespace Wd
open PySem PySem.Spec PyProof.Rows L2
section
variable {P:Program} {w:World} {K:Fg} {mg:Str->Option Value} {base:Heap} {x y z:Str} {st:Stmt} {k:Nat}
theorem BC (h:Df K mg x st [y,z]) (S:FnScope [y,z] [y,z] (Q7 st))
  (hb:∀ (f:Addr) (cdv:Value) (A:Around) (outer:List Env) (s:Shared) (H:Hp) (E:XK),Room k (A.deeper (envOfC x (Q7 st) s.heap.objs.size f cdv))->PSs (Qn Qk P w K mg base [y,z] x (Q7 st) f cdv A outer s H E).nox (J9 st)
   (ZY (VA (tB (Oy (Qj 0))) (ZD (tC (.bl false))) Vc) (ZY (YL (YK K "list" YH (Qj 0) (Qy (tD (Qn Qk P w K mg base [y,z] x (Q7 st) f cdv A outer s H E).nox [] (P0 1)) J7))) (ZD (tC (.bl true)))))) :
  QM P w K mg base (k+1) x [y,z] spT:=by
 obtain ⟨f,fd,F,hbd,hm⟩:=h
 refine ⟨f,fd,F.ok S (fun vs H Q E q=>by obtain ⟨_,_,hv,_⟩:=q;rw [hv];rfl) (fun cdv A outer s H vs Q E hr q=>?_),hbd,F.kp,hm⟩
 obtain ⟨xx,u,hv,hx,h3⟩:=q
 refine ⟨_,hb f cdv A outer s H E hr,?_⟩
 have hst:start [y,z] vs=[some u,some (.str xx)]:=by rw [hv];rfl
 rw [hst]
 have hz:=sizeLine_eq
 rcases h3 with ⟨rfl,q⟩ | ⟨l,zs,rfl,hl,hn,q⟩
 ·exact ⟨.non,rfl,true,rfl,Jv (q H (.refl H))⟩
 ·refine ⟨.ref l,rfl,false,rfl,Jh ⟨.ref l,rfl,.inl ⟨rfl,_,SqL.of hl⟩,⟨fun _=>none,H,np⟩,fun _=>none,[none,some (.str xx)],_,XG (fun _ _ h=>by simp at h) (fun i d h=>?_) rfl,D6 rfl hx,fun v F' H' g r=>?_⟩⟩
  ·match i,h with
   | 0,h=>simp at h
   | 1,h=>cases h;exact ⟨_,rfl,.str _⟩
   | i+2,h=>simp at h
  ·obtain rfl:=r.sI
   refine ⟨l,zs,_,rfl,rfl,g.hh _ _ hl,by omega,q _ ((g.hh.kept [l]).upd _ (by simp)) QQ⟩
theorem B8 (h:Df K mg x st [y,z]) (S:FnScope [y,z] [y,z] (Q7 st))
  (hb:∀ (f:Addr) (cdv:Value) (A:Around) (outer:List Env) (s:Shared) (H:Hp) (E:XK),Room k (A.deeper (envOfC x (Q7 st) s.heap.objs.size f cdv))->PSs (Qn Qk P w K mg base [y,z] x (Q7 st) f cdv A outer s H E).nox (J9 st)
   (ZY (VA (tDT (Qn Qk P w K mg base [y,z] x (Q7 st) f cdv A outer s H E).nox [] (Ri 0 (QA D.isN (eV 1)))) (ZD (tC (.bl false))) Vc) (ZY (YL (YK K "list" YH (Y3 K (ZX K (Qj 0)) 1) (Qy (Qj 1) J7))) (ZD (tC (.bl true)))))) :
  QM P w K mg base (k+1) x [y,z] (spIt K):=by
 obtain ⟨f,fd,F,hbd,hm⟩:=h
 refine ⟨f,fd,F.ok S (fun vs H Q E q=>by obtain ⟨_,_,_,_,_,_,_,_,_,hv,_⟩:=q;rw [hv];rfl) (fun cdv A outer s H vs Q E hr q=>?_),hbd,F.kp,hm⟩
 obtain ⟨Fz,G,m,p,fp,v,d,r,sm,hv,bh,sG,rv,dis,ha,k⟩:=q
 refine ⟨_,hb f cdv A outer s H E hr,?_⟩
 have hst:start [y,z] vs=[some (.ref p),some v]:=by rw [hv];rfl
 rw [hst]
 have hz:=sizeLine_eq
 obtain ⟨s1,s2,r1⟩:=bh.frz sm
 have rs:RS K H ⟨un (fz Fz H (p::fp)) G,H,np⟩ (un (fz Fz H (p::fp)) G) H [some (.ref p),some v] [some (JM m),some d] []:=XG (Wa s2 sG) (fun i d' h=>by
  match i,h with
  | 0,h=>cases h;exact ⟨_,rfl,r1.mono (Vh _ _)⟩
  | 1,h=>cases h;exact ⟨_,rfl,rv.mono (WZ s2 sG)⟩
  | i+2,h=>simp at h) rfl
 have same:∀ {b:Bool} {H':Hp},Sm H H'->r=(b,m)->Q (.bl b) H':=fun {b H'} s e=>by
  subst e
  refine k Fz H' fp (.refl Fz) (sm.trans s) (s.kept _) (fun a o h=>.inl h) (bh.gr (go sm s)) fun a ha=>.inl ha
 unfold RP at ha
 split at ha
 ·obtain rfl:=Option.some.inj ha
  exact ⟨_,_,_,true,rs,rfl,fun F' H' g=>Jv (same g.hh rfl)⟩
 ·split at ha
  ·rename_i ds hsh
   obtain ⟨b,hb',rfl⟩:=JQ ha
   refine ⟨_,_,_,!b,rs,FR rfl rfl hb',fun F' H' g=>?_⟩
   cases b with
   | false=>exact Jv (same g.hh rfl)
   | true =>
    refine Jh ?_
    rcases YJ m with rfl | ⟨m0,bl,rfl⟩
    ·cases hb'
    ·rw [VN] at hb'
     cases bl with
     | tb rows lab=>cases hb'
     | pl d=>obtain ⟨h,_⟩:=YD hb';cases h
     | pa is =>
      have bh':=bh.gr (go sm g.hh)
      have smH:=sm.trans g.hh
      obtain ⟨F1,fq,n1,n2,n3,n4,n5,n6⟩:=Cs rv (sG.trans g.hh) smH fun a o h=>(dis a o h).1
      have g1:∀ a∈p::fp,F1 a=none:=fun a ha=>by
       cases e:F1 a with
       | none=>rfl
       | some o =>
        rcases n4 a o e with z | z
        ·rw [(bh.at a ha).2] at z;simp at z
        ·obtain ⟨o',e'⟩:=Option.ne_none_iff_exists'.mp z
         exact absurd ha (dis a o' e').2
      have bh1:BH K F1 H' (m0++[.pa is]) p fp:=by
       obtain ⟨us,hp,fn,b,nd⟩:=bh'
       exact ⟨us,hp,g1 p List.mem_cons_self,b.mono n1 (fun a _ o e=>e) fun a ha=>g1 a (List.mem_cons_of_mem _ ha),nd⟩
      obtain ⟨us,t,l,vs',lf,a1,a2,a3,a4,_,a5⟩:=bh1.item
      have lsh:is.length<100000:=by
       simp only [JX,List.all_append,Bool.and_eq_true,List.all_cons,Y1] at hsh
       exact of_decide_eq_true hsh.2.2.1.1
      refine WW (K:=K) (t:=ZX K (Qj 0)) (i:=1) (v:=.ref l) (n2 _ _ a2) rfl ⟨.inl ⟨rfl,_,SqL.of a3⟩,v,rfl,l,_,v,rfl,rfl,a3,by omega,?_⟩ fun Q q=>XH a1 q fun Q q=>⟨_,rfl,q⟩
      rw [Tp] at k
      have dq:∀ a∈fq,a∉p::fp:=fun a ha=>by
       obtain ⟨o,e⟩:=Option.ne_none_iff_exists'.mp (n5 a ha)
       exact (dis a o e).2
      have nd2:(p::(fp++fq)).Nodup:=by
       obtain ⟨_,_,_,_,nd⟩:=bh1
       have nn:=List.nodup_cons.mp nd
       refine List.nodup_cons.mpr ⟨fun z=>?_,List.nodup_append.mpr ⟨nn.2,n6,fun a ha b hb e=>dq b hb (List.mem_cons_of_mem _ (e▸ha))⟩⟩
       rcases List.mem_append.mp z with z | z
       ·exact nn.1 z
       ·exact dq p z List.mem_cons_self
      have fl:F1 l=none:=g1 l (List.mem_cons_of_mem _ lf)
      refine k F1 _ (fp++fq) n1 (n2.upd _ fl) ((g.hh.kept _).upd _ (List.mem_cons_of_mem _ lf)) (fun a o h=>?_) (a5 v _ fq n3 nd2) fun a ha=>?_
      ·rcases n4 a o h with z | z
       ·exact .inl z
       ·exact .inr (.inr (.inl z))
      ·rcases List.mem_append.mp ha with z | z
       ·exact .inl z
       ·exact .inr (.inl (n5 a z))
  ·simp at ha
 ·simp at ha
end
end Wd
namespace Wd
open PySem PySem.Spec PyProof.Rows L2
def BRes (K:Fg):Vk BM:=fun m F0 F H=>∃ p fp,F0.p=yp p/\BH K F H m p fp/\∀ a∈p::fp,F0.h a=none
theorem BRes.gr (K:Fg):Wc (BRes K):=fun m F0 F H F' H' ⟨p,fp,h1,h2,h3⟩ g=>⟨p,fp,h1,h2.gr g,h3⟩
inductive tRB (X:Cx) (b:Zn) (Dn:Ends) (σ:L2.St) (H:Hp):Prop
 | mk (F0:Fz) (F:Hp) (e:Q2) (m:BM) (r:Bool×BM) (h1:RS X.K X.H₀ F0 F H σ e [Qe 0]) (h2:BRes X.K m F0 F H) (h0:e.length<=1000) (h3:b e m=some r)
  (h4:∀ F' H',Sm F F'->Sm F' H'->Sm F0.h H'->(∀ a o,F' a=some o->F0.f a=some o\/F0.h a=none)->BRes X.K r.2 F0 F' H'->Dn.rt (.bl r.1) H'):tRB X b Dn σ H
theorem Aw:PinO [Qe 0]:=fun i hi=>by rw [List.mem_singleton.mp hi];exact Nat.le_refl _
theorem BH.to {K:Fg} {F H H':Hp} {m:BM} {p:Addr} {fp:List Addr} (h:BH K F H m p fp) (k:We (p::fp) H H'):BH K F H' m p fp:=by
 have ha:=h.at
 obtain ⟨vs,hp,fn,b,nd⟩:=h
 exact ⟨vs,k p List.mem_cons_self _ hp,fn,b.mono (.refl F) (fun a h=>k a (List.mem_cons_of_mem _ h)) fun a h=>(ha a (List.mem_cons_of_mem _ h)).2,nd⟩
section
variable {X:Cx} {pos:Pos} {ba bb:Zn}
theorem Qcn {i:Nat} {F0:Fz} {F H:Hp} {σ:L2.St} {e:Q2} {m:BM} {O:List Nat} (hO:PinO O) (hi:Qe i∈O) (rs:RS X.K X.H₀ F0 F H σ e O) (res:BRes X.K m F0 F H) (hl:e.length<=1000):∃ F1,Sm F F1/\RS X.K X.H₀ ⟨F1,H,np⟩ F1 H σ (e.set i (some (JM m))) []:=by
 obtain ⟨p,fp,hp,bh,hn⟩:=res
 obtain ⟨s1,s2,r1⟩:=bh.frz rs.fh
 obtain ⟨q,hq,hσ⟩:=rs.pin i hi
 rw [hp] at hq
 obtain rfl:=Option.some.inj hq
 exact ⟨_,s1,(rs.view hO hl s1 s2).see hσ r1⟩
theorem SE {c:Expr} {A rest:List Stmt} {cv:Q4} (hc:PT X c (tDT X [] cv)) (ha:PSs X A (tRB X ba)) (hb:PSs X rest (tRB X bb)):PSs X (.If c A [] pos::rest) (tRB X (YO cv ba bb)) :=
 PSs.imp (Jj (Ye hc ha Yg) hb) <| by
  rintro Dn σ H ⟨F0,F,en,m,r,rs,res,hl,z,k⟩
  obtain ⟨F1,s1,rs1⟩:=Qcn Aw (i:=0) (by simp) rs res hl
  unfold YO at z
  split at z
  ·rename_i e1
   exact ⟨_,F1,_,true,rs1,e1,fun F' H' g=>Jv ⟨_,F,en,m,r,rs.grow (go rs.fh g.hh),BRes.gr X.K _ _ _ _ _ _ res (go rs.fh g.hh),hl,z,k⟩⟩
  ·rename_i e1
   exact ⟨_,F1,_,false,rs1,e1,fun F' H' g=>Jh ⟨_,F,en,m,r,rs.grow (go rs.fh g.hh),BRes.gr X.K _ _ _ _ _ _ res (go rs.fh g.hh),hl,z,k⟩⟩
  ·simp at z
theorem HH {st:Stmt} (h:PS X st (ZD (tC (.bl false)))):PSs X [st] (tRB X RV) :=
 PSs.imp (Jw h) <| by
  rintro Dn σ H ⟨F0,F,en,m,r,rs,res,hl,z,k⟩
  obtain rfl:=Option.some.inj z
  exact k F H (.refl F) rs.fh rs.hh rs.fr res
def R6 (K:Fg) (q:Bk->Option Bool) (U:Str->Bk->Bk) (A:Hp->Hp->Addr->V->Prop):Prop:=∀ (F H:Hp) (m:BM) (p:Addr) (fp:List Addr) (u:V),BH K F H m p fp->Z9 q m=some true->A F H p u->JX m=true->∃ l zs,u=.ref l/\l∈fp/\H l=some (.lst zs)/\zs.length<100000/\∀ y,BH K F (upd H l (.lst (zs++[.str y]))) (ZL (U y) m) p fp
theorem HI {st:Stmt} {q:Bk->Option Bool} {U:Str->Bk->Bk} {A:Hp->Hp->Addr->V->Prop} (hA:R6 X.K q U A) (h:PS X st (ZD (Zl spT [] E0 (Qy (Zl (spAl X.K q A) [] E0 (Qy (Qj 0) J7)) (Qy (Qj 1) J7))))):PSs X [st] (tRB X (Ux q U)) :=
 PSs.imp (Jw h) <| by
  rintro Dn σ H ⟨F0,F,en,m,r,rs,res,hl,z,k⟩
  unfold Ux at z
  split at z
  ·rename_i x hx
   split at z
   ·rename_i hh
    obtain ⟨b,hb,rfl⟩:=JQ z
    obtain ⟨p,fp,hp,bh,hn⟩:=res
    obtain ⟨p',hp',hσ⟩:=rs.pin 0 (by simp)
    rw [hp] at hp'
    obtain rfl:=Option.some.inj hp'
    obtain ⟨v1,s1,r1⟩:=rs.slot 1 _ (Z2 hx) (by simp [Qe])
    obtain rfl:=r1.sI
    refine ⟨_,hσ,F,m,p,fp,b,rs.fh,rfl,bh,hb,fun u H' sH u0 u1=>⟨_,s1,x,u,rfl,hh.1,?_⟩⟩
    cases b with
    | false=>exact .inl ⟨u0 rfl,fun H2 s2=>k F H2 (.refl F) ((rs.fh.trans sH).trans s2) ((rs.hh.trans sH).trans s2) rs.fr ⟨p,fp,hp,bh.gr (go rs.fh (sH.trans s2)),hn⟩⟩
    | true =>
     obtain ⟨l,zs,rfl,lf,hl',hz,nx⟩:=hA F H m p fp u bh hb (u1 rfl) hh.2
     refine .inr ⟨l,zs,rfl,sH _ _ hl',hz,fun H2 kp hl2=>?_⟩
     have lm:l∈p::fp:=List.mem_cons_of_mem _ lf
     have fl:=(bh.at l lm).2
     refine k F H2 (.refl F) (fun a o h=>kp a o (fun z=>by rw [List.mem_singleton.mp z,fl] at h;simp at h) (sH _ _ (rs.fh a o h))) (fun a o h=>kp a o (fun z=>by rw [List.mem_singleton.mp z,hn l lm] at h;simp at h) (sH _ _ (rs.hh a o h))) rs.fr ⟨p,fp,hp,(nx (VV x)).to fun a ha o h=>?_,hn⟩
     by_cases e:a=l
     ·subst e
      rw [QQ] at h
      rw [hl2];exact h
     ·rw [QB e] at h
      exact kp a o (fun z=>e (List.mem_singleton.mp z)) (sH _ _ h)
   ·simp at z
  ·simp at z
end
theorem Se {α:Type} {xs ys:List α} {x y:α} (h:xs++[x]=ys++[y]):x=y:=by
 have:=List.append_inj' h rfl
 simpa using this.2
theorem DL (K:Fg):R6 K Vd O8 Ul:=fun F H m p fp u bh hq ⟨vs,t,l,w,h1,h2,h3⟩ hs=>by
 rcases YJ m with rfl | ⟨m0,bl,rfl⟩
 ·cases hq
 ·rw [VN] at hq
  cases bl with
  | pa is=>cases hq
  | pl d=>obtain ⟨h,_⟩:=YD hq;cases h
  | tb rows lab =>
   obtain ⟨vs',t',l',u',lf,a1,a2,a3,a4⟩:=bh.row
   rw [h1] at a1
   have e:=Se (HO.lst.inj (Option.some.inj a1))
   cases e
   rw [h2] at a2
   have e2:=HO.tup.inj (Option.some.inj a2)
   simp only [List.cons.injEq,V.ref.injEq,true_and] at e2
   obtain ⟨rfl,_⟩:=e2
   have lsh:rows.length<100000:=by
    simp only [JX,List.all_append,Bool.and_eq_true,List.all_cons,Y1] at hs
    exact of_decide_eq_true hs.2.2.1
   exact ⟨l,_,h3,lf,a3,by rw [List.length_map];exact lsh,fun y=>by rw [Tp];exact a4 y⟩
theorem DK (K:Fg):R6 K Zm XC Uk:=fun F H m p fp u bh hq ⟨vs,t,l,us,t2,n,x,h1,h2,h3,h4,h5⟩ hs=>by
 rcases YJ m with rfl | ⟨m0,bl,rfl⟩
 ·cases hq
 ·rw [VN] at hq
  cases bl with
  | tb rows lab=>cases hq
  | pl d=>obtain ⟨h,_⟩:=YD hq;cases h
  | pa is =>
   rcases YJ is with rfl | ⟨is0,i,rfl⟩
   ·cases hq
   ·have h':Uj i=some true:=by unfold Zm at hq;simpa using hq
    cases i with
    | pl d=>obtain ⟨h,_⟩:=YD h';cases h
    | wd xx ns =>
     obtain ⟨vs',t',l',us',t2',n',⟨nf,lf⟩,a1,a2,a3,a4,a5,_,a6⟩:=bh.note
     rw [h1] at a1
     cases Se (HO.lst.inj (Option.some.inj a1))
     rw [h2] at a2
     have e2:=HO.tup.inj (Option.some.inj a2)
     simp only [List.cons.injEq,V.ref.injEq,true_and,and_true] at e2
     subst e2
     rw [h3] at a3
     cases Se (HO.lst.inj (Option.some.inj a3))
     rw [h4] at a4
     have e3:=HO.tup.inj (Option.some.inj a4)
     simp only [List.cons.injEq,V.ref.injEq,true_and,and_true] at e3
     obtain ⟨_,rfl⟩:=e3
     have lsh:ns.length<100000:=by
      simp only [JX,List.all_append,Bool.and_eq_true,List.all_cons,Y1,WT] at hs
      exact of_decide_eq_true hs.2.2.1.2.2.1
     exact ⟨n,_,h5,nf,a5,by rw [List.length_map];exact lsh,fun y=>by
      rw [Tp]
      have:=a6 y
      unfold XC
      simpa [Pm] using this⟩
end Wd
namespace Wd
open PySem PySem.Spec PyProof.Rows L2
theorem BH.wid {K:Fg} {F F1 H:Hp} {m:BM} {p:Addr} {fp:List Addr} (h:BH K F H m p fp) (s:Sm F F1) (n:∀ a∈p::fp,F1 a=none):BH K F1 H m p fp:=by
 obtain ⟨us,hp,fn,b,nd⟩:=h
 exact ⟨us,hp,n p List.mem_cons_self,b.mono s (fun a _ o e=>e) fun a ha=>n a (List.mem_cons_of_mem _ ha),nd⟩
theorem BH.nod {K:Fg} {F H:Hp} {m:BM} {p:Addr} {fp fq:List Addr} (h:BH K F H m p fp) (n:fq.Nodup) (dq:∀ a∈fq,a∉p::fp):(p::(fp++fq)).Nodup:=by
 obtain ⟨_,_,_,_,nd⟩:=h
 have nn:=List.nodup_cons.mp nd
 refine List.nodup_cons.mpr ⟨fun z=>?_,List.nodup_append.mpr ⟨nn.2,n,fun a ha b hb e=>dq b hb (List.mem_cons_of_mem _ (e▸ha))⟩⟩
 rcases List.mem_append.mp z with z | z
 ·exact nn.1 z
 ·exact dq p z List.mem_cons_self
theorem Xp {H F' H':Hp} (g:Gr (fun _=>none) H F' H') {a:Addr} {o:HO} (h:F' a=some o):H a=none:=by
 rcases g.fr a o h with z | z
 ·simp at z
 ·exact z
section
variable {X:Cx} {pos:Pos}
theorem Qau {sts:List Stmt} {fb fi:List D->Option D}
  (h:PSs X sts (ZY (WV (Zl (spD X.K fb) [] E0 (Qy (Qj 1) J7)) (Yw 2)) (ZY (VA (tB (Oy (Qj 2))) (ZD (Zl (spIt X.K) [] E0 (Qy (Qj 0) (Qy (Zl (spD X.K fi) [] E0 (Qy (Qj 1) J7)) J7)))) Vc)
   (ZY (YL (YK X.K "list" YH (Qj 0) (Qy (Qj 2) J7))) (ZD (tC (.bl true))))))):PSs X sts (tRB X (Wj fb fi)) :=
 PSs.imp h <| by
  rintro Dn σ H ⟨F0,F,en,m,r,rs,res,hl,z,k⟩
  unfold Wj at z
  split at z
  ·rename_i x hx
   split at z
   ·rename_i hsh
    obtain ⟨d,hd,z⟩:=QR z
    obtain ⟨p,fp,hp,bh,hn⟩:=res
    obtain ⟨p',hp',hσ⟩:=rs.pin 0 (by simp)
    rw [hp] at hp'
    obtain rfl:=Option.some.inj hp'
    obtain ⟨v1,s1,r1⟩:=rs.slot 1 _ (Z2 hx) (by simp [Qe])
    obtain rfl:=r1.sI
    have hz:=sizeLine_eq
    have em:Sm (fun _=>none) H:=fun _ _ h=>by simp at h
    refine ⟨_,s1,fun _=>none,[.str x],d,em,.cons (.str x) .nil,hd,fun v G H1 g rv=>?_⟩
    have sl:∀ {i:Nat} {u:V},i≠2->σ[i]?=some (some u)->(σ.set 2 (some v))[i]?=some (some u):=fun hi e=>by rw [List.getElem?_set_ne (Ne.symm hi)];exact e
    have s2:(σ.set 2 (some v))[2]?=some (some v):=by rw [List.getElem?_set,if_pos rfl,if_pos (by rw [rs.len];exact hsh.2)]
    have F1:Sm F H1:=rs.fh.trans g.hh
    have h01:Sm F0.h H1:=rs.hh.trans g.hh
    have bh1:=bh.gr (go rs.fh g.hh)
    split at z
    ·-- an item
     obtain ⟨i,hi,hr⟩:=QR z
     cases rv
     refine ⟨.non,s2,true,rfl,Jv ⟨_,sl (by decide) hσ,_,sl (by decide) s1,fun _=>none,[.str x],i,fun _ _ h=>by simp at h,.cons (.str x) .nil,hi,fun v2 G2 H2 g2 rv2=>?_⟩⟩
     have new:∀ {a:Addr},G2 a≠none->H1 a=none:=fun h=>by
      obtain ⟨o,e⟩:=Option.ne_none_iff_exists'.mp h
      exact Xp g2 e
     refine ⟨F,G2,m,p,fp,v2,i,r,F1.trans g2.hh,rfl,bh1.gr (go F1 g2.hh),g2.fh,rv2,fun a o h=>?_,hr,fun F' H' fp' q1 q2 q3 q4 q5 q6=>?_⟩
     ·have ha:=Xp g2 h
      refine ⟨F1.none ha,fun z=>?_⟩
      obtain ⟨⟨us,e⟩,_⟩:=bh1.at a z
      rw [ha] at e;simp at e
     ·have nw:∀ {a:Addr},(G2 a≠none\/H2 a=none)->F0.h a=none:=fun {a} h=>by
       rcases h with h | h
       ·exact h01.none (new h)
       ·exact (h01.trans g2.hh).none h
      refine k F' H' q1 q2 (fun a o h=>q3 a o (fun z=>by rw [hn a z] at h;simp at h) (g2.hh _ _ (h01 a o h))) (fun a o h=>?_) ⟨p,fp',hp,q5,fun a ha=>?_⟩
      ·rcases q4 a o h with y | y | y
       ·exact rs.fr a o y
       ·exact .inr (hn a y)
       ·exact .inr (nw y)
      ·rcases List.mem_cons.mp ha with y | y
       ·rw [y];exact hn p List.mem_cons_self
       ·rcases q6 a y with y | y
        ·exact hn a (List.mem_cons_of_mem _ y)
        ·exact nw y
    ·-- a block
     rename_i ds
     obtain rfl:=Option.some.inj z
     obtain ⟨t,_,rfl,_,_⟩:=rv.tI
     have new:∀ {a:Addr},G a≠none->H a=none:=fun h=>by
      obtain ⟨o,e⟩:=Option.ne_none_iff_exists'.mp h
      exact Xp g e
     obtain ⟨F2,fq,n1,n2,n3,n4,n5,n6⟩:=Cr rv g.fh F1 fun a o h=>rs.fh.none (Xp g h)
     have old:∀ a∈p::fp,G a=none:=fun a ha=>by
      cases e:G a with
      | none=>rfl
      | some o =>
       obtain ⟨⟨us,e'⟩,_⟩:=bh.at a ha
       rw [Xp g e] at e';simp at e'
     have bh2:=bh1.wid n1 fun a ha=>by
      cases e:F2 a with
      | none=>rfl
      | some o =>
       rcases n4 a o e with y | y
       ·rw [(bh1.at a ha).2] at y;simp at y
       ·exact absurd (old a ha) y
     obtain ⟨us,hpl,fn,bb,nd⟩:=id bh2
     have lsh:m.length<100000:=by
      have:=hsh.1
      simp only [JX,Bool.and_eq_true] at this
      exact of_decide_eq_true this.1
     refine ⟨.ref t,s2,false,rfl,Jh ⟨_,sl (by decide) hσ,.inl ⟨rfl,_,SqL.of hpl⟩,_,s2,p,us,_,rfl,rfl,hpl,by rw [bb.len];omega,?_⟩⟩
     refine k F2 _ n1 (n2.upd _ fn) (h01.upd _ (hn p List.mem_cons_self)) (fun a o h=>?_) ⟨p,fp++fq,hp,bh2.app n3 (bh2.nod n6 fun a ha z=>n5 a ha (old a z)) hpl,fun a ha=>?_⟩
     ·rcases n4 a o h with y | y
      ·exact rs.fr a o y
      ·exact .inr (rs.hh.none (new y))
     ·rcases List.mem_cons.mp ha with y | y
      ·rw [y];exact hn p List.mem_cons_self
      ·rcases List.mem_append.mp y with y | y
       ·exact hn a (List.mem_cons_of_mem _ y)
       ·exact rs.hh.none (new (n5 a y))
    ·simp at z
   ·simp at z
  ·simp at z
end
inductive spB (K:Fg) (f:Str->BM->Option (Bool×BM)) (vs:List V) (H:Hp) (Q:VK) (ux0:XK):Prop
 | mk (F:Hp) (m:BM) (p:Addr) (fp:List Addr) (x:Str) (r:Bool×BM) (h1:Sm F H) (h2:vs=[.ref p,.str x]) (h3:BH K F H m p fp) (h4:f x m=some r) (h5:N4 K F H p fp (fun a=>H a=none) Q r):spB K f vs H Q ux0
section
variable {P:Program} {w:World} {K:Fg} {mg:Str->Option Value} {base:Heap} {x y z z':Str} {st:Stmt} {k:Nat} {b:Zn}
theorem Po (h:Df K mg x st [y,z]) (S:FnScope [y,z,z'] [y,z] (Q7 st))
  (hb:∀ (f:Addr) (cdv:Value) (A:Around) (outer:List Env) (s:Shared) (H:Hp) (E:XK),Room k (A.deeper (envOfC x (Q7 st) s.heap.objs.size f cdv))->PSs (Qn Qk P w K mg base [y,z,z'] x (Q7 st) f cdv A outer s H E).nox (J9 st) (tRB (Qn Qk P w K mg base [y,z,z'] x (Q7 st) f cdv A outer s H E).nox b)) :
  QM P w K mg base (k+1) x [y,z] (spB K (Lq b)):=by
 obtain ⟨f,fd,F,hbd,hm⟩:=h
 refine ⟨f,fd,F.ok S (fun vs H Q E q=>by obtain ⟨_,_,_,_,_,_,_,hv,_⟩:=q;rw [hv];rfl) (fun cdv A outer s H vs Q E hr q=>?_),hbd,F.kp,hm⟩
 obtain ⟨Fq,m,p,fp,xx,r,sm,hv,bh,e,k⟩:=q
 refine ⟨_,hb f cdv A outer s H E hr,?_⟩
 have hst:start [y,z,z'] vs=[some (V.ref p),some (.str xx),none]:=by rw [hv];rfl
 rw [hst]
 let F0:Fz:=⟨Fq,fun a=>if a∈p::fp then none else H a,yp p⟩
 have h0:∀ a o,F0.h a=some o->a∉p::fp/\H a=some o:=fun a o h=>by
  have h':(if a∈p::fp then none else H a)=some o:=h
  split at h'
  ·simp at h'
  ·rename_i z;exact ⟨z,h'⟩
 have out:∀ a,F0.h a=none->a∈p::fp\/H a=none:=fun a ha=>by
  have h':(if a∈p::fp then none else H a)=none:=ha
  split at h'
  ·rename_i z;exact .inl z
  ·exact .inr h'
 have rs:RS K H F0 Fq H [some (V.ref p),some (.str xx),none] [none,some (.str xx),none] [Qe 0]:=by
  refine ⟨sm,fun a o h=>(h0 a o h).2,.refl Fq,fun a o h=>.inl h,fun j d h hj=>?_,fun j d h hj=>?_,fun j _ _ _ _ hj _ h1=>?_,fun j hj=>?_,rfl⟩
  ·match j,h with
   | 0,h=>simp at h
   | 1,h=>cases h;exact ⟨_,rfl,.str _⟩
   | 2,h=>simp at h
   | j+3,h=>simp at h
  ·rw [List.mem_singleton.mp hj] at h;simp [Qe] at h
  ·rw [List.mem_singleton.mp hj] at h1;simp [Qe] at h1
  ·have:=List.mem_singleton.mp hj
   have:j=0:=by unfold Qe at this;omega
   subst this
   exact ⟨p,rfl,rfl⟩
 refine ⟨F0,Fq,_,m,r,rs,⟨p,fp,rfl,bh,fun a ha=>if_pos ha⟩,by simp,e,fun F' H' s1 s2 s3 fr res=>?_⟩
 obtain ⟨p',fp',hp',bh',hn'⟩:=res
 cases congrFun hp' 0
 refine k F' H' fp' s1 s2 (fun a o ha e=>s3 a o (show (if a∈p::fp then none else H a)=some o by rw [if_neg ha];exact e)) (fun a o h=>?_) bh' fun a ha=>?_
 ·rcases fr a o h with z | z
  ·exact .inl z
  ·exact .inr (out a z)
 ·rcases out a (hn' a (List.mem_cons_of_mem _ ha)) with y | y
  ·rcases List.mem_cons.mp y with w | w
   ·obtain ⟨_,_,_,_,nd⟩:=bh'
    exact absurd (w▸ha) (List.nodup_cons.mp nd).1
   ·exact .inl w
  ·exact .inr y
end
end Wd
namespace Wd
open PySem PySem.Spec PyProof.Rows L2
inductive spF (K:Fg) (f:List D->Option (List D)) (vs:List V) (H:Hp) (Q:VK) (ux0:XK):Prop
 | mk (F:Hp) (ds T:List D) (h1:Sm F H) (h2:Reps K F vs ds) (h3:f ds=some T) (h4:∀ p xs F' H' G,Gr F H F' H'->H p=none->F' p=none->H' p=some (.lst xs)->Sm G F'->Reps K G xs T->(∀ a zs,G a=some (.lst zs)->H a=none)->Q (.ref p) H'):spF K f vs H Q ux0
inductive tSF (X:Cx) (O:List Nat) (b:Q2->Option (List D)) (Dn:Ends) (σ:L2.St) (H:Hp):Prop
 | mk (F0:Fz) (F:Hp) (e:Q2) (T:List D) (h1:RS X.K X.H₀ F0 F H σ e O) (h2:b e=some T) (h3:∀ p xs F' H' G,Gr F0.f F0.h F' H'->F0.h p=none->F' p=none->H' p=some (.lst xs)->Sm G F'->Reps X.K G xs T->(∀ a zs,G a=some (.lst zs)->F0.h a=none)->Dn.rt (.ref p) H'):tSF X O b Dn σ H
section
variable {P:Program} {w:World} {K:Fg} {mg:Str->Option Value} {base:Heap} {x:Str} {st:Stmt} {N ps:List Str} {k:Nat} {b:Q2->Option (List D)}
theorem B6 (h:Df K mg x st ps) (S:FnScope N ps (Q7 st))
  (hb:∀ (f:Addr) (cdv:Value) (A:Around) (outer:List Env) (s:Shared) (H:Hp) (E:XK),Room k (A.deeper (envOfC x (Q7 st) s.heap.objs.size f cdv))->PSs (Qn Qk P w K mg base N x (Q7 st) f cdv A outer s H E).nox (J9 st) (tSF (Qn Qk P w K mg base N x (Q7 st) f cdv A outer s H E).nox [] b)) :
  QM P w K mg base (k+1) x ps (spF K (Xf N.length ps.length b)):=by
 obtain ⟨f,fd,F,hbd,hm⟩:=h
 have hd:∀ {ds T:List D},Xf N.length ps.length b ds=some T->ds.length=ps.length/\b (Ja N.length ds)=some T:=fun e=>by
  unfold Xf at e
  split at e
  ·rename_i z;exact ⟨z,e⟩
  ·simp at e
 refine ⟨f,fd,F.ok S (by rintro vs H Q E ⟨F,ds,d,s,r,e,_⟩;rw [r.length];exact (hd e).1) (fun cdv A outer s H vs Q E hr ⟨Fz,ds,T,sm,r,e,k⟩=>?_),hbd,F.kp,hm⟩
 refine ⟨_,hb f cdv A outer s H E hr,?_⟩
 have hst:start N vs=vs.map some++List.replicate (N.length-vs.length) none:=rfl
 rw [hst]
 exact ⟨⟨Fz,H,np⟩,Fz,Ja N.length ds,T,UW N.length sm r,(hd e).2,k⟩
end
def BRes2 (K:Fg):Vk BM:=fun m F0 F H=>∃ B p fp,F0.p=yp p/\BH K B H m p fp/\Sm B H/\(∀ a o,B a=some o->F0.h a=none)/\∀ a∈p::fp,F0.h a=none/\F a=none
theorem BRes2.gr (K:Fg):Wc (BRes2 K):=fun m F0 F H F' H' ⟨B,p,fp,h1,h2,h3,h4,h5⟩ g=>⟨B,p,fp,h1,h2.gr (go h3 g.hh),h3.trans g.hh,h4,fun a ha=>by
 obtain ⟨⟨us,e⟩,_⟩:=h2.at a ha
 exact ⟨(h5 a ha).1,g.keepN e (h5 a ha).2⟩⟩
theorem XE (i:Nat):PinO [Qe i]:=fun j hj=>by rw [List.mem_singleton.mp hj];unfold Qe;omega
section
variable {X:Cx} {i:Nat}
theorem BRes2.view {F0:Fz} {F H:Hp} {σ:L2.St} {e:Q2} {m:BM} (rs:RS X.K X.H₀ F0 F H σ e [Qe i]) (res:BRes2 X.K m F0 F H) (hl:e.length<=1000):∃ F1,Sm F F1/\RS X.K X.H₀ ⟨F1,H,np⟩ F1 H σ (e.set i (some (JM m))) []:=by
 obtain ⟨B,p,fp,hp,bh,sB,_,hn⟩:=res
 obtain ⟨s1,s2,r1⟩:=bh.frz sB
 obtain ⟨q,hq,hσ⟩:=rs.pin i (by simp)
 rw [hp] at hq
 obtain rfl:=Option.some.inj hq
 exact ⟨un F (fz B H (p::fp)),Vh _ _,(rs.view (XE i) hl (Vh _ _) (Wa rs.fh s2)).see hσ (r1.mono (WZ rs.fh s2))⟩
theorem RS.pinIn {K:Fg} {H₀:Hp} {F0:Fz} {F H:Hp} {σ:L2.St} {e:Q2} {p:Addr} (r:RS K H₀ F0 F H σ e []) (hl:e.length<=1000) (hi:i<e.length) (hp:H p=none) (o:HO):RS K H₀ ⟨F0.f,F0.h,yp p⟩ F (upd H p o) (σ.set i (some (.ref p))) (e.set i none) [Qe i]:=by
 have no:∀ {j:Nat} {d:D},(e.set i none)[j]?=some (some d)->j≠i/\e[j]?=some (some d):=fun {j d} h=>by
  rw [List.getElem?_set] at h
  split at h
  ·simp [hi] at h
  ·rename_i z;exact ⟨Ne.symm z,h⟩
 refine ⟨r.fh.upd _ (r.fh.none hp),r.hh.upd _ (r.hh.none hp),r.ff,r.fr,fun j d h hj=>?_,fun j d h hj=>?_,fun j _ _ _ _ hj _ h1=>?_,fun j hj=>?_,by rw [List.length_set,List.length_set];exact r.len⟩
 ·obtain ⟨ji,h'⟩:=no h
  obtain ⟨v,h1,h2⟩:=r.slot j d h' (by simp)
  exact ⟨v,by rw [List.getElem?_set_ne (Ne.symm ji)];exact h1,h2⟩
 ·exact ((XE i).no (by rw [List.length_set];exact hl) h hj).elim
 ·exact ((XE i).no (by rw [List.length_set];exact hl) h1 hj).elim
 ·have:=List.mem_singleton.mp hj
  have:j=i:=by unfold Qe at this;omega
  subst this
  exact ⟨p,rfl,by rw [List.getElem?_set,if_pos rfl,if_pos (by rw [r.len];exact hi)]⟩
theorem Ed {st:Stmt} {j:Nat} {f:Str->BM->Option (Bool×BM)} (hj:j∉[Qe i]) (h:PS X st (VA (Hu (tB (Zl (spB X.K f) [] E0 (Qy (Qj i) (Qy (Qj j) J7))))) Sh Vc)):PS X st (tSR X [Qe i] (BRes2 X.K) (Y7 j f)) :=
 PS.imp h <| by
  rintro Dn σ H ⟨F0,F,en,m,r,rs,res,z,k⟩
  unfold Y7 at z
  split at z
  ·rename_i x hx
   split at z
   ·rename_i hl
    obtain ⟨q,e1,e2⟩:=QR z
    split at e2
    ·rename_i hq
     obtain rfl:=Option.some.inj e2
     obtain ⟨B,p,fp,hp,bh,sB,hB,hn⟩:=res
     obtain ⟨p',hp',hσ⟩:=rs.pin i (by simp)
     rw [hp] at hp'
     obtain rfl:=Option.some.inj hp'
     obtain ⟨v1,s1,r1⟩:=rs.slot j _ (Z2 hx) hj
     obtain rfl:=r1.sI
     refine ⟨_,hσ,_,s1,B,m,p,fp,x,q,sB,rfl,bh,e1,fun F' H' fp' q1 q2 q3 q4 q5 q6=>⟨q.1,rfl,?_⟩⟩
     rw [hq]
     refine Jh ?_
     have keep:∀ a o,F a=some o->H' a=some o:=fun a o h=>q3 a o (fun z=>by rw [(hn a z).2] at h;simp at h) (rs.fh a o h)
     have keep0:∀ a o,F0.h a=some o->H' a=some o:=fun a o h=>q3 a o (fun z=>by rw [(hn a z).1] at h;simp at h) (rs.hh a o h)
     refine k σ F H' (.refl F) (rs.nest (XE i) hl (.refl F) keep keep0 fun a o h=>.inl h) ⟨F',p,fp',hp,q5,q2,fun a o h=>?_,fun a ha=>?_⟩
     ·rcases q4 a o h with y | y | y
      ·exact hB a o y
      ·exact (hn a y).1
      ·exact rs.hh.none y
     ·rcases List.mem_cons.mp ha with y | y
      ·rw [y];exact hn p List.mem_cons_self
      ·rcases q6 a y with y | y
       ·exact hn a (List.mem_cons_of_mem _ y)
       ·exact ⟨rs.hh.none y,rs.fh.none y⟩
    ·simp at e2
   ·simp at z
  ·simp at z
theorem KP {o:Option D} (h:X3 o=true):o=some (.bl false):=by
 unfold X3 at h
 split at h
 ·rfl
 ·cases h
theorem Er {s1 s2 s3 s4:Stmt} {b:J4 BM} {cl:Q4} (h1:PS X s1 (WV (XI J7) (Yw i))) (h2:PS X s2 (tSR X [Qe i] (BRes2 X.K) b)) (h3:PS X s3 (VA (tDT X [] cl) Sh Vc)) (h4:PS X s4 (ZD (Qj i))) :
  PSs X [s1,s2,s3,s4] (tSF X [] (SI i b cl)) :=
 PSs.imp (Jj h1 (Jj h2 (Jj h3 (Jw h4)))) <| by
  rintro Dn σ H ⟨F0,F,en,T,rs,z,k⟩
  unfold SI at z
  split at z
  ·rename_i hc
   obtain ⟨r,e1,e2⟩:=QR z
   split at e2
   ·rename_i hd
    obtain rfl:=Option.some.inj e2
    refine ⟨Nat.zero_le _,fun p hp=>?_⟩
    have res0:BRes2 X.K [] ⟨F0.f,F0.h,yp p⟩ F (upd H p (.lst [])):=⟨fun _=>none,p,[],rfl,⟨[],QQ,rfl,.nil,by simp⟩,fun _ _ h=>by simp at h,fun _ _ h=>by simp at h,fun a ha=>by rw [List.mem_singleton.mp ha];exact ⟨rs.hh.none hp,rs.fh.none hp⟩⟩
    refine ⟨⟨F0.f,F0.h,yp p⟩,F,_,[],r,rs.pinIn hc.2 hc.1 hp _,res0,e1,fun σ' F' H' s' rs' res'=>?_⟩
    obtain ⟨F1,sf,rv⟩:=BRes2.view rs' res' hd.1
    refine ⟨_,F1,_,false,rv,KP hd.2,fun F2 H2 g2=>Jh ?_⟩
    obtain ⟨B,p',fp,hp',bh,sB,hB,hn⟩:=BRes2.gr X.K _ _ _ _ _ _ res' (go rs'.fh g2.hh)
    have rs2:=rs'.grow (go rs'.fh g2.hh)
    obtain ⟨q,hq,hσ⟩:=rs2.pin i (by simp)
    rw [hp'] at hq
    obtain rfl:=Option.some.inj hq
    refine ⟨_,hσ,?_⟩
    obtain ⟨vs,hpl,fn,b,nd⟩:=bh
    have n0:∀ a∈fp,B a=none:=fun a ha=>(b.at a ha).2
    have sG:Sm (fz B H2 fp) H2:=KG sB
    refine k p' vs (un F' (fz B H2 fp)) H2 (fz B H2 fp) ⟨rs2.ff.trans (Vh _ _),rs2.hh,Wa rs2.fh sG,fun a o h=>?_⟩ (hn p' List.mem_cons_self).1 ?_ hpl (WZ rs2.fh sG) (b.rep (Tb n0) fun a ha=>X2 ha) fun a zs h=>?_
    ·rcases Uh h with y | y
     ·exact rs2.fr a o y
     ·rcases Tc y with ⟨y,_⟩ | y
      ·exact .inr (hn a (List.mem_cons_of_mem _ y)).1
      ·exact .inr (hB a o y)
    ·unfold un
     rw [(hn p' List.mem_cons_self).2]
     show fz B H2 fp p'=none
     unfold fz
     rw [if_neg (List.nodup_cons.mp nd).1];exact fn
    ·rcases Tc h with ⟨y,_⟩ | y
     ·exact (hn a (List.mem_cons_of_mem _ y)).1
     ·exact hB a _ y
   ·simp at e2
  ·simp at z
end
end Wd
namespace Wd
open PySem PySem.Spec PyProof.Rows L2
inductive LRes (K:Fg) (i j:Nat) (m:BL) (F0:Fz) (F H:Hp):Prop
 | mk (p q:Addr) (fp:List Addr) (h1:F0.p i=some p) (h2:F0.p j=some q) (h3:BH K F H m.1 p fp) (h4:H q=some (.lst (m.2.map V.str))) (h5:F q=none) (h6:q∉p::fp) (h7:∀ a∈p::fp,F0.h a=none) (h8:F0.h q=none):LRes K i j m F0 F H
theorem LRes.gr (K:Fg) (i j:Nat):Wc (LRes K i j):=fun m F0 F H F' H' ⟨p,q,fp,h1,h2,h3,h4,h5,h6,h7,h8⟩ g=>⟨p,q,fp,h1,h2,h3.gr g,g.hh _ _ h4,g.keepN h4 h5,h6,h7,h8⟩
def Ji (i j:Nat):List Nat:=[Qe i,Qe j]
theorem YG (i j:Nat):PinO (Ji i j):=fun k hk=>by
 unfold Ji at hk
 rcases List.mem_cons.mp hk with z | z
 ·rw [z];unfold Qe;omega
 ·rw [List.mem_singleton.mp z];unfold Qe;omega
section
variable {K:Fg} {F0:Fz} {F H:Hp} {i j:Nat} {m:BL}
theorem LRes.frz (r:LRes K i j m F0 F H) (s:Sm F H):∃ p q F',F0.p i=some p/\F0.p j=some q/\Sm F F'/\Sm F' H/\Rep K F' (.ref p) (JM m.1)/\Rep K F' (.ref q) (.lst (m.2.map .str))/\∀ a o,F' a=some o->F a=some o\/F0.h a=none:=by
 obtain ⟨p,q,fp,h1,h2,h3,h4,h5,h6,h7,h8⟩:=r
 obtain ⟨s1,s2,r1⟩:=h3.frz s
 have n:fz F H (p::fp) q=none:=by unfold fz;rw [if_neg h6];exact h5
 have s3:Sm (fz F H (p::fp)) (upd (fz F H (p::fp)) q (.lst (m.2.map V.str))):=(Sm.refl _).upd _ n
 refine ⟨p,q,_,h1,h2,s1.trans s3,fun a o h=>?_,r1.mono s3,.lst QQ (Reps.strs _),fun a o h=>?_⟩
 ·by_cases z:a=q
  ·rw [z,QQ] at h;rw [z,h4];exact h
  ·rw [QB z] at h;exact s2 a o h
 ·by_cases z:a=q
  ·rw [z];exact .inr h8
  ·rw [QB z] at h
   rcases Tc h with ⟨y,_⟩ | y
   ·exact .inr (h7 a y)
   ·exact .inl y
end
section
variable {X:Cx} {i j:Nat}
theorem Ui:Vw X (Ji i j) (LRes X.K i j) (Jb i j):=fun F0 F H σ e m rs res hl=>by
 obtain ⟨p,q,F',h1,h2,s1,s2,r1,r2,_⟩:=res.frz rs.fh
 obtain ⟨p',hp,hσ⟩:=rs.pin i (by simp [Ji])
 obtain ⟨q',hq,hσ'⟩:=rs.pin j (by simp [Ji])
 rw [h1] at hp
 rw [h2] at hq
 obtain rfl:=Option.some.inj hp
 obtain rfl:=Option.some.inj hq
 exact ⟨F',s1,((rs.view (YG i j) hl s1 s2).see hσ r1).see hσ' r2⟩
theorem Eg {st:Stmt} {ev:Q4} (h:PS X st (YL (YK X.K "list" YH (Qj j) (Qy (tD X (Ji i j) ev) J7)))):PS X st (tSR X (Ji i j) (LRes X.K i j) (XU ev)) :=
 PS.imp h <| by
  rintro Dn σ H ⟨F0,F,en,m,r,rs,res,z,k⟩
  unfold XU at z
  split at z
  ·rename_i x hx
   split at z
   ·rename_i hc
    obtain rfl:=Option.some.inj z
    obtain ⟨q',hq',hσ⟩:=rs.pin j (by simp [Ji])
    have q0:=res
    obtain ⟨_,q,_,_,h2,_,h4,_⟩:=q0
    rw [h2] at hq'
    obtain rfl:=Option.some.inj hq'
    have hz:=sizeLine_eq
    refine ⟨_,hσ,.inl ⟨rfl,_,SqL.of h4⟩,F0,F,en,_,rs,hx,fun v F1 H1 g1 r1=>?_⟩
    obtain rfl:=r1.sI
    obtain ⟨p,q1,fp,b1,b2,b3,b4,b5,b6,b7,b8⟩:=LRes.gr X.K i j _ _ _ _ _ _ res g1
    rw [h2] at b2
    obtain rfl:=Option.some.inj b2
    refine ⟨q,_,_,rfl,rfl,b4,by rw [List.length_map];omega,?_⟩
    refine k σ F1 _ g1.ff ((rs.grow g1).wr (YG i j) hc.1 b5 b8 _) ⟨p,q,fp,b1,h2,b3.to (W5 b6),by rw [QQ,List.map_append];rfl,b5,b6,b7,b8⟩
   ·simp at z
  ·simp at z
theorem Ee {st:Stmt} {ev:Q4} (h:PS X st (YL (YK X.K "list" YH (Qj i) (Qy (tD X (Ji i j) ev) J7)))):PS X st (tSR X (Ji i j) (LRes X.K i j) (Uw ev)) :=
 PS.imp h <| by
  rintro Dn σ H ⟨F0,F,en,m,r,rs,res,z,k⟩
  obtain ⟨d,hd,z⟩:=QR z
  split at z
  ·rename_i hc
   obtain rfl:=Option.some.inj z
   obtain ⟨p',hp',hσ⟩:=rs.pin i (by simp [Ji])
   have q0:=res
   obtain ⟨p,_,fp,h1,_,h3,_⟩:=q0
   rw [h1] at hp'
   obtain rfl:=Option.some.inj hp'
   obtain ⟨vs,hpl,_,_,_⟩:=h3
   have hz:=sizeLine_eq
   refine ⟨_,hσ,.inl ⟨rfl,_,SqL.of hpl⟩,F0,F,en,_,rs,hd,fun v F1 H1 g1 r1=>?_⟩
   obtain ⟨p1,q,fp,b1,b2,b3,b4,b5,b6,b7,b8⟩:=LRes.gr X.K i j _ _ _ _ _ _ res g1
   rw [h1] at b1
   obtain rfl:=Option.some.inj b1
   obtain ⟨us,c1,c2,c3,c4⟩:=id b3
   refine ⟨p,us,_,rfl,rfl,c1,by rw [c3.len];omega,?_⟩
   have pq:q≠p:=fun z=>b6 (by simp [z])
   have:=b3.app (.pl r1) (fq:=[]) (by simpa using c4) c1
   rw [List.append_nil] at this
   refine k σ F1 _ g1.ff ((rs.grow g1).wr (YG i j) hc.1 c2 (b7 p List.mem_cons_self) _) ⟨p,q,fp,h1,b2,this,by rw [QB pq];exact b4,b5,b6,b7,b8⟩
  ·simp at z
theorem Eh {st:Stmt} (h:PS X st (YL (YK X.K "list" YH (Qj i) (Qy (Si (Qy (tC (.str "para")) (Qy (XI J7) J7))) J7)))):PS X st (tSR X (Ji i j) (LRes X.K i j) Vl) :=
 PS.imp h <| by
  rintro Dn σ H ⟨F0,F,en,m,r,rs,res,z,k⟩
  unfold Vl at z
  split at z
  ·rename_i hc
   obtain rfl:=Option.some.inj z
   obtain ⟨p',hp',hσ⟩:=rs.pin i (by simp [Ji])
   obtain ⟨p,q,fp,h1,h2,h3,h4,h5,h6,h7,h8⟩:=res
   rw [h1] at hp'
   obtain rfl:=Option.some.inj hp'
   obtain ⟨vs,hpl,c2,c3,c4⟩:=id h3
   have hz:=sizeLine_eq
   refine ⟨_,hσ,.inl ⟨rfl,_,SqL.of hpl⟩,Nat.zero_le _,fun l hl=>⟨by simp;omega,fun t ht=>?_⟩⟩
   have tl:t≠l:=fun z=>by rw [z,QQ] at ht;simp at ht
   have ht':H t=none:=by rw [QB tl] at ht;exact ht
   have hlp:∀ {a:Addr} {o:HO},H a=some o->a≠l/\a≠t:=fun {a o} e=>⟨fun z=>by rw [z,hl] at e;simp at e,fun z=>by rw [z,ht'] at e;simp at e⟩
   have pl:=hlp hpl
   have ql:=hlp h4
   have keep:Sm H (upd (upd H l (.lst [])) t (.tup [.str "para",.ref l])):=fun a o e=>by
    obtain ⟨z1,z2⟩:=hlp e
    rw [QB z2,QB z1];exact e
   have g:Gr F H (upd F t (.tup [.str "para",.ref l])) (upd (upd H l (.lst [])) t (.tup [.str "para",.ref l])):=⟨(Sm.refl F).upd _ (rs.fh.none ht'),keep,fun a o h=>by
    by_cases z:a=t
    ·rw [z,QQ] at h ⊢;exact h
    ·rw [QB z] at h;exact keep a o (rs.fh a o h),fun a o h=>by
    by_cases z:a=t
    ·rw [z];exact .inr ht'
    ·rw [QB z] at h;exact .inl h⟩
   have bh:=h3.gr g
   have fl:upd F t (.tup [.str "para",.ref l]) l=none:=by rw [QB (Ne.symm tl)];exact rs.fh.none hl
   refine ⟨p,vs,_,rfl,rfl,keep _ _ hpl,by rw [c3.len];omega,?_⟩
   have pq:q≠p:=fun z=>h6 (by simp [z])
   have lf:l∉p::fp:=fun z=>by
    obtain ⟨⟨us,e⟩,_⟩:=h3.at l z
    rw [hl] at e;simp at e
   have:=bh.app (b:=.pa []) (fq:=[l]) (.pa (vs:=[]) QQ (by rw [QB (Ne.symm tl),QQ]) fl .nil) (bh.nod (by simp) fun a ha=>by rw [List.mem_singleton.mp ha];exact lf) (keep _ _ hpl)
   refine k σ _ _ g.ff ((rs.grow g).wr (YG i j) hc.1 (by obtain ⟨_,_,z,_⟩:=bh;exact z) (h7 p List.mem_cons_self) _) ⟨p,q,fp++[l],h1,h2,this,by rw [QB pq];exact keep _ _ h4,?_,fun z=>?_,fun a ha=>?_,h8⟩
   ·rw [QB ql.2];exact h5
   ·rcases List.mem_cons.mp z with y | y
    ·exact pq y
    ·rcases List.mem_append.mp y with y | y
     ·exact h6 (List.mem_cons_of_mem _ y)
     ·exact ql.1 (List.mem_singleton.mp y)
   ·rcases List.mem_cons.mp ha with y | y
    ·rw [y];exact h7 p List.mem_cons_self
    ·rcases List.mem_append.mp y with y | y
     ·exact h7 a (List.mem_cons_of_mem _ y)
     ·rw [List.mem_singleton.mp y];exact rs.hh.none hl
  ·simp at z
theorem Ef {st:Stmt} {ev:Q4} (h:PS X st (YL (YK X.K "list" YH (Y3 X.K (ZX X.K (Qj i)) 1) (Qy (tD X (Ji i j) ev) J7)))):PS X st (tSR X (Ji i j) (LRes X.K i j) (RU ev)) :=
 PS.imp h <| by
  rintro Dn σ H ⟨F0,F,en,m,r,rs,res,z,k⟩
  obtain ⟨d,hd,z⟩:=QR z
  split at z
  ·rename_i hc
   obtain rfl:=Option.some.inj z
   obtain ⟨p',hp',hσ⟩:=rs.pin i (by simp [Ji])
   obtain ⟨p,q,fp,h1,h2,h3,h4,h5,h6,h7,h8⟩:=res
   rw [h1] at hp'
   obtain rfl:=Option.some.inj hp'
   have hz:=sizeLine_eq
   obtain ⟨hc1,hsh,hq⟩:=hc
   obtain ⟨mb,ml⟩:=m
   rcases YJ mb with rfl | ⟨m0,bl,rfl⟩
   ·cases hq
   ·rw [VN] at hq
    cases bl with
    | tb rows lab=>cases hq
    | pl d=>obtain ⟨h,_⟩:=YD hq;cases h
    | pa is =>
     obtain ⟨vs,t,l,us,lf,a1,a2,a3,a4,_,a5⟩:=h3.item
     have lsh:is.length<100000:=by
      simp only [JX,List.all_append,Bool.and_eq_true,List.all_cons,Y1] at hsh
      exact of_decide_eq_true hsh.2.2.1.1
     refine WW (K:=X.K) (t:=ZX X.K (Qj i)) (i:=1) (v:=.ref l) (rs.fh _ _ a2) rfl ⟨.inl ⟨rfl,_,SqL.of a3⟩,F0,F,en,_,rs,hd,fun v F1 H1 g1 r1=>?_⟩ fun Q q=>XH a1 q fun Q q=>⟨_,hσ,q⟩
     have bh:=h3.gr g1
     obtain ⟨vs',t',l',us',lf',b1,b2,b3,b4,_,b5⟩:=bh.item
     rw [g1.hh _ _ a1] at b1
     cases Se (HO.lst.inj (Option.some.inj b1))
     rw [g1.ff _ _ a2] at b2
     have e2:=HO.tup.inj (Option.some.inj b2)
     simp only [List.cons.injEq,V.ref.injEq,true_and,and_true] at e2
     subst e2
     refine ⟨l,us',_,rfl,rfl,b3,by omega,?_⟩
     have lm:l∈p::fp:=List.mem_cons_of_mem _ lf'
     have:=b5 v (.pl d) [] (.pl r1) (by rw [List.append_nil];obtain ⟨_,_,_,_,nd⟩:=bh;exact nd)
     rw [List.append_nil] at this
     have lq:q≠l:=fun z=>h6 (z▸lm)
     refine k σ F1 _ g1.ff ((rs.grow g1).wr (YG i j) hc1 (bh.at l lm).2 (h7 l lm) _) ⟨p,q,fp,h1,h2,?_,by rw [QB lq];exact g1.hh _ _ h4,g1.keepN h4 h5,h6,h7,h8⟩
     show BH X.K F1 _ (ZL (X4 (.pl d)) (m0++[.pa is])) p fp
     rw [Tp]
     exact this
  ·simp at z
end
end Wd
namespace Wd
open PySem PySem.Spec PyProof.Rows L2
theorem Ew {a b:Option (Option D)} (h:Rt a b=true):a=some (some (.lst []))/\b=some (some (.lst [])):=by
 unfold Rt at h
 split at h
 ·exact ⟨rfl,rfl⟩
 ·cases h
section
variable {X:Cx} {O' OL:List Nat} {w:Bool} {i j:Nat} {st:Stmt} {rest:List Stmt} {b:J4 BL} {s:Q8}
theorem Ep (h1:PS X st (tSR X (Ji i j) (LRes X.K i j) b)) (h2:PSs X rest (tS X [] O' OL w s)):PSs X (st::rest) (tS X [i,j] O' OL w (sQ (WR i j b) s)) :=
 PSs.imp (Jj h1 h2) fun Dn σ H ⟨F0,F,en,fl,rs,z,k⟩=>by
 have z':Ol (WR i j b en) s=some fl:=z
 cases qq:WR i j b en with
 | none=>rw [qq] at z';cases z'
 | some f1 =>
  rw [qq] at z'
  unfold WR at qq
  split at qq
  ·rename_i hc
   obtain ⟨he,hl,hij⟩:=hc
   obtain ⟨hi,hj⟩:=Ew he
   obtain ⟨r,e1,e2⟩:=QR qq
   split at e2
   ·rename_i hr
    obtain rfl:=Option.some.inj e2
    have own:∀ {k:Nat},k∈[i,j]->en[k]?=some (some (.lst []))->∃ p,σ[k]?=some (some (.ref p))/\F0.h p=none/\F p=none/\H p=some (.lst []):=fun {k} hk e=>by
     obtain ⟨p,kk,xs,ds,a1,a2,a3,a4,a5,a6,a7⟩:=rs.own k _ e hk
     cases kk with
     | some ks=>cases a6
     | none =>
      cases a6
      cases a5
      exact ⟨p,a1,a2,a3,a4⟩
    obtain ⟨p,p1,p2,p3,p4⟩:=own (by simp) hi
    obtain ⟨q,q1,q2,q3,q4⟩:=own (by simp) hj
    have pq:q≠p:=fun z=>by
     subst z
     exact hij (rs.dis i j q _ _ (by simp) (by simp) hi hj p1 q1)
    let P₀:Nat->Option Addr:=fun k=>if k=i then some p else some q
    have no:∀ {k:Nat} {d:D},((en.set i none).set j none)[k]?=some (some d)->k≠i/\k≠j/\en[k]?=some (some d):=fun {k d} h=>by
     have jl:j<(en.set i none).length:=by rw [List.length_set];exact (List.getElem?_eq_some_iff.mp hj).1
     have il:i<en.length:=(List.getElem?_eq_some_iff.mp hi).1
     rw [List.getElem?_set] at h
     split at h
     ·simp at h
     ·rename_i z
      rw [List.getElem?_set] at h
      split at h
      ·simp [il] at h
      ·rename_i z';exact ⟨Ne.symm z',Ne.symm z,h⟩
    have ll:((en.set i none).set j none).length<=1000:=by rw [List.length_set,List.length_set];exact hl
    have rs1:RS X.K X.H₀ ⟨F0.f,F0.h,P₀⟩ F H σ ((en.set i none).set j none) (Ji i j):=by
     refine ⟨rs.fh,rs.hh,rs.ff,rs.fr,fun k d h hk=>?_,fun k d h hk=>((YG i j).no ll h hk).elim,fun k _ _ _ _ hk _ h1=>((YG i j).no ll h1 hk).elim,fun k hk=>?_,by rw [List.length_set,List.length_set];exact rs.len⟩
     ·obtain ⟨n1,n2,n3⟩:=no h
      exact rs.slot k d n3 (by simp [n1,n2])
     ·unfold Ji Qe at hk
      rcases List.mem_cons.mp hk with y | y
      ·have:k=i:=by omega
       subst this
       exact ⟨p,if_pos rfl,p1⟩
      ·have:k=j:=by have:=List.mem_singleton.mp y;omega
       subst this
       exact ⟨q,if_neg (Ne.symm hij),q1⟩
    refine ⟨⟨F0.f,F0.h,P₀⟩,F,_,([],[]),r,rs1,⟨p,q,[],if_pos rfl,if_neg (Ne.symm hij),⟨[],p4,p3,.nil,by simp⟩,q4,q3,by simp [pq],by simp [p2],q2⟩,e1,fun σ' F' H' s' rs' res'=>?_⟩
    obtain ⟨p',q',F1,h1,h2,s1,s2,r1,r2,fr⟩:=res'.frz rs'.fh
    obtain ⟨p'',hp,hσ⟩:=rs'.pin i (by simp [Ji])
    obtain ⟨q'',hq,hσ'⟩:=rs'.pin j (by simp [Ji])
    rw [h1] at hp
    rw [h2] at hq
    obtain rfl:=Option.some.inj hp
    obtain rfl:=Option.some.inj hq
    have v:=((rs'.view (YG i j) hr s1 s2).see hσ r1).see hσ' r2
    refine ⟨F0,F1,Jb i j r.1 r.2,fl,⟨s2,rs'.hh,rs'.ff.trans s1,fun a o h=>?_,v.slot,fun _ _ _ hk=>(nomatch hk),v.dis,fun k hk=>(nomatch hk),v.len⟩,z',k.mono (s'.trans s1)⟩
    rcases fr a o h with y | y
    ·exact rs'.fr a o y
    ·exact .inr y
   ·simp at e2
  ·simp at qq
end
end Wd
namespace Wd
open PySem PySem.Spec PyProof.Rows L2
theorem RS.forget {K:Fg} {H₀:Hp} {F0:Fz} {F H:Hp} {σ:L2.St} {e:Q2} {O:List Nat} (r:RS K H₀ F0 F H σ e O) (i:Nat):RS K H₀ F0 F H σ (e.set i none) O:=by
 have q:∀ k d,(e.set i none)[k]?=some (some d)->e[k]?=some (some d):=fun k d h=>by
  rw [List.getElem?_set] at h
  split at h
  ·split at h<;>simp at h
  ·exact h
 exact ⟨r.fh,r.hh,r.ff,r.fr,fun k d h=>r.slot k d (q k d h),fun k d h=>r.own k d (q k d h),fun k m p d d' hk hm h1 h2=>r.dis k m p d d' hk hm (q k d h1) (q m d' h2),r.pin,by rw [r.len,List.length_set]⟩
theorem RS.kill {K:Fg} {H₀:Hp} {F0:Fz} {F H:Hp} {σ:L2.St} {e:Q2} {O:List Nat} (r:RS K H₀ F0 F H σ e O) (i:Nat) (x:Option V) (hp:Qe i∉O):RS K H₀ F0 F H (σ.set i x) (e.set i none) O:=by
 have q:∀ k d,(e.set i none)[k]?=some (some d)->e[k]?=some (some d)/\(σ.set i x)[k]?=σ[k]?:=fun k d h=>by
  rw [List.getElem?_set] at h
  split at h
  ·split at h<;>simp at h
  ·rename_i z
   exact ⟨h,by rw [List.getElem?_set,if_neg z]⟩
 refine ⟨r.fh,r.hh,r.ff,r.fr,fun k d h=>?_,fun k d h=>?_,fun k m p d d' hk hm h1 h2 s1 s2=>?_,fun k hk=>?_,by rw [List.length_set,List.length_set,r.len]⟩
 ·rw [(q k d h).2];exact r.slot k d (q k d h).1
 ·rw [(q k d h).2];exact r.own k d (q k d h).1
 ·rw [(q k d h1).2] at s1
  rw [(q m d' h2).2] at s2
  exact r.dis k m p d d' hk hm (q k d h1).1 (q m d' h2).1 s1 s2
 ·obtain ⟨p,h1,h2⟩:=r.pin k hk
  refine ⟨p,h1,?_⟩
  rw [List.getElem?_set,if_neg (fun z:i=k=>hp (by rw [z];exact hk))]
  exact h2
def Xr (k:Str):Bool:=inV (.str k) [.str "para",.str "table"]
theorem CC (k:Str):Xr k=(decide (k="para")||decide (k="table")):=by
 unfold Xr inV
 simp only [List.any_cons,List.any_nil,Bool.or_false,YY]
 congr 1<;>exact decide_eq_decide.mpr ⟨Eq.symm,Eq.symm⟩
theorem GX {α:Type} (x:α) (r:List α):Jy (x::r) 0=some x:=by
 unfold Jy YC
 rw [if_pos (by omega),if_pos (by first | (simp;done) | (simp;omega))];rfl
theorem GY {α:Type} (x y:α) (r:List α):Jy (x::y::r) 1=some y:=by
 unfold Jy YC
 rw [if_pos (by omega),if_pos (by first | (simp;done) | (simp;omega))];rfl
structure Wo (H1:Hp) (p:Addr) (us:List V) (B:Nat) (H:Hp):Prop where
 old:Sm H1 H
 lst:H p=some (.lst us)
 inn:∀ (k:Nat) (v:V),us[k]?=some v->∃ (t:Addr) (kd:Str) (r:List V),v=V.ref t/\H t=some (.tup (.str kd::r))/\(Xr kd=true->∃ q r' zs,r=.ref q::r'/\H q=some (.lst zs)/\zs.length<=B/\H1 q=none/\q≠p)
theorem Wo.mono {H1:Hp} {p:Addr} {us:List V} {B:Nat} {H H':Hp} (w:Wo H1 p us B H) (s:Sm H H'):Wo H1 p us B H' :=
 ⟨w.old.trans s,s _ _ w.lst,fun k v hk=>by
  obtain ⟨t,kd,r,e1,e2,e3⟩:=w.inn k v hk
  refine ⟨t,kd,r,e1,s _ _ e2,fun h=>?_⟩
  obtain ⟨q,r',zs,a1,a2,a3⟩:=e3 h
  exact ⟨q,r',zs,a1,s _ _ a2,a3⟩⟩
theorem Wo.bd {H1:Hp} {p:Addr} {us:List V} {B B':Nat} {H:Hp} (w:Wo H1 p us B H) (h:B<=B'):Wo H1 p us B' H :=
 ⟨w.old,w.lst,fun k v hk=>by
  obtain ⟨t,kd,r,e1,e2,e3⟩:=w.inn k v hk
  refine ⟨t,kd,r,e1,e2,fun h=>?_⟩
  obtain ⟨q,r',zs,a1,a2,a3,a4⟩:=e3 h
  exact ⟨q,r',zs,a1,a2,by omega,a4⟩⟩
theorem Wo.step {H1:Hp} {p:Addr} {us:List V} {B:Nat} {H:Hp} (w:Wo H1 p us B H) {q:Addr} {zs:List V} {v:V} (hq:q≠p) (hH:H q=some (.lst zs)) (hl:zs.length<=B) (h1:H1 q=none):Wo H1 p us (B+1) (upd H q (.lst (zs++[v]))):=by
 refine ⟨w.old.upd _ h1,by rw [QB (Ne.symm hq)];exact w.lst,fun k u hk=>?_⟩
 obtain ⟨t,kd,r,e1,e2,e3⟩:=w.inn k u hk
 have tq:t≠q:=fun z=>by rw [z,hH] at e2;simp at e2
 refine ⟨t,kd,r,e1,by rw [QB tq];exact e2,fun h=>?_⟩
 obtain ⟨q',r',zs',a1,a2,a3,a4,a5⟩:=e3 h
 by_cases z:q'=q
 ·subst z
  exact ⟨q',r',zs++[v],a1,QQ,by simp;omega,a4,a5⟩
 ·exact ⟨q',r',zs',a1,by rw [QB z];exact a2,by omega,a4,a5⟩
theorem Wo.start {K:Fg} {G H1 F' H':Hp} (c:∀ a zs,G a=some (.lst zs)->H1 a=none) (sG:Sm G F') (fh:Sm F' H') (hh:Sm H1 H') {p:Addr} {us:List V} {T:List D} (hp:F' p=none) (hH:H' p=some (.lst us)) (r:Reps K G us T) (hm:T.all Xq=true):Wo H1 p us 100000 H':=by
 refine ⟨hh,hH,fun k v hk=>?_⟩
 obtain ⟨d,h1,h2⟩:=r.getV hk
 have hb:Xq d=true:=List.all_eq_true.mp hm d (List.mem_of_getElem? h1)
 unfold Xq at hb
 split at hb
 ·rename_i kd es ds
  obtain ⟨t,_,rfl,a1,a2⟩:=h2.tI
  obtain ⟨_,_,rfl,b1,b2⟩:=a2.co
  obtain rfl:=b1.sI
  obtain ⟨_,r',rfl,c1,c2⟩:=b2.co
  obtain ⟨q,zs,rfl,d1,d2⟩:=c1.lI
  refine ⟨t,kd,_,rfl,fh _ _ (sG _ _ a1),fun _=>⟨q,r',zs,rfl,fh _ _ (sG _ _ d1),by rw [d2.length];exact of_decide_eq_true hb,c q _ d1,fun z=>?_⟩⟩
  rw [z] at d1;rw [sG _ _ d1] at hp;simp at hp
 ·rename_i kd ds _
  obtain ⟨t,_,rfl,a1,a2⟩:=h2.tI
  obtain ⟨_,r,rfl,b1,b2⟩:=a2.co
  obtain rfl:=b1.sI
  refine ⟨t,kd,r,rfl,fh _ _ (sG _ _ a1),fun h=>?_⟩
  rw [CC] at h
  rw [h] at hb;cases hb
 ·cases hb
theorem Di {d:D} (h:KQ d=true):∃ es,d=.lst es:=by
 cases d<;>first | exact ⟨_,rfl⟩ | cases h
section
variable {X:Cx} {OL:List Nat} {w:Bool}
theorem Eo {i j l:Nat} {sts:List Stmt} {fw:List D->Option D} {al ar:JT} {fr:List D->Option (List D)} {cv:Q4} (hij:i≠j) (hil:i≠l) (hjl:j≠l) (hi0:i<1000) (hj0:j<1000)
  (h:PSs X sts (ZY (WV (Zl (spO X.K fw) [] E0 (tL X [] al)) (Yw i)) (ZY (WV (Zl (spF X.K fr) [] E0 (tL X [] ar)) (Yw j)) (ZY (VA (tDT X [] cv) Sh Vc) (ZY (YL (YK X.K "list" YH (Qj i) (Qy (tC (.str "para")) J7)))
   (ZY (Hr (KI X.K (Qj j)) (Yw l) (VA (Hw (Yi (WN X.K false) (Y3 X.K (Qj l) 0) (Si (Qy (tC (.str "para")) (Qy (tC (.str "table")) J7))))) (YL (YK X.K "list" YH (Y3 X.K (Qj l) 1) (Qy (tC (.str "more")) J7))) Vc))
   (YL (YK X.K "list" YH (Qj j) (Qy (Si (Qy (tC (.str "para")) (Qy (XI J7) J7))) J7))))))))):PSs X sts (tS X [] [] OL w (WQ i j l fw al fr ar cv)):=by
 refine PSs.imp h ?_
 rintro Dn σ H ⟨F0,F,en,fl,rs,z,k⟩
 obtain ⟨ds,e1,z⟩:=QR z
 obtain ⟨dw,e2,z⟩:=QR z
 obtain ⟨dr,e3,z⟩:=QR z
 obtain ⟨T,e4,z⟩:=QR z
 split at z
 case isFalse=>simp at z
 rename_i cond
 obtain rfl:=Option.some.inj z
 obtain ⟨hdw,hwl,hTl,hTb,il,jl,ll,ec⟩:=cond
 obtain ⟨es,rfl⟩:=Di hdw
 have ec:=KP ec
 have hwl:es.length<=2000000:=hwl
 have hz:=sizeLine_eq
 refine ⟨F0,F,en,ds,rs,e1,fun vs Fa Ha ga ra=>?_⟩
 refine ⟨Fa,ds,_,ga.fh,by rw [List.append_nil];exact ra,e2,fun pr kk xs es' Fb Hb gb n1 n2 hpr rb hd hk=>?_⟩
 cases kk with
 | some ks=>cases hd
 | none =>
 cases hd
 have hpr:Hb pr=some (.lst xs):=hpr
 have rsA:=rs.grow ga
 have gb':Gr Fa Ha (upd Fb pr (.lst xs)) Hb:=⟨gb.ff.upd _ (ga.fh.none n1),gb.hh,fun a o h=>by
  by_cases z:a=pr
  ·rw [z,QQ] at h;rw [z,hpr];exact h
  ·rw [QB z] at h;exact gb.fh a o h,fun a o h=>by
  by_cases z:a=pr
  ·rw [z];exact .inr n1
  ·rw [QB z] at h;exact gb.fr a o h⟩
 have rsB:=(rsA.grow gb').put' i (v:=.ref pr) (d:=.lst es) (.lst QQ (rb.mono ((Sm.refl Fb).upd _ n2))) (by simp)
 refine ⟨F0,_,_,dr,rsB,e3,fun vs Fc Hc gc rc=>?_⟩
 refine ⟨Fc,dr,T,gc.fh,by rw [List.append_nil];exact rc,e4,fun p ys Fd Hd G gd m1 m2 hp sG rp cG=>?_⟩
 have rsC:=rsB.grow gc
 have gd':Gr Fc Hc (upd Fd p (.lst ys)) Hd:=⟨gd.ff.upd _ (gc.fh.none m1),gd.hh,fun a o h=>by
  by_cases z:a=p
  ·rw [z,QQ] at h;rw [z,hp];exact h
  ·rw [QB z] at h;exact gd.fh a o h,fun a o h=>by
  by_cases z:a=p
  ·rw [z];exact .inr m1
  ·rw [QB z] at h;exact gd.fr a o h⟩
 have rsD:=(rsC.grow gd').put' j (v:=.ref p) (d:=.lst T) (.lst QQ (rp.mono (sG.upd _ (sG.none m2)))) (by show Qe j∉[];simp)
 refine ⟨F0,_,_,false,rsD,ec,fun Fe He ge=>Jh ?_⟩
 have sl:i < σ.length:=by rw [rs.len];exact il
 have sj:j < σ.length:=by rw [rs.len];exact jl
 have sll:l < σ.length:=by rw [rs.len];exact ll
 have hys:ys.length=T.length:=rp.length
 have hxs:xs.length=es.length:=rb.length
 have hac:Sm Ha Hc:=gb.hh.trans gc.hh
 have hpre:He pr=some (.lst xs):=ge.hh _ _ (gd.hh _ _ (gc.hh _ _ hpr))
 have si:((σ.set i (some (.ref pr))).set j (some (.ref p)))[i]?=some (some (.ref pr)):=by rw [List.getElem?_set_ne (Ne.symm hij),List.getElem?_set,if_pos rfl,if_pos sl]
 refine ⟨.ref pr,si,.inl ⟨rfl,_,SqL.of hpre⟩,pr,xs,_,rfl,rfl,hpre,by omega,?_⟩
 have wo0:Wo Hc p ys 100000 He:=(Wo.start cG sG gd.fh gd.hh m2 hp rp hTb).mono ge.hh
 have prc:Hc pr=some (.lst xs):=gc.hh _ _ hpr
 have wo1:Wo Ha p ys 100000 (upd He pr (.lst (xs++[.str "para"]))):=by
  refine ⟨(hac.trans wo0.old).upd _ n1,?_,fun k v hk=>?_⟩
  ·rw [QB (fun z=>by rw [<- z,m1] at prc;simp at prc)];exact wo0.lst
  ·obtain ⟨t,kd,r,a1,a2,a3⟩:=wo0.inn k v hk
   refine ⟨t,kd,r,a1,by rw [QB (fun z=>by rw [z,hpre] at a2;simp at a2)];exact a2,fun h=>?_⟩
   obtain ⟨q,r',zs,b1,b2,b3,b4,b5⟩:=a3 h
   exact ⟨q,r',zs,b1,by rw [QB (fun z=>by rw [z,prc] at b4;simp at b4)];exact b2,b3,hac.none b4,b5⟩
 have hjj:((σ.set i (some (.ref pr))).set j (some (.ref p)))[j]?=some (some (.ref p)):=by rw [List.getElem?_set,if_pos rfl,if_pos (by rw [List.length_set];exact sj)]
 refine ⟨.ref p,hjj,p,rfl,⟨ys,SqL.of wo1.lst⟩,fun idx n σ' H'=>n=ys.length-idx/\idx<=ys.length/\Wo Ha p ys (100000+idx) H'/\(σ'=(σ.set i (some (.ref pr))).set j (some (.ref p))\/∃ u,σ'=((σ.set i (some (.ref pr))).set j (some (.ref p))).set l (some u)),⟨ys.length,by omega,by omega,wo1,.inl rfl⟩,?_⟩
 rintro idx n σ' H' ⟨rfl,hle,wm,hσ⟩
 have keepS:∀ u,σ'.set l (some u)=((σ.set i (some (.ref pr))).set j (some (.ref p))).set l (some u):=fun u=>by
  rcases hσ with h | ⟨u',h⟩
  ·rw [h]
  ·rw [h,List.set_set]
 rcases Nat.lt_or_ge idx ys.length with hlt | hge
 ·refine .inr ⟨⟨ys,ys[idx],SqL.of wm.lst,List.getElem?_eq_getElem hlt⟩,fun σ2 H2=>Wo Ha p ys (100000+(idx+1)) H2/\∃ u,σ2=((σ.set i (some (.ref pr))).set j (some (.ref p))).set l (some u),fun σ2 H2 ⟨a,b⟩=>⟨ys.length-(idx+1),by omega,rfl,by omega,a,.inr b⟩,fun v H2 hy=>?_⟩
  obtain ⟨rfl,hx2⟩:=hy
  have hxx:=hx2 ys (SqL.of wm.lst)
  obtain ⟨t,kd,r,rfl,b1,b2⟩:=wm.inn idx v hxx
  show (fun σ2 H2=>VA _ _ _ _ σ2 H2) (σ'.set l (some (.ref t))) _
  rw [keepS]
  have sv:(((σ.set i (some (.ref pr))).set j (some (.ref p))).set l (some (.ref t)))[l]?=some (some (.ref t)):=by rw [List.getElem?_set,if_pos rfl,if_pos (by rw [List.length_set,List.length_set];exact sll)]
  refine WW (K:=X.K) (t:=Qj l) (i:=0) (v:=.str kd) b1 (GX _ _) ⟨by show 2<=_;omega,fun c hc=>⟨c,_,rfl,.inr (SqT.of QQ),rfl,rfl,Xr kd,rfl,?_⟩⟩ fun Q q=>⟨_,sv,q⟩
  have wm2:=wm.mono ((Sm.refl _).upd (.tup [.str "para",.str "table"]) hc)
  obtain ⟨t',kd',r2,z1,c1,c2⟩:=wm2.inn idx _ hxx
  cases z1
  have:kd'=kd/\r2=r:=by
   have:=((Sm.refl _).upd (.tup [.str "para",.str "table"]) hc) _ _ b1
   rw [this] at c1
   have:=HO.tup.inj (Option.some.inj c1)
   simp only [List.cons.injEq,V.str.injEq] at this
   exact ⟨this.1.symm,this.2.symm⟩
  obtain ⟨rfl,rfl⟩:=this
  cases hk:Xr kd' with
  | false=>exact Jh ⟨wm2.bd (by omega),_,rfl⟩
  | true =>
   refine Jv ?_
   obtain ⟨q,r',zs,rfl,d2,d3,d4,d5⟩:=c2 hk
   exact WW (K:=X.K) (t:=Qj l) (i:=1) (v:=.ref q) c1 (GY _ _ _) ⟨.inl ⟨rfl,_,SqL.of d2⟩,q,zs,_,rfl,rfl,d2,by omega,wm2.step d5 d2 d3 d4,_,rfl⟩ fun Q q=>⟨_,sv,q⟩
 ·refine .inl ⟨⟨ys,SqL.of wm.lst,hge⟩,?_⟩
  have sj':σ'[j]?=some (some (.ref p)):=by
   rcases hσ with h | ⟨u,h⟩
   ·rw [h];exact hjj
   ·rw [h,List.getElem?_set_ne (Ne.symm hjl)];exact hjj
  refine ⟨.ref p,sj',.inl ⟨rfl,_,SqL.of wm.lst⟩,(by first | (simp;done) | (simp;omega)),fun a ha=>⟨(by first | (simp;done) | (simp;omega)),fun t ht=>?_⟩⟩
  have pl:p≠a:=fun z=>by have:=wm.lst;rw [z,ha] at this;simp at this
  have ht':H' t=none:=by
   by_cases z:t=a
   ·rw [z,QQ] at ht;simp at ht
   ·rw [QB z] at ht;exact ht
  have pt:p≠t:=fun z=>by have:=wm.lst;rw [z,ht'] at this;simp at this
  refine ⟨p,ys,.ref t,rfl,rfl,by rw [QB pt,QB pl];exact wm.lst,by omega,?_⟩
  have s9:Sm Ha (upd (upd (upd H' a (.lst [])) t (.tup [.str "para",.ref a])) p (.lst (ys++[.ref t]))):=((wm.old.upd _ (wm.old.none ha)).upd _ (wm.old.none ht')).upd _ (hac.none m1)
  have rsw:=rsA.grow (go ga.fh s9)
  have ki:=(rsw.kill i (some (.ref pr)) (by simp)).kill j (some (.ref p)) (by simp)
  refine k σ' Fa _ ga.ff ?_
  rcases hσ with h | ⟨u,h⟩
  ·rw [h];exact ki.forget _
  ·rw [h];exact ki.kill _ (some u) (by simp)
end
end Wd
namespace Wd
open PySem PySem.Spec PyProof.Rows L2
theorem YF {X:Cx} {e:Expr} {es:List Expr} {p pos:Pos} {x:Str} {ps:List Str} {k:Nat} {sp:Sp} {t:TA} (c:QM X.prog X.w X.K X.mg X.base k x ps sp) (hr:Room k X.A) (hg:Gl X x) (ha:PA X (e::es) t) (hdb:(x==("__debug__":Str))=false:=by decide) (he:starEach (e::es) X.env=(false,eval e X.env)::starEach es X.env:=by rfl) (hpl:(backTo pos (starEach es X.env)).any (·.1)=false:=by rfl):PE X (.Call (.Name x p) (e::es) [] pos) (Zl sp [] E0 t):=by
 obtain ⟨fa,fd,F,hb,hk,hm⟩:=c
 exact Ie F hr hg hm hk hb .nil Ia ha hdb he hpl
theorem ds_none {X:Cx} {O O' OL:List Nat} {w:Bool} {st:Stmt}:PS X st (tS X O O' OL w UZ):=fun _ _ _ _ _ _ ⟨_,_,_,_,_,z,_⟩=>nomatch z
theorem Ei {X:Cx} {i:Nat} {OL OL':List Nat} {w w':Bool} {st:Stmt} {b:Q8} (h:PS X st (tS X [Qe i] [Qe i] OL' w' b)):PS X st (tS X [i] [i] OL w (UY i b)) :=
 PS.imp h <| by
  rintro Dn σ H ⟨F0,F,en,fl,rs,z,k⟩
  unfold UY at z
  split at z
  ·rename_i ds e' he hb
   split at z
   ·rename_i hc
    obtain ⟨hl,ll⟩:=hc
    obtain rfl:=Option.some.inj z
    obtain ⟨p,kk,xs,ds',a1,a2,a3,a4,a5,a6,a7⟩:=rs.own i _ (Z2 he) (by simp)
    cases kk with
    | some ks=>cases a6
    | none =>
    cases a6
    have a4:H p=some (.lst xs):=a4
    have s1:Sm F (upd F p (.lst xs)):=(Sm.refl F).upd _ a3
    have il:i<en.length:=(List.getElem?_eq_some_iff.mp (Z2 he)).1
    have rs1:RS X.K X.H₀ ⟨upd F p (.lst xs),H,yp p⟩ (upd F p (.lst xs)) H σ en [Qe i]:=by
     refine ⟨fun a o h=>?_,.refl H,.refl _,fun a o h=>.inl h,fun j d hd hj=>?_,fun j d h hj=>((XE i).no hl h hj).elim,fun j _ _ _ _ hj _ h1=>((XE i).no hl h1 hj).elim,fun j hj=>?_,rs.len⟩
     ·by_cases z:a=p
      ·rw [z,QQ] at h;rw [z,a4];exact h
      ·rw [QB z] at h;exact rs.fh a o h
     ·by_cases z:j=i
      ·subst z
       rw [Z2 he] at hd
       obtain rfl:=Option.some.inj (Option.some.inj hd)
       exact ⟨_,a1,.lst QQ (a5.mono s1)⟩
      ·obtain ⟨v,h1,h2⟩:=rs.slot j d hd (by simpa using z)
       exact ⟨v,h1,h2.mono s1⟩
     ·have:j=i:=by have:=List.mem_singleton.mp hj;unfold Qe at this;omega
      subst this
      exact ⟨p,rfl,a1⟩
    refine ⟨⟨upd F p (.lst xs),H,yp p⟩,_,en,_,rs1,hb,fun σ' F' H' s' r=>?_⟩
    obtain ⟨p',hp',hσ⟩:=r.pin i (by simp)
    obtain rfl:=Option.some.inj hp'
    have no:∀ {j:Nat} {d:D},((List.replicate en.length none).set i (some (D.lst ds)))[j]?=some (some d)->j=i/\d=.lst ds:=fun {j d} h=>by
     rw [List.getElem?_set] at h
     split at h
     ·rename_i z
      split at h
      ·exact ⟨z.symm,(Option.some.inj (Option.some.inj h)).symm⟩
      ·simp at h
     ·rw [List.getElem?_replicate] at h
      split at h<;>simp at h
    refine k σ' F H' (.refl F) ⟨rs.fh.trans r.hh,rs.hh.trans r.hh,rs.ff,rs.fr,fun j d h hj=>absurd (no h).1 (by simpa using hj),fun j d h hj=>?_,fun j j' _ _ _ hj hj' _ _ _ _=>by rw [List.mem_singleton.mp hj,List.mem_singleton.mp hj'],fun j hj=>?_,by rw [List.length_set,List.length_replicate,r.len,ll]⟩
    ·obtain ⟨rfl,rfl⟩:=no h
     exact ⟨p,none,xs,ds,hσ,a2,a3,r.hh _ _ a4,a5,rfl,trivial⟩
    ·have:=List.mem_singleton.mp hj
     unfold Qe at this;omega
   ·simp at z
  ·simp at z
section
variable {P:Program} {w:World} {K:Fg} {mg:Str->Option Value} {base:Heap} {x:Str} {st:Stmt} {N ps:List Str} {k:Nat}
theorem B9 (h:Df K mg x st ps) (S:FnScope N ps (Q7 st)):QM P w K mg base (k+1) x ps (spD K fun _=>none):=by
 obtain ⟨f,fd,F,hbd,hm⟩:=h
 exact ⟨f,fd,F.ok (sp:=spD K fun _=>none) S (fun _ _ _ _ ⟨_,_,_,_,_,q,_⟩=>nomatch q) (fun _ _ _ _ _ _ _ _ _ ⟨_,_,_,_,_,q,_⟩=>nomatch q),hbd,F.kp,hm⟩
theorem II {b:(List D->Option D)->Q8} (h0:QM P w K mg base 1 x ps (spD K fun _=>none)) (h1:∀ (g:List D->Option D) (j:Nat),QM P w K mg base j x ps (spD K g)->QM P w K mg base (j+1) x ps (spD K (QT N.length ps.length (b g)))):∀ i,QM P w K mg base (i+1) x ps (spD K (TB N.length ps.length b i))
 | 0=>h0
 | i+1=>h1 _ _ (II h0 h1 i)
end
section
variable {X:Cx} {O:List Nat} {x:Str} {pos p:Pos} {e:Expr} {es:List Expr} {l:JT} {k k':Nat} {ps:List Str}
theorem dv (i:Nat) (hN:X.N[i]?=some x:=by rfl) (hv:ZZ X.env.scope x:=by first | exact Or.inl rfl | exact Or.inr (Or.inl rfl) | exact Or.inr (Or.inr rfl)) (hd:(x==("__debug__":Str))=false:=by decide) (hc:(x==("__classdict__":Str))=false:=by decide):PE X (.Name x pos) (tR X O (eV i)):=Vt i hN hv hd hc
theorem dq {i:Int} {j}:PE X (.Constant (.int i) j pos) (tR X O (eC (.int i))):=dr Z8
theorem dn (i:Nat) (hr:PA X es (tL X O l)) (hN:X.N[i]?=some x:=by rfl) (hv:ZZ X.env.scope x:=by first | exact Or.inl rfl | exact Or.inr (Or.inl rfl) | exact Or.inr (Or.inr rfl)) (hO:i∉O:=by decide) (hd:(x==("__debug__":Str))=false:=by decide) (hc:(x==("__classdict__":Str))=false:=by decide):PA X (.Name x pos::es) (tL X O (lC (eV i) l)):=Lj (Ql i hN hv hO hd hc) hr
theorem dc {f:List D->Option D} (c:QM X.prog X.w X.K X.mg X.base k x ps (spD X.K f)) (hr:Room k' X.A) (ha:PA X (e::es) (tL X O l)) (hk:k<=k':=by decide) (hg:Gl X x:=by exact rfl) (hdb:(x==("__debug__":Str))=false:=by decide) (he:starEach (e::es) X.env=(false,eval e X.env)::starEach es X.env:=by rfl) (hpl:(backTo pos (starEach es X.env)).any (·.1)=false:=by rfl):PE X (.Call (.Name x p) (e::es) [] pos) (tD X O (eK f l)):=Lk c (hr.mono hk) hg ha hdb he hpl
theorem Qr {P:Program} {w:World} {K:Fg} {mg:Str->Option Value} {base:Heap} {st:Stmt} (N ps:List Str) (b:Q8) (k:Nat) (h:Df K mg x st ps) (S:FnScope N ps (Q7 st)) (hb:N.Nodup->∀ {f:Addr} {cdv:Value} {A:Around} {outer:List Env} {s:Shared} {H:Hp} {E:XK},Room k (A.deeper (envOfC x (Q7 st) s.heap.objs.size f cdv))->PSs (Qn Qk P w K mg base N x (Q7 st) f cdv A outer s H E).nox (J9 st) (tS (Qn Qk P w K mg base N x (Q7 st) f cdv A outer s H E).nox [] [] [] false b)):QM P w K mg base (k+1) x ps (spD K (QT N.length ps.length b)):=IH h S fun _ _ _ _ _ _ _ hr=>hb S.nd hr
end
section
variable {X:Cx} {O:List Nat} {x:Str} {pos p:Pos} {a b:Expr} {es:List Expr} {l:JT} {k:Nat} {ea eb:Q4}
theorem dE (hr:Room k X.A) (ha:PE X a (tR X O ea)) (hb:PE X b (tR X O eb)):PT X (.Compare a [.Eq] [b] pos) (tDT X O (Q0 D.eqO ea eb)):=Z1 (Yd hr.units) ha hb (J5 _)
theorem dF (hr:Room k X.A) (ha:PE X a (tR X O ea)) (hb:PE X b (tR X O eb)):PT X (.Compare a [.NotEq] [b] pos) (tDT X O (Q0 D.neO ea eb)):=Z1 (XD hr.units) ha hb (J5 _)
theorem dy {z:Int} {j} {q:Pos} (i:Nat) (hN:X.N[i]?=some x:=by rfl) (hv:ZZ X.env.scope x:=by first | exact Or.inl rfl | exact Or.inr (Or.inl rfl) | exact Or.inr (Or.inr rfl)) (hd:(x==("__debug__":Str))=false:=by decide) (hc:(x==("__classdict__":Str))=false:=by decide):PE X (.Subscript (.Name x p) (.Constant (.int z) j q) pos) (tD X O (Q0 D.ix (eV i) (eC (.int z)))):=Qs (dv i hN hv hd hc) dq
theorem dx {z:Int} {j} {q:Pos} (i:Nat) (hN:X.N[i]?=some x:=by rfl) (hv:ZZ X.env.scope x:=by first | exact Or.inl rfl | exact Or.inr (Or.inl rfl) | exact Or.inr (Or.inr rfl)) (hd:(x==("__debug__":Str))=false:=by decide) (hc:(x==("__classdict__":Str))=false:=by decide):PE X (.Subscript (.Name x p) (.Constant (.int z) j q) pos) (tR X O (Q0 D.ix (eV i) (eC (.int z)))):=dr (dy i hN hv hd hc)
end
end Wd
namespace My
section
open PySem Wd
def Mn:Q8:=QC (YX (Q0 D.eqO (Q0 D.ix (eV 0) (eC (.int 0))) (eC (.str "para"))) (eC (.str "")) (Q0 D.ix (eV 0) (QA D.neg (eC (.int 1)))))
def Wz:List D->Option D:=QT 1 1 Mn
def Mm:Q8:=QC (YX (Q0 D.eqO (Q0 D.ix (eV 0) (eC (.int 0))) (eC (.str "para"))) (Q0 D.ix (eV 0) (eC (.int 1))) (QY (lN)))
def Xm:List D->Option D:=QT 1 1 Mm
def Ml:Q8:=sQ (QD (Q0 D.eqO (Q0 D.ix (eV 0) (eC (.int 0))) (eC (.str "word"))) (QC (Q0 D.add (QY (lC (Q0 D.add (eC (.str "word ")) (Q0 D.ix (eV 0) (eC (.int 1)))) lN)) (JV 1 [] (JP (Q0 D.ix (eV 0) (eC (.int 2)))) (gS 0) (eC (.bl true)) (Q0 D.add (eC (.str "note ")) (eV 0))))) (QK)) (sQ (QD (Q0 D.eqO (Q0 D.ix (eV 0) (eC (.int 0))) (eC (.str "ref"))) (QC (QY (lC (Q0 D.add (Q0 D.add (Q0 D.add (Q0 D.add (Q0 D.add (eC (.str "ref ")) (Q0 D.ix (eV 0) (eC (.int 1)))) (eC (.str " "))) (Q0 D.ix (eV 0) (eC (.int 2)))) (eC (.str "|"))) (Q0 D.ix (eV 0) (eC (.int 3)))) lN))) (QK)) (QC (QY (lC (Q0 D.add (Q0 D.add (Q0 D.ix (eV 0) (eC (.int 0))) (eC (.str " "))) (Q0 D.ix (eV 0) (eC (.int 1)))) lN))))
def Xl:List D->Option D:=QT 1 1 Ml
def Me:Q8:=sQ (QE (Q0 D.ix (eV 0) (eC (.int 0))) (gS 1)) (sQ (QE (Q0 D.ix (eV 0) (eC (.int 1))) (gS 2)) (sQ (QE (YX (Q0 D.eqO (eK Wz (lC (eV 0) lN)) (eC (.str ""))) (eC (.str "-")) (eK Wz (lC (eV 0) lN))) (gS 3)) (sQ (QD (Q0 D.eqO (eV 1) (eC (.str "chapter"))) (QC (Vx [.inl "chapter ",.inr (eV 3),.inl " ",.inr (eV 2)])) (QK)) (sQ (QD (Q0 D.eqO (eV 1) (eC (.str "heading"))) (sQ (QE (Q0 D.ix (eV 0) (eC (.int 2))) (gS 4)) (QC (Vx [.inl "heading ",.inr (eV 4),.inl " ",.inr (eV 3),.inl " ",.inr (eV 2)]))) (QK)) (sQ (QD (Q0 D.eqO (eV 1) (eC (.str "plates"))) (QC (Vx [.inl "plates ",.inr (eV 2),.inl " ",.inr (eV 3)])) (QK)) (QC (YX (Q0 D.eqO (eV 1) (eC (.str "table"))) (Vx [.inl "table ",.inr (eV 3)]) (eC (.str "para")))))))))
def P9:List D->Option D:=QT 5 1 Me
def Md:Q8:=sQ (QE (QY (lC (eK P9 (lC (eV 0) lN)) lN)) (gS 1)) (sQ (QD (Q0 D.eqO (Q0 D.ix (eV 0) (eC (.int 0))) (eC (.str "table"))) (YI 1 (JV 1 [] (JP (Q0 D.ix (eV 0) (eC (.int 1)))) (gS 0) (eC (.bl true)) (Q0 D.add (eC (.str "row ")) (eV 0)))) (QK)) (sQ (Qq (JP (eK Xm (lC (eV 0) lN))) (gS 2) (YI 1 (eK Xl (lC (eV 2) lN)))) (QC (eV 1))))
def Wx:List D->Option D:=QT 3 1 Md
def RX:Q8:=sQ (QE (QY (lN)) (gS 1)) (sQ (Qq (JP (eV 0)) (gS 2) (YI 1 (eK Wx (lC (eV 2) lN)))) (sQ (Qq (Yy (eV 1)) (Jt [gS 3,gS 4]) (QD (QP (Q0 (QS JK) (eV 4) (eC (.str "ref "))) (Q0 D.gt (Q0 (QS Z0) (eV 4) (eC (.str "|"))) (eC (.int 1)))) (WS 6 (eV 3)) (QK))) (QC (eV 1))))
def W3:List D->Option Rs:=Wn 5 1 RX
def L4:Q8:=sQ (QE (QY (lN)) (gS 1)) (sQ (Qq (JP (eV 0)) (gS 2) (YI 1 (eK Wx (lC (eV 2) lN)))) (sQ (UY 1 (Qq (Yy (eV 1)) (Jt [gS 3,gS 4]) (QD (QP (Q0 (QS JK) (eV 4) (eC (.str "ref "))) (Q0 D.gt (Q0 (QS Z0) (eV 4) (eC (.str "|"))) (eC (.int 1)))) (UZ) (QK)))) (QC (eV 1))))
def VI:List D->Option D:=QT 5 1 L4
def Mi:Q8:=QC (QP (Ws D.leS D.leS (eC (.str " ")) (eV 0) (eC (.str "~"))) (Q0 D.neO (QA D.ord (eV 0)) (eC (.int 37))))
def TX:List D->Option D:=QT 1 1 Mi
def Mg:Q8:=QC (QP (Q0 D.neO (eV 0) (eC (.str ""))) (QA D.allL (JV 1 [] (W4 (eV 0)) (gS 0) (eC (.bl true)) (Ws D.leS D.leS (eC (.str "a")) (eV 0) (eC (.str "z"))))))
def Xk:List D->Option D:=QT 1 1 Mg
def Mf:Q8:=QC (Qm (Q0 D.eqO (eV 0) (eC (.str "-"))) (eK Xk (lC (eV 0) lN)))
def Wy:List D->Option D:=QT 1 1 Mf
def Mk:Q8:=QC (QP (Q0 D.neO (eV 0) (eC (.str ""))) (Q0 D.notInS (eC (.str " ")) (eV 0)))
def TZ:List D->Option D:=QT 1 1 Mk
def Mj:Q8:=QC (QP (Q0 D.neO (eV 0) (eC (.str ""))) (Q0 D.eqO (eV 0) (Q0 (QS Ud) (eV 0) (eC (.str " ")))))
def TY:List D->Option D:=QT 1 1 Mj
def Mh:Q8:=QC (Qm (Q0 D.eqO (eV 0) (eC (.str "0"))) (QP (QA (Va KW) (eV 0)) (Q0 D.neO (Q0 D.ix (eV 0) (eC (.int 0))) (eC (.str "0")))))
def TV:List D->Option D:=QT 1 1 Mh
def Mu:Q8:=QC (YX (Q0 D.eqO (eV 0) (eC (.str "-"))) (eC (.str "")) (eV 0))
def X0:List D->Option D:=QT 1 1 Mu
def Mr:Q8:=sQ (QE (Q0 (QS (WU 2)) (eV 0) (eC (.str " "))) (gS 1)) (sQ (QD (QP (Q0 D.eqO (QA D.len (eV 1)) (eC (.int 3))) (QP (eK Wy (lC (Q0 D.ix (eV 1) (eC (.int 1))) lN)) (eK TY (lC (Q0 D.ix (eV 1) (eC (.int 2))) lN)))) (QC (Qa (lC (eC (.str "chapter")) (lC (Q0 D.ix (eV 1) (eC (.int 2))) (lC (eK X0 (lC (Q0 D.ix (eV 1) (eC (.int 1))) lN)) lN))))) (QK)) (QC (eC .non)))
def PD:List D->Option D:=QT 2 1 Mr
def Ms:Q8:=sQ (QE (Q0 (QS (WU 3)) (eV 0) (eC (.str " "))) (gS 1)) (sQ (QD (QP (Q0 D.eqO (QA D.len (eV 1)) (eC (.int 4))) (QP (eK TV (lC (Q0 D.ix (eV 1) (eC (.int 1))) lN)) (QP (eK Wy (lC (Q0 D.ix (eV 1) (eC (.int 2))) lN)) (eK TY (lC (Q0 D.ix (eV 1) (eC (.int 3))) lN))))) (QC (Qa (lC (eC (.str "heading")) (lC (Q0 D.ix (eV 1) (eC (.int 3))) (lC (QA D.intS (Q0 D.ix (eV 1) (eC (.int 1)))) (lC (eK X0 (lC (Q0 D.ix (eV 1) (eC (.int 2))) lN)) lN)))))) (QK)) (QC (eC .non)))
def PF:List D->Option D:=QT 2 1 Ms
def Mx:Q8:=sQ (QE (Q0 (QS V8) (eV 0) (eC (.str " "))) (gS 1)) (sQ (QD (QP (Q0 D.eqO (QA D.len (eV 1)) (eC (.int 2))) (eK Wy (lC (Q0 D.ix (eV 1) (eC (.int 1))) lN))) (QC (Qa (lC (eC (.str "table")) (lC (QY (lN)) (lC (eK X0 (lC (Q0 D.ix (eV 1) (eC (.int 1))) lN)) lN))))) (QK)) (QC (eC .non)))
def PK:List D->Option D:=QT 2 1 Mx
def Mv:Q8:=sQ (QE (Q0 (QS V8) (eV 0) (eC (.str " "))) (gS 1)) (sQ (QD (QP (Q0 D.eqO (QA D.len (eV 1)) (eC (.int 3))) (QP (eK TV (lC (Q0 D.ix (eV 1) (eC (.int 1))) lN)) (QP (Q0 D.neO (Q0 D.ix (eV 1) (eC (.int 1))) (eC (.str "0"))) (eK Wy (lC (Q0 D.ix (eV 1) (eC (.int 2))) lN))))) (QC (Qa (lC (eC (.str "plates")) (lC (QA D.intS (Q0 D.ix (eV 1) (eC (.int 1)))) (lC (eK X0 (lC (Q0 D.ix (eV 1) (eC (.int 2))) lN)) lN))))) (QK)) (QC (eC .non)))
def PH:List D->Option D:=QT 2 1 Mv
def Mq:Q8:=sQ (QD (Q0 D.eqO (eV 0) (eC (.str "para"))) (QC (Qa (lC (eC (.str "para")) (lC (QY (lN)) lN)))) (QK)) (sQ (QD (Q0 (QS JK) (eV 0) (eC (.str "chapter "))) (QC (eK PD (lC (eV 0) lN))) (QK)) (sQ (QD (Q0 (QS JK) (eV 0) (eC (.str "heading "))) (QC (eK PF (lC (eV 0) lN))) (QK)) (sQ (QD (Q0 (QS JK) (eV 0) (eC (.str "table "))) (QC (eK PK (lC (eV 0) lN))) (QK)) (sQ (QD (Q0 (QS JK) (eV 0) (eC (.str "plates "))) (QC (eK PH (lC (eV 0) lN))) (QK)) (QC (eC .non))))))
def Zv:List D->Option D:=QT 1 1 Mq
def Mw:Q8:=sQ (QE (Q0 (QS V8) (eV 0) (eC (.str " "))) (gS 1)) (sQ (QD (QP (Q0 D.eqO (QA D.len (eV 1)) (eC (.int 3))) (QP (eK Xk (lC (Q0 D.ix (eV 1) (eC (.int 1))) lN)) (Q0 D.eqO (Q0 (QS Z0) (Q0 D.ix (eV 1) (eC (.int 2))) (eC (.str "|"))) (eC (.int 1))))) (sQ (QE (Q0 (QS V8) (Q0 D.ix (eV 1) (eC (.int 2))) (eC (.str "|"))) (gS 2)) (QC (Qa (lC (eC (.str "ref")) (lC (Q0 D.ix (eV 1) (eC (.int 1))) (lC (Q0 D.ix (eV 2) (eC (.int 0))) (lC (Q0 D.ix (eV 2) (eC (.int 1))) lN))))))) (QK)) (QC (eC .non)))
def PJ:List D->Option D:=QT 3 1 Mw
def Mt:Q8:=sQ (QE (Q0 D.ix (Q0 (QS V5) (eV 0) (eC (.str " "))) (eC (.int 2))) (gS 1)) (sQ (QD (Q0 (QS JK) (eV 0) (eC (.str "ref "))) (QC (eK PJ (lC (eV 0) lN))) (QK)) (sQ (QD (QP (Q0 (QS JK) (eV 0) (eC (.str "word "))) (eK TZ (lC (eV 1) lN))) (QC (Qa (lC (eC (.str "word")) (lC (eV 1) (lC (QY (lN)) lN))))) (QK)) (sQ (QD (QP (Q0 (QS JK) (eV 0) (eC (.str "key "))) (eK TZ (lC (eV 1) lN))) (QC (Qa (lC (eC (.str "key")) (lC (eV 1) lN)))) (QK)) (sQ (QD (QP (Q0 (QS JK) (eV 0) (eC (.str "mark "))) (eK Xk (lC (eV 1) lN))) (QC (Qa (lC (eC (.str "mark")) (lC (eV 1) lN)))) (QK)) (QC (eC .non))))))
def Yv:List D->Option D:=QT 2 1 Mt
def Mz:Q8:=QC (YX (QP (Q0 D.gt (QA D.len (eV 0)) (eC (.int 0))) (Q0 D.eqO (Q0 D.ix (Q0 D.ix (eV 0) (QA D.neg (eC (.int 1)))) (eC (.int 0))) (eC (.str "table")))) (Q0 D.ix (Q0 D.ix (eV 0) (QA D.neg (eC (.int 1)))) (eC (.int 1))) (eC .non))
def PL:List D->Option D:=QT 1 1 Mz
def Mo:Q8:=QC (Q0 D.eqN (eK PL (lC (eV 0) lN)) (QY (lN)))
def W2:List D->Option D:=QT 1 1 Mo
def Mc:Zn:=YO (Jm (QA D.allL (JV 1 [] (W4 (eV 1)) (gS 0) (eC (.bl true)) (eK TX (lC (eV 0) lN))))) RV (YO (Q0 (QS JK) (eV 1) (eC (.str "row "))) (Ux Vd O8) (YO (eK W2 (lC (eV 0) lN)) RV (YO (Q0 (QS JK) (eV 1) (eC (.str "note "))) (Ux Zm XC) (Wj Zv Yv))))
def JZ:Str->BM->Option (Bool×BM):=Lq Mc
def Uz:Q2->Option (List D):=SI 1 (V7 (Yy (eV 0)) (Jt [gS 2,gS 3]) (Y7 3 JZ)) (eK W2 (lC (eV 1) lN))
def Yu:List D->Option (List D):=Xf 4 1 Uz
def MR:Q8:=sQ (QE (Q0 D.add (YW (eV 0) (Xx) (Zj (eC (.int 63)))) (QY (lC (eV 1) lN))) (gS 3)) (sQ (QE (QY (lN)) (gS 4)) (sQ (Qq (JI (eV 2)) (gS 5) (sQ (QE (Q0 D.add (Q0 D.mulA (Q0 D.mulA (Q0 D.add (eV 5) (eV 1)) (Q0 D.add (eV 5) (eV 1))) (eC (.int 7919))) (eC (.int 104729))) (gS 6)) (sQ (QE (Q0 D.mod (Q0 D.mulA (Q0 D.add (Q0 D.mod (Q0 D.ix (eV 3) (Q0 D.mod (eV 5) (QA D.len (eV 3)))) (eC (.int 2147483647))) (eV 6)) (eC (.int 48271))) (eC (.int 2147483647))) (gS 7)) (sP 4 (Q0 D.mod (Q0 D.add (Q0 D.mulA (eV 7) (eV 7)) (Q0 D.mulA (eC (.int 69621)) (eV 5))) (eC (.int 2147483629))))))) (QC (eV 4))))
def TQ:List D->Option D:=QT 8 3 MR
def Uy (g:List D->Option D):Q8:=sQ (QD (Zt "str" (eV 1)) (QC (QP (Zt "str" (eV 0)) (Q0 D.eqO (eV 0) (eV 1)))) (QK)) (sQ (QD (Zt "int" (eV 1)) (QC (QP (Zt "int" (eV 0)) (QP (Jm (Zt "bool" (eV 0))) (Q0 D.eqO (eV 0) (eV 1))))) (QK)) (sQ (QD (Zt "list" (eV 1)) (QD (Jm (Zt "list" (eV 0))) (QC (eC (.bl false))) (QK)) (QD (Jm (Zt "tuple" (eV 0))) (QC (eC (.bl false))) (QK))) (sQ (QD (Q0 D.neO (QA D.len (eV 0)) (QA D.len (eV 1))) (QC (eC (.bl false))) (QK)) (sQ (Qq (JI (QA D.len (eV 1))) (gS 2) (QD (Jm (eK g (lC (Q0 D.ix (eV 0) (eV 2)) (lC (Q0 D.ix (eV 1) (eV 2)) lN)))) (QC (eC (.bl false))) (QK))) (QC (eC (.bl true)))))))
def YZ:List D->Option D:=TB 3 2 Uy 7
def RW : Q8 := sQ (QE (eC (.str "!\"#$&'()*+,-./0123456789:;<=>?@ABCDEFGHIJKLMNOPQRSTUVWXYZ[\\]^_`abcdefghijklmnopqrstuvwxyz{|}~")) (gS 2)) (sQ (QE (eC (.str "")) (gS 3)) (sQ (Qq (JI (eV 1)) (gS 4) (sQ (QE (Q0 D.mod (Q0 D.add (Q0 D.add (Q0 D.mulA (eV 0) (eC (.int 48271))) (Q0 D.mulA (eC (.int 11)) (eV 4))) (eC (.int 7))) (eC (.int 2147483647))) (gS 0)) (QE (Q0 D.add (eV 3) (Q0 D.ix (eV 2) (Q0 D.mod (eV 0) (QA D.len (eV 2))))) (gS 3)))) (QC (eV 3))))
def ZS:List D->Option D:=QT 5 2 RW
def MY:Q8:=sQ (QE (Q0 D.ix (QY (lC (eC (.str "")) (lC (eC (.str "")) (lC (eC (.str " ")) (lC (eC (.str "  ")) lN))))) (Q0 D.mod (eV 0) (eC (.int 4)))) (gS 1)) (QC (Q0 D.add (Q0 D.add (eV 1) (eK ZS (lC (eV 0) (lC (Q0 D.mod (Q0 D.fdiv (eV 0) (eC (.int 4))) (eC (.int 7))) lN)))) (Q0 D.ix (QY (lC (eC (.str "")) (lC (eC (.str "")) (lC (eC (.str " ")) lN)))) (Q0 D.mod (Q0 D.fdiv (eV 0) (eC (.int 28))) (eC (.int 3))))))
def Yt:List D->Option D:=QT 2 1 MY
def Mb:Q8:=sQ (QE (eK ZS (lC (eV 0) (lC (Q0 D.add (eC (.int 1)) (Q0 D.mod (Q0 D.fdiv (eV 0) (eC (.int 3))) (eC (.int 7)))) lN))) (gS 1)) (sQ (QD (Q0 D.eqO (Q0 D.mod (eV 0) (eC (.int 3))) (eC (.int 0))) (QE (Q0 D.add (Q0 D.add (eV 1) (eC (.str " "))) (eK ZS (lC (Q0 D.fdiv (eV 0) (eC (.int 5))) (lC (Q0 D.add (eC (.int 1)) (Q0 D.mod (Q0 D.fdiv (eV 0) (eC (.int 21))) (eC (.int 5)))) lN)))) (gS 1)) (QK)) (QC (eV 1)))
def TU:List D->Option D:=QT 2 1 Mb
def MV:Q8:=sQ (QE (eC (.str "abcdefghijklmnopqrstuvwxyz")) (gS 2)) (sQ (QE (QA (D.joinS "") (JV 1 [2,1] (JI (Q0 D.mod (eV 1) (eC (.int 10)))) (gS 0) (eC (.bl true)) (Q0 D.ix (eV 1) (Q0 D.mod (Q0 D.add (Q0 D.fdiv (eV 2) (eC (.int 150))) (Q0 D.mulA (eV 0) (eV 0))) (eC (.int 26)))))) (gS 3)) (sQ (QE (Q0 D.mod (Q0 D.fdiv (eV 1) (eC (.int 11))) (Q0 D.add (QA D.len (eV 3)) (eC (.int 1)))) (gS 4)) (sQ (QE (Q0 D.add (Q0 D.ix (eV 2) (Q0 D.mod (eV 0) (eC (.int 26)))) (Q0 D.ix (eV 2) (Q0 D.mod (Q0 D.add (Q0 D.fdiv (eV 0) (eC (.int 26))) (eV 1)) (eC (.int 26))))) (gS 5)) (QC (Q0 D.add (Q0 D.add (YW (eV 3) (Xx) (Zj (eV 4))) (eV 5)) (YW (eV 3) (Zj (eV 4)) (Xx)))))))
def Wv:List D->Option D:=QT 6 2 MV
def MN:Q8:=sQ (QD (Q0 D.eqO (eV 0) (eC (.int 0))) (QC (Qa (lC (eC (.str "chapter")) (lC (eK TU (lC (Q0 D.ix (eV 2) (eC (.int 3))) lN)) (lC (eV 1) lN))))) (QK)) (sQ (QD (Q0 D.eqO (eV 0) (eC (.int 1))) (sQ (QE (Q0 D.ix (QY (lC (Q0 D.mod (Q0 D.ix (eV 2) (eC (.int 2))) (eC (.int 4))) (lC (Q0 D.mod (Q0 D.ix (eV 2) (eC (.int 2))) (eC (.int 4))) (lC (Q0 D.ix (eV 2) (eC (.int 2))) (lC (Q0 D.add (Q0 D.pow (eC (.int 10)) (eC (.int 38))) (Q0 D.ix (eV 2) (eC (.int 3)))) lN))))) (Q0 D.mod (Q0 D.fdiv (Q0 D.ix (eV 2) (eC (.int 2))) (eC (.int 4))) (eC (.int 4)))) (gS 3)) (QC (Qa (lC (eC (.str "heading")) (lC (eK TU (lC (Q0 D.ix (eV 2) (eC (.int 3))) lN)) (lC (eV 3) (lC (eV 1) lN))))))) (QK)) (sQ (QD (Q0 D.eqO (eV 0) (eC (.int 2))) (sQ (QE (Q0 D.add (eC (.int 1)) (Q0 D.mod (Q0 D.ix (eV 2) (eC (.int 2))) (eC (.int 4)))) (gS 4)) (sQ (QD (Q0 D.eqO (Q0 D.mod (Q0 D.fdiv (Q0 D.ix (eV 2) (eC (.int 2))) (eC (.int 4))) (eC (.int 16))) (eC (.int 0))) (QE (Q0 D.add (eC (.int 5)) (Q0 D.mod (Q0 D.fdiv (Q0 D.ix (eV 2) (eC (.int 2))) (eC (.int 64))) (eC (.int 45)))) (gS 4)) (QK)) (QC (Qa (lC (eC (.str "table")) (lC (JV 1 [2] (JI (eV 4)) (gS 0) (eC (.bl true)) (eK Yt (lC (Q0 D.add (Q0 D.ix (eV 1) (eC (.int 3))) (Q0 D.mulA (Q0 D.mulA (eC (.int 977)) (eV 0)) (eV 0))) lN))) (lC (eV 1) lN))))))) (QK)) (sQ (QE (eC (.int 1)) (gS 5)) (sQ (Qq (JI (Q0 D.mod (Q0 D.fdiv (Q0 D.ix (eV 2) (eC (.int 2))) (eC (.int 4))) (Q0 D.ix (QY (lC (eC (.int 5)) (lC (eC (.int 5)) (lC (eC (.int 5)) (lC (eC (.int 13)) lN))))) (Q0 D.mod (Q0 D.ix (eV 2) (eC (.int 2))) (eC (.int 4)))))) (gS 6) (QE (Q0 D.mulA (eV 5) (eC (.int 10))) (gS 5))) (sQ (QD (Q0 D.eqO (Q0 D.mod (Q0 D.fdiv (Q0 D.ix (eV 2) (eC (.int 1))) (eC (.int 2))) (eC (.int 8))) (eC (.int 0))) (QE (Q0 D.add (Q0 D.pow (eC (.int 10)) (eC (.int 38))) (Q0 D.ix (eV 2) (eC (.int 2)))) (gS 5)) (QK)) (QC (Qa (lC (eC (.str "plates")) (lC (Q0 D.max2 (eC (.int 1)) (Q0 D.sub (eV 5) (Q0 D.mod (Q0 D.ix (eV 2) (eC (.int 3))) (eC (.int 12))))) (lC (eV 1) lN))))))))))
def W0:List D->Option D:=QT 7 3 MN
def MS:Q8:=sQ (QD (Q0 D.eqO (eV 0) (eC (.int 11))) (QC (Qa (lC (eC (.str "mark")) (lC (eV 1) lN)))) (QK)) (sQ (QD (Q0 D.eqO (eV 0) (eC (.int 12))) (QC (Qa (lC (eC (.str "key")) (lC (eK ZS (lC (Q0 D.add (eC (.int 3)) (Q0 D.mod (Q0 D.ix (eV 2) (eC (.int 1))) (eC (.int 5)))) (lC (Q0 D.add (eC (.int 1)) (Q0 D.mod (Q0 D.ix (eV 2) (eC (.int 1))) (eC (.int 3)))) lN))) lN)))) (QK)) (sQ (QD (Q0 D.gt (eV 0) (eC (.int 8))) (QC (Qa (lC (eC (.str "ref")) (lC (Q0 D.ix (eV 2) (eC (.int 1))) (lC (eK ZS (lC (Q0 D.ix (eV 2) (eC (.int 2))) (lC (Q0 D.mod (Q0 D.fdiv (Q0 D.ix (eV 2) (eC (.int 2))) (eC (.int 9))) (eC (.int 4))) lN))) (lC (eK ZS (lC (Q0 D.ix (eV 2) (eC (.int 3))) (lC (Q0 D.mod (Q0 D.fdiv (Q0 D.ix (eV 2) (eC (.int 3))) (eC (.int 9))) (eC (.int 4))) lN))) lN)))))) (QK)) (sQ (QE (Q0 D.add (eC (.int 1)) (Q0 D.mod (Q0 D.ix (eV 2) (eC (.int 1))) (eC (.int 9)))) (gS 3)) (sQ (QD (Q0 D.eqO (Q0 D.mod (Q0 D.fdiv (Q0 D.ix (eV 2) (eC (.int 1))) (eC (.int 9))) (eC (.int 32))) (eC (.int 0))) (QE (Q0 D.add (eC (.int 10)) (Q0 D.mod (Q0 D.fdiv (Q0 D.ix (eV 2) (eC (.int 1))) (eC (.int 288))) (eC (.int 70)))) (gS 3)) (QK)) (sQ (QE (JV 1 [2] (JI (Q0 D.ix (QY (lC (eC (.int 0)) (lC (eC (.int 0)) (lC (eC (.int 0)) (lC (eC (.int 1)) (lC (eC (.int 2)) lN)))))) (Q0 D.mod (Q0 D.ix (eV 2) (eC (.int 3))) (eC (.int 5))))) (gS 0) (eC (.bl true)) (eK Yt (lC (Q0 D.add (Q0 D.ix (eV 1) (eC (.int 3))) (Q0 D.mulA (eC (.int 977)) (eV 0))) lN))) (gS 4)) (QC (Qa (lC (eC (.str "word")) (lC (eK ZS (lC (Q0 D.ix (eV 2) (eC (.int 2))) (lC (eV 3) lN))) (lC (eV 4) lN))))))))))
def Xi:List D->Option D:=QT 5 3 MS
def MP:Q8:=sQ (QD (Q0 D.neO (Q0 D.ix (eV 0) (eC (.int 0))) (eC (.str "para"))) (QC (eV 0)) (QK)) (sQ (QE (QY (lN)) (gS 3)) (sQ (Qq (JP (Q0 D.ix (eV 0) (eC (.int 1)))) (gS 4) (QD (QP (Q0 D.eqO (Q0 D.ix (eV 4) (eC (.int 0))) (eC (.str "ref"))) (Q0 D.gt (QA D.len (eV 1)) (eC (.int 0)))) (sP 3 (Qa (lC (eC (.str "ref")) (lC (Q0 D.ix (eV 1) (Q0 D.mod (Q0 D.ix (eV 4) (eC (.int 1))) (QA D.len (eV 1)))) (lC (Q0 D.ix (eV 4) (eC (.int 2))) (lC (Q0 D.ix (eV 4) (eC (.int 3))) lN)))))) (QD (Q0 D.eqO (Q0 D.ix (eV 4) (eC (.int 0))) (eC (.str "ref"))) (sP 3 (Qa (lC (eC (.str "word")) (lC (Q0 D.add (eC (.str "of")) (Q0 D.ix (eV 4) (eC (.int 2)))) (lC (QY (lN)) lN))))) (sP 3 (eV 4))))) (sQ (QD (QP (Q0 D.gt (QA D.len (eV 3)) (eC (.int 0))) (Q0 D.inO (Q0 D.ix (Q0 D.ix (eV 3) (QA D.neg (eC (.int 1)))) (eC (.int 0))) (Qa (lC (eC (.str "mark")) (lC (eC (.str "key")) lN))))) (sP 3 (Qa (lC (eC (.str "word")) (lC (eK ZS (lC (eV 2) (lC (Q0 D.add (eC (.int 1)) (Q0 D.mod (eV 2) (eC (.int 6)))) lN))) (lC (QY (lN)) lN))))) (QK)) (QC (Qa (lC (eC (.str "para")) (lC (eV 3) lN)))))))
def Xh:List D->Option D:=QT 5 3 MP
def MO:Q8:=sQ (QE (Q0 D.mod (Q0 D.ix (eK TQ (lC (eV 0) (lC (eC (.int 1000)) (lC (eC (.int 1)) lN)))) (eC (.int 0))) (eC (.int 64))) (gS 1)) (sQ (QE (eK TQ (lC (eV 0) (lC (eC (.int 2)) (lC (Q0 D.add (Q0 D.mulA (eC (.int 4)) (eV 1)) (eC (.int 1))) lN)))) (gS 2)) (sQ (QE (QY (lN)) (gS 3)) (sQ (QE (QY (lN)) (gS 4)) (sQ (WR 3 4 (V7 (JI (eV 1)) (gS 5) (Jl (Za (QE (YW (eV 2) (Zj (Q0 D.mulA (eC (.int 4)) (eV 5))) (Zj (Q0 D.add (Q0 D.mulA (eC (.int 4)) (eV 5)) (eC (.int 4))))) (gS 6))) (Jl (Za (QE (Q0 D.mod (Q0 D.ix (eV 6) (eC (.int 0))) (eC (.int 13))) (gS 7))) (Jl (Za (QE (eC (.str "")) (gS 8))) (Jl (Jz (Jb 3 4) (Qm (Q0 D.eqO (eV 7) (eC (.int 11))) (QP (Q0 D.lt (eV 7) (eC (.int 4))) (Q0 D.eqO (Q0 D.mod (Q0 D.ix (eV 6) (eC (.int 1))) (eC (.int 2))) (eC (.int 0))))) (Jl (Wi (Jb 3 4) 8 (eK Wv (lC (QA D.len (eV 4)) (lC (Q0 D.ix (eV 2) (Q0 D.mulA (eC (.int 4)) (eV 1))) lN)))) (XU (eV 8))) ((fun e m=>some (e,m)))) (Jl (Jz (Jb 3 4) (Q0 D.lt (eV 7) (eC (.int 4))) (Uw (eK W0 (lC (eV 7) (lC (eV 8) (lC (eV 6) lN))))) (Jz (Jb 3 4) (Qm (Q0 D.eqO (eV 7) (eC (.int 4))) (Qm (Q0 D.eqO (QA D.len (eV 3)) (eC (.int 0))) (Q0 D.neO (Q0 D.ix (Q0 D.ix (eV 3) (QA D.neg (eC (.int 1)))) (eC (.int 0))) (eC (.str "para"))))) (Vl) ((fun e m=>some (e,m))))) (Jz (Jb 3 4) (Q0 D.gt (eV 7) (eC (.int 4))) (RU (eK Xi (lC (eV 7) (lC (eV 8) (lC (eV 6) lN))))) ((fun e m=>some (e,m))))))))))) (QC (JV 1 [4,2,1] (JP (eV 3)) (gS 0) (eC (.bl true)) (eK Xh (lC (eV 0) (lC (eV 1) (lC (Q0 D.ix (eV 2) (Q0 D.mulA (eC (.int 4)) (eV 3))) lN))))))))))
def P5:List D->Option D:=QT 9 1 MO
def MQ:Q8:=sQ (QE (QY (lN)) (gS 1)) (sQ (Qq (JP (eV 0)) (gS 2) (QD (Q0 D.eqO (Q0 D.ix (eV 2) (eC (.int 0))) (eC (.str "para"))) (sQ (QE (QY (lN)) (gS 3)) (sQ (Qq (JP (Q0 D.ix (eV 2) (eC (.int 1)))) (gS 4) (QD (Q0 D.eqO (Q0 D.ix (eV 4) (eC (.int 0))) (eC (.str "word"))) (sP 3 (Qa (lC (eC (.str "word")) (lC (Q0 D.ix (eV 4) (eC (.int 1))) (lC (QA D.listOf (Q0 D.ix (eV 4) (eC (.int 2)))) lN))))) (sP 3 (eV 4)))) (sP 1 (Qa (lC (eC (.str "para")) (lC (eV 3) lN)))))) (QD (Q0 D.eqO (Q0 D.ix (eV 2) (eC (.int 0))) (eC (.str "table"))) (sP 1 (Qa (lC (eC (.str "table")) (lC (QA D.listOf (Q0 D.ix (eV 2) (eC (.int 1)))) (lC (Q0 D.ix (eV 2) (eC (.int 2))) lN))))) (sP 1 (eV 2))))) (QC (eV 1)))
def TN:List D->Option D:=QT 5 1 MQ
def Ma:Q8:=sQ (QD (Q0 D.eqO (eV 0) (eC (.str ""))) (QC (eC (.str "-"))) (QK)) (QC (eV 0))
def Ww:List D->Option D:=QT 1 1 Ma
def MT:Q8:=sQ (QD (Q0 D.eqO (Q0 D.ix (eV 0) (eC (.int 0))) (eC (.str "word"))) (QC (Q0 D.add (QY (lC (Q0 D.add (eC (.str "word ")) (Q0 D.ix (eV 0) (eC (.int 1)))) lN)) (JV 1 [] (JP (Q0 D.ix (eV 0) (eC (.int 2)))) (gS 0) (eC (.bl true)) (Q0 D.add (eC (.str "note ")) (eV 0))))) (QK)) (sQ (QD (Q0 D.eqO (Q0 D.ix (eV 0) (eC (.int 0))) (eC (.str "ref"))) (QC (QY (lC (Q0 D.add (Q0 D.add (Q0 D.add (Q0 D.add (Q0 D.add (eC (.str "ref ")) (Q0 D.ix (eV 0) (eC (.int 1)))) (eC (.str " "))) (Q0 D.ix (eV 0) (eC (.int 2)))) (eC (.str "|"))) (Q0 D.ix (eV 0) (eC (.int 3)))) lN))) (QK)) (QC (QY (lC (Q0 D.add (Q0 D.add (Q0 D.ix (eV 0) (eC (.int 0))) (eC (.str " "))) (Q0 D.ix (eV 0) (eC (.int 1)))) lN))))
def TR:List D->Option D:=QT 1 1 MT
def MZ:Q8:=sQ (QE (QY (lN)) (gS 1)) (sQ (Qq (JP (eV 0)) (gS 2) (sQ (QD (Q0 D.eqO (Q0 D.ix (eV 2) (eC (.int 0))) (eC (.str "chapter"))) (sP 1 (Q0 D.add (Q0 D.add (Q0 D.add (eC (.str "chapter ")) (eK Ww (lC (Q0 D.ix (eV 2) (eC (.int 2))) lN))) (eC (.str " "))) (Q0 D.ix (eV 2) (eC (.int 1))))) (QK)) (sQ (QD (Q0 D.eqO (Q0 D.ix (eV 2) (eC (.int 0))) (eC (.str "heading"))) (sP 1 (QA (D.joinS " ") (QY (lC (eC (.str "heading")) (lC (QA D.strI (Q0 D.ix (eV 2) (eC (.int 2)))) (lC (eK Ww (lC (Q0 D.ix (eV 2) (eC (.int 3))) lN)) (lC (Q0 D.ix (eV 2) (eC (.int 1))) lN))))))) (QK)) (sQ (QD (Q0 D.eqO (Q0 D.ix (eV 2) (eC (.int 0))) (eC (.str "plates"))) (sP 1 (Q0 D.add (Q0 D.add (Q0 D.add (eC (.str "plates ")) (QA D.strI (Q0 D.ix (eV 2) (eC (.int 1))))) (eC (.str " "))) (eK Ww (lC (Q0 D.ix (eV 2) (eC (.int 2))) lN)))) (QK)) (sQ (QD (Q0 D.eqO (Q0 D.ix (eV 2) (eC (.int 0))) (eC (.str "table"))) (sQ (sP 1 (Q0 D.add (eC (.str "table ")) (eK Ww (lC (Q0 D.ix (eV 2) (eC (.int 2))) lN)))) (QE (Q0 D.cat (eV 1) (JV 1 [] (JP (Q0 D.ix (eV 2) (eC (.int 1)))) (gS 0) (eC (.bl true)) (Q0 D.add (eC (.str "row ")) (eV 0)))) (gS 1))) (QK)) (QD (Q0 D.eqO (Q0 D.ix (eV 2) (eC (.int 0))) (eC (.str "para"))) (sQ (sP 1 (eC (.str "para"))) (Qq (JP (Q0 D.ix (eV 2) (eC (.int 1)))) (gS 3) (QE (Q0 D.cat (eV 1) (eK TR (lC (eV 3) lN))) (gS 1)))) (QK))))))) (QC (eV 1)))
def Xj:List D->Option D:=QT 4 1 MZ
def MU:Q8:=sQ (QE (QY (lN)) (gS 1)) (sQ (QD (QA (D.instX 6) (eV 0)) (sP 1 (QA D.blk (eV 0))) (QK)) (sQ (QD (Qm (QA (D.instX 0) (eV 0)) (Qm (QA (D.instX 1) (eV 0)) (QA (D.instX 2) (eV 0)))) (sP 1 (eC (.str "style"))) (QK)) (sQ (QD (Qm (QA (D.instX 3) (eV 0)) (Qm (QA (D.instX 4) (eV 0)) (QA (D.instX 5) (eV 0)))) (sP 1 (eC (.str "label"))) (QK)) (sQ (QD (QP (QA D.isNN (eV 0)) (Jm (QA D.instV (eV 0)))) (sP 1 (eC (.str "no value"))) (QK)) (sQ (QD (QP (Q0 D.eqO (QA D.len (eV 1)) (eC (.int 1))) (Zt "bool" (Q0 D.ix (eV 1) (eC (.int 0))))) (sP 1 (eC (.str "truth"))) (QK)) (QC (eV 1)))))))
def P6:List D->Option D:=QT 2 1 MU
def MM:Q8:=sQ (Qq (JI (QA D.len (eV 0))) (gS 1) (QD (QP (Q0 (QS JK) (Q0 D.ix (eV 0) (eV 1)) (eC (.str "ref "))) (Q0 D.gt (Q0 (QS Z0) (Q0 D.ix (eV 0) (eV 1)) (eC (.str "|"))) (eC (.int 1)))) (QC (eV 1)) (QK))) (QC (QA D.neg (eC (.int 1))))
def TM:List D->Option D:=QT 2 1 MM
def MW:Q8:=sQ (QE (QY (lN)) (gS 1)) (sQ (Qq (JP (eV 0)) (gS 2) (sQ (QD (Q0 D.eqO (Q0 D.ix (eV 2) (eC (.int 0))) (eC (.str "para"))) (sQ (QE (QY (lN)) (gS 3)) (sQ (Qq (JP (Q0 D.ix (eV 2) (eC (.int 1)))) (gS 4) (sQ (QD (Q0 D.eqO (Q0 D.ix (eV 4) (eC (.int 0))) (eC (.str "ref"))) (QE (Qa (lC (eC (.str "ref")) (lC (Q0 D.ix (eV 4) (eC (.int 1))) (lC (QA (D.replI 2 "|" "!") (eV 4)) (lC (QA (D.replI 3 "|" ".") (eV 4)) lN))))) (gS 4)) (QK)) (sP 3 (eV 4)))) (QE (Qa (lC (eC (.str "para")) (lC (eV 3) lN))) (gS 2)))) (QK)) (sP 1 (eV 2)))) (QC (eV 1)))
def P7:List D->Option D:=QT 5 1 MW
def MX:Q8:=sQ (QE (eC .non) (gS 1)) (sQ (SJ 1 2 (UX W3 (lC (eV 0) lN))) (QC (eK P6 (lC (eV 1) lN))))
def P8:List D->Option D:=QT 3 1 MX
def Mp:Q8:=sQ (QE (eK P5 (lC (eV 0) lN)) (gS 1)) (sQ (QE (eK TN (lC (eV 1) lN)) (gS 2)) (sQ (QE (eK TM (lC (eK Xj (lC (eV 1) lN)) lN)) (gS 3)) (sQ (QD (Q0 D.ge (eV 3) (eC (.int 0))) (sQ (QD (Qm (Q0 D.neO (eK P8 (lC (eV 2) lN)) (QY (lC (eV 3) lN))) (Q0 D.neO (eV 2) (eV 1))) (QC (eC (.bl false))) (QK)) (sQ (QE (eK P7 (lC (eV 1) lN)) (gS 1)) (QE (eK TN (lC (eV 1) lN)) (gS 2)))) (QK)) (sQ (QE (eK Xj (lC (eV 1) lN)) (gS 4)) (sQ (QE (QA D.listOf (eV 4)) (gS 5)) (sQ (Qq (JI (eC (.int 2))) (gS 6) (WQ 7 8 9 VI (lC (eV 2) lN) Yu (lC (eV 5) lN) (Qm (Jm (eK YZ (lC (eV 7) (lC (eV 4) lN)))) (Qm (Jm (eK YZ (lC (eV 8) (lC (eV 1) lN)))) (Qm (Q0 D.neO (eV 2) (eV 1)) (Q0 D.neO (eV 5) (eV 4))))))) (QC (QP (Q0 D.eqO (eV 2) (eV 1)) (Q0 D.eqO (eV 5) (eV 4))))))))))
def Xn:List D->Option D:=QT 10 1 Mp
theorem toNat_inj:∀ {a b:List Char},a.map Char.toNat=b.map Char.toNat->a=b
 | [],[],_=>rfl
 | [],_::_,h=>nomatch h
 | _::_,[],h=>nomatch h
 | a::x,b::y,h=>by
  rw [List.map_cons,List.map_cons] at h
  obtain ⟨h1,h2⟩:=List.cons.inj h
  rw [toNat_inj h2,Char.toNat_inj.mp h1]
@[simp] theorem tg (a b:String):(Str.ofString a=Str.ofString b)=(a=b):=propext ⟨fun h=>by
 rw [Str.ofString_eq_byList] at h
 unfold Str.ofStringByList at h
 have h2:(a.toList.map Char.toNat).toArray=(b.toList.map Char.toNat).toArray:=Str.mk.inj h
 exact String.toList_inj.mp (toNat_inj (congrArg Array.toList h2)),fun h=>h▸rfl⟩
theorem LY {α:Type} {g:Qw} {c el:Q4} (d:α->D) (R:Q2->Prop) (p:α->Bool) (o:α->D):∀ (xs:List α),
  (∀ a∈xs,∀ e,R e->∃ e',g (d a) e=some e'/\R e'/\c e'=some (.bl (p a))/\(p a=true->el e'=some (o a))) ->
  ∀ e,R e->Z7 g c el (xs.map d) e=some ((xs.filter p).map o)
 | [],_,e,h=>rfl
 | a::xs,hb,e,h=>by
  obtain ⟨e1,h1,r1,h2,h3⟩:=hb a List.mem_cons_self e h
  have ih:=LY d R p o xs (fun x hx=>hb x (List.mem_cons_of_mem _ hx)) _ r1
  show (g (d a) e).bind (fun e1=>Ju (c e1) ((el e1).bind fun x=>(Z7 g c el (xs.map d) e1).map fun r=>x::r) (Z7 g c el (xs.map d) e1))=_
  rw [h1]
  show Ju (c e1) _ _=_
  rw [h2,DR,ih]
  cases q:p a with
  | false=>rw [if_neg (by decide),List.filter_cons_of_neg (by simp [q])]
  | true=>rw [if_pos rfl,h3 q,List.filter_cons_of_pos q];rfl
theorem Ks {α:Type} {g:Qw} {b:Q8} (d:α->D):∀ (xs:List α) (R:Nat->Q2->Prop),
  (∀ i (hi:i<xs.length) e,R i e->∃ e',((g (d xs[i]) e).bind b=some (.nx e')\/(g (d xs[i]) e).bind b=some (.ct e'))/\R (i+1) e') ->
  ∀ e,R 0 e->∃ e',ZM g b (xs.map d) e=some (.nx e')/\R xs.length e'
 | [],R,_,e,h=>⟨e,rfl,h⟩
 | a::xs,R,hb,e,h=>by
  obtain ⟨e1,h1,r1⟩:=hb 0 (by simp) e h
  obtain ⟨e2,h2,r2⟩:=Ks d xs (fun i=>R (i+1)) (fun i hi x hx=>hb (i+1) (by simpa using hi) x hx) _ r1
  refine ⟨e2,?_,r2⟩
  show Z6 ((g (d a) e).bind b) (ZM g b (xs.map d))=_
  have h1':(g (d a) e).bind b=some (.nx e1)\/(g (d a) e).bind b=some (.ct e1):=h1
  rcases h1' with h1 | h1
  ·rw [h1];exact h2
  ·rw [h1];exact h2
theorem Ts {g:Qw} {b:Q8} (n:Nat) (R:Nat->Q2->Prop)
  (h:∀ i,i<n->∀ e,R i e->∃ e',((g (.int (0+(i:Int))) e).bind b=some (.nx e')\/(g (.int (0+(i:Int))) e).bind b=some (.ct e'))/\R (i+1) e') :
  ∀ e,R 0 e->∃ e',ZM g b (rD 0 n) e=some (.nx e')/\R n e':=by
 intro e h0
 have:=Ks (g:=g) (b:=b) (fun i:Nat=>D.int (0+(i:Int))) (List.range n) R (fun i hi e r=>by
  have q:(List.range n)[i]=i:=by simp
  rw [q]
  exact h i (by simpa using hi) e r) e h0
 simpa [rD] using this
theorem st {a k:Q8} {e e1:Q2} {r:Option Fl} (h:a e=some (.nx e1)) (hk:k e1=r):sQ a k e=r:=by unfold sQ;rw [h];exact hk
theorem J1 {a k:Q8} {e:Q2} {d:D} (h:a e=some (.rt d)):sQ a k e=some (.rt d):=by unfold sQ;rw [h];rfl
theorem QJ {n k:Nat} {b:Q8} {ds:List D} {r:D} (hl:ds.length=k) (h:b (Ja n ds)=some (.rt r)):QT n k b ds=some r:=by unfold QT;rw [if_pos hl,h];rfl
theorem QbM {it:Jo} {g:Qw} {b k:Q8} {e:Q2} {r:Option Fl} (n:Nat) (R:Nat->Q2->Prop) (hit:it e=some (rD 0 n)) (h0:R 0 e)
  (hb:∀ i,i<n->∀ e,R i e->∃ e',((g (.int (0+(i:Int))) e).bind b=some (.nx e')\/(g (.int (0+(i:Int))) e).bind b=some (.ct e'))/\R (i+1) e')
  (hk:∀ e',R n e'->k e'=r):sQ (Qq it g b) k e=r:=by
 obtain ⟨e',h1,h2⟩:=Ts n R hb e h0
 refine st (e1:=e') ?_ (hk e' h2)
 unfold Qq;rw [hit];exact h1
theorem Je {g:Qw} {b:Q8} {d:D} {e e1:Q2} {r:Option Fl} (h:g d e=some e1) (hk:b e1=r):(g d e).bind b=r:=by rw [h];exact hk
theorem ret {a:Q4} {e:Q2} {d:D} (h:a e=some d):QC a e=some (.rt d):=by unfold QC;rw [h];rfl
theorem P1 {β:Type} {dd:β->D} {P:β->Prop} {n k:Nat} {b:Q8} {ds:List D} (hl:ds.length=k) (h:∃ x,b (Ja n ds)=some (.rt (dd x))/\P x):∃ x,QT n k b ds=some (dd x)/\P x:=by
 obtain ⟨x,h1,h2⟩:=h
 exact ⟨x,QJ hl h1,h2⟩
theorem Ys {β:Type} {dd:β->D} {P:β->Prop} {a k:Q8} {e e1:Q2} (h:a e=some (.nx e1)) (hk:∃ x,k e1=some (.rt (dd x))/\P x):∃ x,sQ a k e=some (.rt (dd x))/\P x:=by
 obtain ⟨x,h1,h2⟩:=hk
 exact ⟨x,st h h1,h2⟩
theorem T2 {α:Type} {n:Nat} {caps:List Nat} {it:Jo} {g:Qw} {c el:Q4} {e:Q2} (d:α->D) (xs:List α) (R:Q2->Prop) (p:α->Bool) (o:α->D) (hit:it e=some (xs.map d)) (hl:xs.length<=Qc) (h0:R (Yl n caps e))
  (hb:∀ a∈xs,∀ e,R e->∃ e',g (d a) e=some e'/\R e'/\c e'=some (.bl (p a))/\(p a=true->el e'=some (o a))):JV n caps it g c el e=some (.lst ((xs.filter p).map o)):=by
 unfold JV
 rw [hit]
 show (if (xs.map d).length<=Qc then (Z7 g c el (xs.map d) (Yl n caps e)).map D.lst else none)=_
 rw [if_pos (by rw [List.length_map];exact hl),LY d R p o xs hb _ h0]
 rfl
theorem Xo {α:Type} (xs:List α):xs.filter (fun _=>true)=xs:=by simp
theorem Zz {a b:Q4} {e:Q2} {r:Option D} (ha:a e=some (.bl false)) (hb:b e=r):Qm a b e=r:=by unfold Qm;rw [ha];exact hb
theorem Xy {a b:Q4} {e:Q2} (ha:a e=some (.bl true)):Qm a b e=some (.bl true):=by unfold Qm;rw [ha];rfl
theorem J2 {a b:Q4} {e:Q2} {r:Option D} (ha:a e=some (.bl true)) (hb:b e=r):QP a b e=r:=by unfold QP;rw [ha];exact hb
theorem YN {a b:Q4} {e:Q2} (ha:a e=some (.bl false)):QP a b e=some (.bl false):=by unfold QP;rw [ha];rfl
theorem Q1 {g:D->D->Option D} {a b:Q4} {e:Q2} {x y:D} {r:Option D} (ha:a e=some x) (hb:b e=some y) (h:g x y=r):Q0 g a b e=r:=by unfold Q0;rw [ha,hb];exact h
theorem Qi {g:D->Option D} {a:Q4} {e:Q2} {x:D} {r:Option D} (ha:a e=some x) (h:g x=r):QA g a e=r:=by unfold QA;rw [ha];exact h
theorem W8 {a:Q4} {e:Q2} {b:Bool} (ha:a e=some (.bl b)):Jm a e=some (.bl (!b)):=by unfold Jm;rw [ha];rfl
theorem ZU {t:String} {a:Q4} {e:Q2} {x:D} {r:Option D} (ha:a e=some x) (h:D.inst t x=r):Zt t a e=r:=by unfold Zt;rw [ha];exact h
theorem QX {f:List D->Option D} {a:Q4} {e:Q2} {x:D} {r:Option D} (ha:a e=some x) (h:f [x]=r):eK f (lC a lN) e=r:=by unfold eK lC lN;rw [ha];exact h
theorem Zp {f:List D->Option D} {a b:Q4} {e:Q2} {x y:D} {r:Option D} (ha:a e=some x) (hb:b e=some y) (h:f [x,y]=r):eK f (lC a (lC b lN)) e=r:=by unfold eK lC lN;rw [ha,hb];exact h
theorem Xa {f:List D->Option D} {a b c:Q4} {e:Q2} {x y z:D} {r:Option D} (ha:a e=some x) (hb:b e=some y) (hc:c e=some z) (h:f [x,y,z]=r):eK f (lC a (lC b (lC c lN))) e=r:=by unfold eK lC lN;rw [ha,hb,hc];exact h
theorem JB {i:Nat} {a:Q4} {e:Q2} {x d z:D} (hx:eV i e=some x) (ha:a e=some d) (h:D.app x d=some z):sP i a e=some (.nx (e.set i (some z))):=by unfold sP;rw [hx,ha];show (D.app x d).map _=_;rw [h];rfl
theorem P4 {i:Nat} {a:Q4} {e:Q2} {x d z:D} (hx:eV i e=some x) (ha:a e=some d) (h:D.ext x d=some z):YI i a e=some (.nx (e.set i (some z))):=by unfold YI;rw [hx,ha];show (D.ext x d).map _=_;rw [h];rfl
theorem QG {a:Q4} {g:Qw} {e e1:Q2} {d:D} (h:a e=some d) (hg:g d e=some e1):QE a g e=some (.nx e1):=by unfold QE;rw [h];show (g d e).map _=_;rw [hg];rfl
theorem QU {c:Q4} {a b:Q8} {e:Q2} {r:Option Fl} (h:c e=some (.bl true)) (ha:a e=r):QD c a b e=r:=by unfold QD;rw [h];exact ha
theorem Q9 {c:Q4} {a b:Q8} {e:Q2} {r:Option Fl} (h:c e=some (.bl false)) (ha:b e=r):QD c a b e=r:=by unfold QD;rw [h];exact ha
theorem Ze (x y:Str):D.eqO (.str x) (.str y)=some (.bl (decide (x=y))):=by simp [D.eqO,Vs,VH,D.cmp]
theorem Y4 {a b c:Q4} {e:Q2} {x y z:D} (ha:a e=some x) (hb:b e=some y) (hc:c e=some z):Qa (lC a (lC b (lC c lN))) e=some (.tup [x,y,z]):=by unfold Qa lC lN;rw [ha,hb,hc];rfl
theorem VB {a b:Q4} {e:Q2} {x y:D} (ha:a e=some x) (hb:b e=some y):Qa (lC a (lC b lN)) e=some (.tup [x,y]):=by unfold Qa lC lN;rw [ha,hb];rfl
theorem XJ {a b c d:Q4} {e:Q2} {x y z u:D} (ha:a e=some x) (hb:b e=some y) (hc:c e=some z) (hd:d e=some u):Qa (lC a (lC b (lC c (lC d lN)))) e=some (.tup [x,y,z,u]):=by unfold Qa lC lN;rw [ha,hb,hc,hd];rfl
theorem JG {x y:Int} (h:x≠y):D.eqO (.int x) (.int y)=some (.bl false):=by simp [D.eqO,Vr,Wt,D.cmp,h]
theorem ZR {x y:Int} (h:x=y):D.eqO (.int x) (.int y)=some (.bl true):=by simp [D.eqO,Vr,Wt,D.cmp,h]
theorem Kv {x y:Int} (h:¬ x<y):D.lt (.int x) (.int y)=some (.bl false):=by show some (D.bl (decide (x<y)))=_;rw [decide_eq_false h]
theorem Pf {x y:Int} (h:x<y):D.lt (.int x) (.int y)=some (.bl true):=by show some (D.bl (decide (x<y)))=_;rw [decide_eq_true h]
theorem T5 {a:Q4} {lo hi:Wb} {e:Q2} {x:D} {l h:Option Int} {r:Option D} (ha:a e=some x) (hl:lo e=some l) (hh:hi e=some h) (hc:Xd x l h=r):YW a lo hi e=r:=by unfold YW;rw [ha,hl,hh];exact hc
theorem Ut {a:Q4} {e:Q2} {i:Int} (ha:a e=some (.int i)):Zj a e=some (some i):=by unfold Zj;rw [ha];rfl
abbrev cs (x:Str):List Nat:=x.cps.toList
theorem sx {x y:Str} (h:cs x=cs y):x=y:=Str.ext' (by rw [<- Array.toArray_toList (xs:=x.cps),<- Array.toArray_toList (xs:=y.cps)];exact congrArg List.toArray h)
theorem Qx (x y:Str):cs (x++y)=cs x++cs y:=by unfold cs;rw [Str.cps_append,Array.toList_append]
theorem ZW (x:Str):x.length=(cs x).length:=(Array.length_toList).symm
def JW (c:Nat):Nat->Nat->List Nat->List Nat
 | _,_,[]=>[]
 | n,i,a::l=>if a=c/\n≠0 then i::JW c (n-1) (i+1) l else JW c n (i+1) l
def J6 (c:Nat):Nat->List Nat->List (List Nat)
 | _,[]=>[[]]
 | n,a::l=>if a=c/\n≠0 then []::J6 c (n-1) l else (J6 c n l).modifyHead (a::·)
open Builtin.Str in
theorem B0 (x:Str) (c lim:Nat):∀ (l:List Nat) (i:Nat) (s:Array Nat×Nat),(cs x).drop i=l->i+l.length=x.length->s.2<=i->s.1.size<=lim ->
  (forIn (List.range' i (x.length+1-i)) s (StrLaws.occBody x ⟨#[c]⟩ x.length lim)).run.fst.toList=s.1.toList++JW c (lim-s.1.size) i l:=by
 intro l
 induction l with
 | nil =>
  intro i s hd hl h1 h2
  have hi:i=x.length:=by simpa using hl
  subst hi
  rw [show x.length+1-x.length=1 by omega]
  have hno:¬ (((s.fst.size<lim/\s.snd<=x.length)/\x.length+(⟨#[c]⟩:Str).length<=x.length)/\subAt x ⟨#[c]⟩ x.length=true):=by
   rintro ⟨⟨_,h⟩,_⟩
   have:(⟨#[c]⟩:Str).length=1:=rfl
   omega
  have e:StrLaws.occBody x ⟨#[c]⟩ x.length lim x.length s=pure (ForInStep.yield (s.1,s.2)):=by unfold StrLaws.occBody;rw [if_neg hno]
  rw [List.range'_succ,List.forIn_cons,e]
  simp [JW]
 | cons a l ih =>
  intro i s hd hl h1 h2
  have hlt:i<x.length:=by simp at hl;omega
  rw [show x.length+1-i=(x.length+1-(i+1))+1 by omega,List.range'_succ,List.forIn_cons]
  have hd':(cs x).drop (i+1)=l:=by rw [<- List.drop_drop,hd];rfl
  have ha:(cs x)[i]?=some a:=by
   have:=congrArg (fun t=>t[0]?) hd
   simpa using this
  have hq:=StrLaws.subAt_one x c i
  have hh:(cs x)[i]?=some c↔a=c:=by rw [ha];simp
  by_cases hc:a=c/\lim-s.1.size≠0
  ·have hyes:((s.fst.size<lim/\s.snd<=i)/\i+(⟨#[c]⟩:Str).length<=x.length)/\subAt x ⟨#[c]⟩ i=true:=by
    have:=hq.mpr (hh.mpr hc.1)
    exact ⟨⟨⟨by omega,h1⟩,this.1⟩,this.2⟩
   have e:StrLaws.occBody x ⟨#[c]⟩ x.length lim i s=pure (ForInStep.yield (s.1.push i,i+1)):=by unfold StrLaws.occBody;rw [if_pos hyes];rfl
   rw [e]
   have:=ih (i+1) (s.1.push i,i+1) hd' (by simp at hl;omega) (Nat.le_refl _) (by simp;omega)
   show (forIn (List.range' (i+1) (x.length+1-(i+1))) (s.1.push i,i+1) (StrLaws.occBody x ⟨#[c]⟩ x.length lim)).run.fst.toList=_
   rw [this]
   show (s.1.push i).toList++JW c (lim-(s.1.push i).size) (i+1) l=s.1.toList++JW c (lim-s.1.size) i (a::l)
   rw [show JW c (lim-s.1.size) i (a::l)=i::JW c (lim-s.1.size-1) (i+1) l by rw [JW,if_pos hc]]
   simp [Nat.sub_sub]
  ·have hno:¬ (((s.fst.size<lim/\s.snd<=i)/\i+(⟨#[c]⟩:Str).length<=x.length)/\subAt x ⟨#[c]⟩ i=true):=by
    rintro ⟨⟨⟨h3,_⟩,h4⟩,h5⟩
    exact hc ⟨hh.mp (hq.mp ⟨h4,h5⟩),by omega⟩
   have e:StrLaws.occBody x ⟨#[c]⟩ x.length lim i s=pure (ForInStep.yield (s.1,s.2)):=by unfold StrLaws.occBody;rw [if_neg hno]
   rw [e]
   have:=ih (i+1) s hd' (by simp at hl;omega) (by omega) h2
   show (forIn (List.range' (i+1) (x.length+1-(i+1))) s (StrLaws.occBody x ⟨#[c]⟩ x.length lim)).run.fst.toList=_
   rw [this,show JW c (lim-s.1.size) i (a::l)=JW c (lim-s.1.size) (i+1) l by rw [JW,if_neg hc]]
open Builtin.Str in
theorem S1 (x:Str) (c lim:Nat):occurrences x ⟨#[c]⟩ 0 x.length lim=JW c lim 0 (cs x):=by
 rw [StrLaws.occ_eq,show x.length+1-0=x.length+1 by omega]
 have:=B0 x c lim (cs x) 0 (#[],0) rfl (by rw [Nat.zero_add,<- ZW]) (Nat.le_refl _) (by simp)
 simpa using this
open Builtin.Str
theorem Xc (x:Str) (i j:Nat):cs (strSub x i j)=((cs x).drop i).take (j-i):=StrLaws.strSub_toList x i j
theorem Hf (c n:Nat) (l:List Nat):J6 c n l≠[]:=by
 cases l with
 | nil=>simp [J6]
 | cons a l =>
  rw [J6]
  split
  ·simp
  ·have:=Hf c n l
   cases h:J6 c n l with
   | nil=>exact absurd h this
   | cons p ps=>simp
theorem Ky (l:List (List Nat)):l.modifyHead ([]++·)=l:=by cases l<;>simp
theorem AZ (x:Str) (c:Nat):∀ (l:List Nat) (n i a:Nat),(cs x).drop i=l->i+l.length=x.length->a<=i ->
  (StrLaws.partsFrom x 1 a (JW c n i l)).map cs=(J6 c n l).modifyHead ((((cs x).drop a).take (i-a))++·):=by
 intro l
 induction l with
 | nil =>
  intro n i a hd hl ha
  have hi:i=x.length:=by simpa using hl
  simp [JW,StrLaws.partsFrom,J6,Xc,hi]
 | cons b l ih =>
  intro n i a hd hl ha
  have hd':(cs x).drop (i+1)=l:=by rw [<- List.drop_drop,hd];rfl
  have hl':i+1+l.length=x.length:=by simp at hl;omega
  rw [JW,J6]
  by_cases hc:b=c/\n≠0
  ·rw [if_pos hc,if_pos hc,StrLaws.partsFrom,List.map_cons,ih (n-1) (i+1) (i+1) hd' hl' (Nat.le_refl _)]
   simp only [Nat.sub_self,List.take_zero,Ky,List.modifyHead_cons,List.append_nil,Xc]
  ·rw [if_neg hc,if_neg hc,ih n (i+1) a hd' hl' (by omega)]
   have hb:(cs x)[i]?=some b:=by
    have:=congrArg (fun t=>t[0]?) hd
    simpa using this
   have e:((cs x).drop a).take (i+1-a)=((cs x).drop a).take (i-a)++[b]:=by
    rw [show i+1-a=(i-a)+1 by omega,List.take_succ]
    congr 1
    rw [List.getElem?_drop,show a+(i-a)=i by omega,hb];rfl
   cases h:J6 c n l with
   | nil=>exact absurd h (Hf c n l)
   | cons p ps=>simp [e]
theorem IZ (x:Str) (c n:Nat):(partsBetween x (JW c n 0 (cs x)) 1).map cs=J6 c n (cs x):=by
 rw [StrLaws.partsBetween_eq,AZ x c (cs x) n 0 0 rfl (by rw [Nat.zero_add,<- ZW]) (Nat.le_refl _)]
 simp only [Nat.sub_self,List.take_zero,Ky]
theorem CL (x:Str) {c:Nat} (hc:c<256):¬ Builtin.Str.strKind x<Builtin.Str.strKind ⟨#[c]⟩:=by
 have h1:Builtin.Str.strKind ⟨#[c]⟩=1:=by unfold Builtin.Str.strKind;rw [if_pos (by simp [hc])]
 have h2:1<=Builtin.Str.strKind x:=by unfold Builtin.Str.strKind;split<;>(try split)<;>omega
 omega
theorem Pg {f:Str->List Nat} (hf:∀ a b,f a=f b->a=b):∀ {xs ys:List Str},xs.map f=ys.map f->xs=ys
 | [],[],_=>rfl
 | [],_::_,h=>nomatch h
 | _::_,[],h=>nomatch h
 | a::xs,b::ys,h=>by
  rw [List.map_cons,List.map_cons] at h
  obtain ⟨h1,h2⟩:=List.cons.inj h
  rw [hf a b h1,Pg hf h2]
theorem Hg (x:Str) (c n:Nat) (hc:c<256):(if (decide (x.length<(⟨#[c]⟩:Str).length)||decide (Builtin.Str.strKind x<Builtin.Str.strKind ⟨#[c]⟩))=true then [x] else if (JW c n 0 (cs x)).isEmpty=true then [x] else partsBetween x (JW c n 0 (cs x)) 1).map cs=J6 c n (cs x):=by
 by_cases h0:x.length<1
 ·rw [if_pos (by rw [Bool.or_eq_true];exact .inl (decide_eq_true h0))]
  have:cs x=[]:=List.length_eq_zero_iff.mp (by rw [<- ZW];omega)
  simp [this,J6]
 ·rw [if_neg (by rw [Bool.or_eq_true];rintro (h | h);exact h0 (of_decide_eq_true h);exact CL x hc (of_decide_eq_true h))]
  split
  ·rename_i he
   have:=IZ x c n
   rw [List.isEmpty_iff.mp he] at this
   rw [<- this,StrLaws.partsBetween_eq]
   simp only [StrLaws.partsFrom,List.map_cons,List.map_nil,Xc,List.drop_zero,Nat.sub_zero]
   rw [ZW,List.take_length]
  ·exact IZ x c n
theorem QbH {x:Str} {c:Nat} {L:List Str} (hc:c<256) (h:J6 c (x.length+1) (cs x)=L.map cs):Txt.split x ⟨#[c]⟩=L:=by
 refine Pg (fun a b e=>sx e) (f:=cs) ?_
 rw [<- h,<- Hg x c _ hc]
 unfold Txt.split
 rw [S1]
 rfl
theorem QbI {x:Str} {c k:Nat} {L:List Str} (hc:c<256) (h:J6 c k (cs x)=L.map cs):Txt.splitMax x ⟨#[c]⟩ k=L:=by
 refine Pg (fun a b e=>sx e) (f:=cs) ?_
 rw [<- h,<- Hg x c _ hc]
 unfold Txt.splitMax
 rw [show limitOf x (k:Int)=k by unfold limitOf;rw [if_neg (by omega)];rfl,S1]
 rfl
theorem Ot (c:Nat):∀ l,J6 c 0 l=[l]
 | []=>rfl
 | a::l=>by rw [J6,if_neg (by simp),Ot c l];rfl
theorem Ub {c:Nat}:∀ {l:List Nat} (n:Nat),c∉l->J6 c n l=[l]
 | [],_,_=>rfl
 | a::l,n,h=>by
  rw [J6,if_neg (fun z=>h (by simp [z.1])),Ub n (fun z=>h (List.mem_cons_of_mem _ z))];rfl
theorem Y2 {c:Nat}:∀ {w:List Nat} (n:Nat) (r:List Nat),c∉w->J6 c (n+1) (w++c::r)=w::J6 c n r
 | [],n,r,_=>by rw [List.nil_append,J6,if_pos ⟨rfl,by omega⟩];rfl
 | a::w,n,r,h=>by
  rw [List.cons_append,J6,if_neg (fun z=>h (by simp [z.1])),Y2 n r (fun z=>h (List.mem_cons_of_mem _ z))];rfl
theorem Pt (c:Nat):∀ (l:List Nat) (n i:Nat),l.length<=n->(JW c n i l).length=l.count c
 | [],_,_,_=>rfl
 | a::l,n,i,h=>by
  rw [JW,List.count_cons]
  simp only [List.length_cons] at h
  by_cases e:a=c
  ·rw [if_pos ⟨e,by omega⟩,List.length_cons,Pt c l (n-1) (i+1) (by omega),if_pos (by simp [e])]
  ·rw [if_neg (fun z=>e z.1),Pt c l n (i+1) (by omega),if_neg (by simp [e])];rfl
theorem Lb (x:Str) (c:Nat):Txt.count x ⟨#[c]⟩=((cs x).count c:Nat):=by
 unfold Txt.count
 rw [S1,Pt c (cs x) _ 0 (by rw [<- ZW];omega)]
theorem Io {c:Nat}:∀ (w:List Nat) (i:Nat) (r:List Nat),c∉w->∃ t,JW c 1 i (w++c::r)=(i+w.length)::t
 | [],i,r,_=>⟨_,by rw [List.nil_append,JW,if_pos ⟨rfl,by omega⟩];rfl⟩
 | a::w,i,r,h=>by
  obtain ⟨t,e⟩:=Io w (i+1) r (fun z=>h (List.mem_cons_of_mem _ z))
  exact ⟨t,by rw [List.cons_append,JW,if_neg (fun z=>h (by simp [z.1])),e,List.length_cons];congr 1;omega⟩
theorem IV {x w r:Str} {c:Nat} (h:cs x=cs w++c::cs r) (hw:c∉cs w):Txt.partition x ⟨#[c]⟩=(w,⟨#[c]⟩,r):=by
 unfold Txt.partition
 obtain ⟨t,e⟩:=Io (cs w) 0 (cs r) hw
 rw [S1,h,e]
 have hl:x.length=(cs w).length+(1+(cs r).length):=by rw [ZW,h,List.length_append,List.length_cons];omega
 have h1:(⟨#[c]⟩:Str).length=1:=rfl
 simp only [Nat.zero_add]
 refine Prod.ext (sx ?_) (Prod.ext rfl (sx ?_))
 ·show cs (strSub x 0 (cs w).length)=_
  rw [Xc,h];simp
 ·show cs (strSub x ((cs w).length+1) x.length)=_
  rw [Xc,h,hl,show (cs w++c::cs r).drop ((cs w).length+1)=cs r by rw [<- List.drop_drop,List.drop_left];rfl]
  rw [List.take_of_length_le (by omega)]
theorem Hj (x y:Str):Txt.startswith x y=(cs y).isPrefixOf (cs x):=by
 unfold Txt.startswith
 rw [StrLaws.subAt_eq,List.drop_zero,Nat.zero_add,Bool.eq_iff_iff,Bool.and_eq_true,beq_iff_eq,List.isPrefixOf_iff_prefix,List.prefix_iff_eq_take,decide_eq_true_iff,ZW,ZW]
 constructor
 ·rintro ⟨_,h⟩;exact h.symm
 ·intro h
  refine ⟨?_,h.symm⟩
  have:=congrArg List.length h
  rw [List.length_take] at this;omega
theorem QbP {x:Str} {c:Nat} (h1:(cs x).head?≠some c) (h2:(cs x).getLast?≠some c):Txt.stripChars x ⟨#[c]⟩=x:=by
 unfold Txt.stripChars Txt.stripBy
 have hg:∀ a,(⟨#[c]⟩:Str).cps.contains a=true↔a=c:=fun a=>by simp
 have tw:∀ l:List Nat,l.head?≠some c->l.takeWhile (⟨#[c]⟩:Str).cps.contains=[]:=fun l h=>by
  cases l with
  | nil=>rfl
  | cons a l=>rw [List.takeWhile_cons,if_neg (fun z=>h (by rw [(hg a).mp z];rfl))]
 rw [if_pos]
 unfold stripSame stripLo stripHi
 simp only [if_true]
 rw [show x.cps.toList.takeWhile (⟨#[c]⟩:Str).cps.contains=[] from tw _ h1,List.length_nil,List.drop_zero,tw _ (by rw [List.head?_reverse];exact h2)]
 simp
theorem FO (x:Str) (c:Nat):Txt.contains x ⟨#[c]⟩=decide (c∈cs x):=StrLaws.found_one x c
def QV (n:Nat):Str:=Str.ofString (toString (n:Int))
theorem T3 (n:Nat):cs (QV n)=(Nat.toDigits 10 n).map Char.toNat:=PySem.W.KIN.signs_num n
theorem Rk:∀ d:Nat,d<10->(Nat.digitChar d).toNat=48+d:=by decide
theorem S0 (n:Nat):∀ c∈cs (QV n),48<=c/\c<=57:=by
 rw [T3]
 induction n using Nat.strongRecOn with
 | _ m ih =>
  intro c hc
  by_cases h:m<10
  ·rw [Nat.toDigits_of_lt_base h] at hc
   have:c=(Nat.digitChar m).toNat:=by simpa using hc
   rw [this,Rk m h];omega
  ·have hm:m%10<10:=Nat.mod_lt m (by decide)
   have t:Nat.toDigits 10 (m/10)++Nat.toDigits 10 (m%10)=Nat.toDigits 10 (10*(m/10)+m%10):=Nat.toDigits_append_toDigits (by decide) (by omega) hm
   rw [Nat.div_add_mod] at t
   rw [<- t,List.map_append,Nat.toDigits_of_lt_base hm] at hc
   rcases List.mem_append.mp hc with z | z
   ·exact ih (m/10) (by omega) c z
   ·have:c=(Nat.digitChar (m%10)).toNat:=by simpa using z
    rw [this,Rk _ hm];omega
theorem Pn {n:Nat} (hn:n≠0):∃ c r,cs (QV n)=c::r/\c≠48:=by
 rw [T3]
 induction n using Nat.strongRecOn with
 | _ m ih =>
  by_cases h:m<10
  ·rw [Nat.toDigits_of_lt_base h]
   exact ⟨_,[],rfl,by rw [Rk m h];omega⟩
  ·have hm:m%10<10:=Nat.mod_lt m (by decide)
   have t:Nat.toDigits 10 (m/10)++Nat.toDigits 10 (m%10)=Nat.toDigits 10 (10*(m/10)+m%10):=Nat.toDigits_append_toDigits (by decide) (by omega) hm
   rw [Nat.div_add_mod] at t
   obtain ⟨c,r,e,hc⟩:=ih (m/10) (by omega) (by omega)
   exact ⟨c,_,by rw [<- t,List.map_append,e];rfl,hc⟩
theorem IF (n:Nat):cs (QV n)≠[]:=by
 rcases Nat.eq_zero_or_pos n with rfl | h
 ·decide
 ·obtain ⟨c,r,e,_⟩:=Pn (n:=n) (by omega)
  rw [e];simp
theorem V4 {n:Nat} (h:n<10^60):(QV n).length<=60:=by
 rw [ZW,T3,List.length_map]
 exact (Nat.length_toDigits_le_iff (by decide) (by decide)).mpr h
theorem Cy {n:Nat} (h:n<10^60):intText? (QV n)=some (n:Int):=by
 rw [PySem.intText_digits (fun c hc=>S0 n c hc) (IF n) (Nat.le_trans (V4 h) (by decide))]
 rw [show (QV n).cps.toList=(Nat.toDigits 10 n).map Char.toNat from T3 n,PySem.W.KIN.val_back]
theorem Ec:∀ c:Nat,c<58->48<=c->Unicode.isDigit c=true:=by decide +kernel
theorem Cz (n:Nat):Txt.isdigit (QV n)=true:=by
 unfold Txt.isdigit
 rw [Bool.and_eq_true]
 refine ⟨decide_eq_true ?_,?_⟩
 ·rw [ZW];exact List.length_pos_iff.mpr (IF n)
 ·rw [<- Array.all_toList,List.all_eq_true]
  intro c hc
  have:=S0 n c hc
  exact Ec c (by omega) this.1
def sg (c:Nat):Prop:=32<=c/\c<=126/\c≠37
def Sgn (x:Str):Prop:=(∀ c∈cs x,sg c)/\x.length<=2000
def Lab (x:Str):Prop:=(∀ c∈cs x,97<=c/\c<=122)/\cs x≠[]/\x.length<=2000
def BLab (x:Str):Prop:=x=""\/Lab x
def XS (x:Str):Prop:=Sgn x/\cs x≠[]/\32∉cs x
def Ttl (x:Str):Prop:=Sgn x/\cs x≠[]/\(cs x).head?≠some 32/\(cs x).getLast?≠some 32
def QH (x:Str):Str:=if x="" then "-" else x
theorem Tr (a b:Nat):D.leS (.str ⟨#[a]⟩) (.str ⟨#[b]⟩)=some (.bl (decide (a<=b))):=by
 show some (D.bl (!(decide ([b] < [a]))))=_
 congr 2
 by_cases h:a<=b
 ·rw [decide_eq_true h,decide_eq_false (by simp [List.cons_lt_cons_iff];omega)];rfl
 ·rw [decide_eq_false h,decide_eq_true (by simp [List.cons_lt_cons_iff];omega)];rfl
theorem W7 (x y:Str):D.neO (.str x) (.str y)=some (.bl (!decide (x=y))):=by simp [D.neO,Vs,VH,D.cmpN]
theorem LR {g g':D->D->Option D} {a b c:Q4} {e:Q2} {x y z:D} {r:Option D} (ha:a e=some x) (hb:b e=some y) (h:g x y=some (.bl true)) (hc:c e=some z) (h':g' y z=r):Ws g g' a b c e=r:=by unfold Ws;rw [ha,hb];show Ju (g x y) _ _=_;rw [h,hc];exact h'
theorem Dp {c:Nat} (h:sg c):TX [.str ⟨#[c]⟩]=some (.bl true):=by
 refine QJ rfl (ret (J2 (LR (x:=.str ⟨#[32]⟩) (z:=.str ⟨#[126]⟩) rfl rfl ?_ rfl ?_) (Q1 (x:=.int c) (Qi rfl rfl) rfl ?_)))
 ·rw [Tr,decide_eq_true h.1]
 ·rw [Tr,decide_eq_true h.2.1]
 ·have:(c:Int)≠37:=by have:=h.2.2;omega
  simp [D.neO,Vr,Wt,D.cmpN,this]
theorem GW {x:Str} (h:∀ c∈cs x,c<128):x.cps.all (·<128)=true:=by
 rw [<- Array.all_toList,List.all_eq_true]
 intro c hc
 exact decide_eq_true (h c hc)
theorem LK {α:Type}:∀ (xs:List α),YQ ((xs.filter fun _=>true).map fun _=>D.bl true)=some (xs.map fun _=>true)
 | []=>rfl
 | a::xs=>by
  rw [Xo]
  have:=LK xs
  rw [Xo] at this
  show (YQ (xs.map fun _=>D.bl true)).map _=_
  rw [this];rfl
theorem MH {i:Nat} {el:Q4} {x:Str} {e:Q2} (he:eV i e=some (.str x)) (ha:∀ c∈cs x,c<128) (hl:x.length<=100000) (h:∀ c∈cs x,el [some (.str ⟨#[c]⟩)]=some (.bl true)):QA D.allL (JV 1 [] (W4 (eV i)) (gS 0) (eC (.bl true)) el) e=some (.bl true):=by
 have hc:JV 1 [] (W4 (eV i)) (gS 0) (eC (.bl true)) el e=some (.lst (((cs x).filter fun _=>true).map fun _=>D.bl true)):=by
  refine T2 (fun c=>D.str ⟨#[c]⟩) (cs x) (fun e=>∃ v,e=[v]) (fun _=>true) (fun _=>.bl true) ?_ (by rw [<- ZW];show _<=16777216;omega) ⟨none,rfl⟩ ?_
  ·unfold W4
   rw [he]
   show (if x.cps.all (·<128)=true then some (x.cps.toList.map fun c=>D.str ⟨#[c]⟩) else none)=_
   rw [if_pos (GW ha)]
  ·rintro c hc e ⟨v,rfl⟩
   exact ⟨_,rfl,⟨_,rfl⟩,rfl,fun _=>h c hc⟩
 refine Qi hc ?_
 show (YQ _).map _=_
 rw [LK]
 show some (D.bl (((cs x).map fun _=>true).all id))=_
 simp
theorem Sgn.as {x:Str} (h:Sgn x):∀ c∈cs x,c<128:=fun c hc=>by have:=h.1 c hc;unfold sg at this;omega
theorem Tw {x:Str} (h:cs x≠[]):x≠"":=fun z=>h (by rw [z];rfl)
theorem PZ {x:Str} (h:Lab x):Xk [.str x]=some (.bl true):=by
 refine QJ rfl (ret (J2 (Q1 rfl rfl ?_) (MH rfl (fun c hc=>by have:=h.1 c hc;omega) (by have:=h.2.2;omega) fun c hc=>LR (x:=.str ⟨#[97]⟩) (z:=.str ⟨#[122]⟩) rfl rfl ?_ rfl ?_)))
 ·rw [W7,decide_eq_false (Tw h.2.1)];rfl
 ·rw [Tr,decide_eq_true (h.1 c hc).1]
 ·rw [Tr,decide_eq_true (h.1 c hc).2]
theorem Sj {x:Str} (h:BLab x):(x=""/\QH x="-")\/(Lab x/\x≠""/\QH x=x/\x≠"-"):=by
 rcases h with rfl | h
 ·exact .inl ⟨rfl,rfl⟩
 ·have n:=Tw h.2.1
  refine .inr ⟨h,n,if_neg n,fun z=>?_⟩
  have:=h.1 45 (by rw [z];decide)
  omega
theorem Ti {x:Str} (h:BLab x):Wy [.str (QH x)]=some (.bl true):=by
 rcases Sj h with ⟨_,e⟩ | ⟨hl,_,e,n⟩<;>rw [e]
 ·exact QJ rfl (ret (Xy (Q1 rfl rfl (Ze _ _))))
 ·refine QJ rfl (ret (Zz (Q1 rfl rfl ?_) (QX rfl (PZ hl))))
  rw [Ze,decide_eq_false n]
theorem Zw {c a b:Q4} {e:Q2} {t:Bool} {r:Option D} (hc:c e=some (.bl t)) (ha:t=true->a e=r) (hb:t=false->b e=r):YX c a b e=r:=by
 unfold YX;rw [hc]
 cases t with
 | true=>exact ha rfl
 | false=>exact hb rfl
theorem SG {x:Str} (h:BLab x):X0 [.str (QH x)]=some (.str x):=by
 rcases Sj h with ⟨e1,e⟩ | ⟨hl,_,e,n⟩<;>rw [e]
 ·rw [e1];exact QJ rfl (ret (Zw (t:=true) (Q1 rfl rfl (Ze _ _)) (fun _=>rfl) fun h=>nomatch h))
 ·exact QJ rfl (ret (Zw (t:=false) (Q1 rfl rfl (by rw [Ze,decide_eq_false n])) (fun h=>nomatch h) fun _=>rfl))
theorem KU {x:Str} (h:XS x):TZ [.str x]=some (.bl true):=by
 refine QJ rfl (ret (J2 (Q1 rfl rfl (by rw [W7,decide_eq_false (Tw h.2.1)];rfl)) (Q1 (x:=.str ⟨#[32]⟩) rfl rfl ?_)))
 show some (D.bl (!Txt.contains x ⟨#[32]⟩))=_
 rw [FO,decide_eq_false h.2.2];rfl
theorem KS {x:Str} (h:Ttl x):TY [.str x]=some (.bl true):=by
 refine QJ rfl (ret (J2 (Q1 rfl rfl (by rw [W7,decide_eq_false (Tw h.2.1)];rfl)) (Q1 (y:=.str x) rfl (Q1 (y:=.str ⟨#[32]⟩) rfl rfl ?_) (by rw [Ze,decide_eq_true rfl]))))
 show Ud x ⟨#[32]⟩=_
 unfold Ud
 rw [if_pos (by show _<=16777216;have:=h.1.2;omega),QbP h.2.2.1 h.2.2.2]
theorem KR {n:Nat} (h:n<10^60):TV [.str (QV n)]=some (.bl true):=by
 by_cases h0:n=0
 ·subst h0
  exact QJ rfl (ret (Xy (Q1 rfl rfl (by rw [Ze];rfl))))
 ·obtain ⟨c,r,e,hc⟩:=Pn h0
  have n0:QV n≠"0":=fun z=>by
   rw [z] at e
   have:c=48:=(List.cons.inj (show [48]=c::r from e)).1.symm
   exact hc this
  refine QJ rfl (ret (Zz (Q1 rfl rfl (by rw [Ze,decide_eq_false n0])) (J2 (Qi rfl ?_) (Q1 (x:=.str ⟨#[c]⟩) (Q1 rfl rfl ?_) rfl ?_))))
  ·show some (D.bl (Txt.isdigit (QV n)))=_
   rw [Cz]
  ·have hl:=V4 h
   show (if (QV n).length<=Qc then (Qu (QV n).length 0).bind fun k=>((QV n).cps[k]?).map fun c=>D.str ⟨#[c]⟩ else none)=_
   rw [if_pos (by show _<=16777216;omega)]
   have hp:(0:Int)<((QV n).length:Int):=by rw [ZW,e];first | (simp;done) | (simp;omega)
   unfold Qu
   rw [if_pos (by omega),if_pos hp]
   show ((QV n).cps[(0:Int).toNat]?).map _=_
   have:(cs (QV n))[0]?=some c:=by rw [e];rfl
   rw [show (QV n).cps[(0:Int).toNat]?=some c from by rw [<- Array.getElem?_toList];exact this]
   rfl
  ·rw [W7,decide_eq_false (fun z=>hc (by have z':[c]=[48]:=congrArg cs z;exact (List.cons.inj z').1))]
   rfl
inductive It where
 | word (x:Str) (ns:List Str) | ref (l a b:Str) | mark (l:Str) | key (x:Str)
inductive Bo where
 | chap (t l:Str) | head (t:Str) (k:Nat) (l:Str) | tab (rs:List Str) (l:Str) | plat (n:Nat) (l:Str) | para (is:List It)
def QF (xs:List Str):D:=.lst (xs.map .str)
def It.d:It->D
 | .word w ns=>.tup [.str "word",.str w,QF ns]
 | .ref l a b=>.tup [.str "ref",.str l,.str a,.str b]
 | .mark l=>.tup [.str "mark",.str l]
 | .key w=>.tup [.str "key",.str w]
def Bo.d:Bo->D
 | .chap t l=>.tup [.str "chapter",.str t,.str l]
 | .head t k l=>.tup [.str "heading",.str t,.int k,.str l]
 | .tab rs l=>.tup [.str "table",QF rs,.str l]
 | .plat n l=>.tup [.str "plates",.int n,.str l]
 | .para is=>.tup [.str "para",.lst (is.map It.d)]
def RT (x:Str):Prop:=Sgn x/\32∉cs x
def It.ok:It->Prop
 | .word x ns=>XS x/\(∀ n∈ns,Sgn n)/\ns.length<=100
 | .ref l a b=>Lab l/\RT a/\RT b
 | .mark l=>Lab l
 | .key x=>XS x
def Bo.ok:Bo->Prop
 | .chap t l=>Ttl t/\BLab l
 | .head t k l=>Ttl t/\k<10^60/\BLab l
 | .tab rs l=>(∀ r∈rs,Sgn r)/\rs≠[]/\rs.length<=100/\BLab l
 | .plat n l=>0<n/\n<10^60/\BLab l
 | .para is=>(∀ i∈is,i.ok)/\is.length<=100
def It.rows:It->List Str
 | .word x ns=>("word "++x)::ns.map fun n=>"note "++n
 | .ref l a b=>["ref "++l++" "++a++"|"++b]
 | .mark l=>["mark "++l]
 | .key x=>["key "++x]
def Bo.first:Bo->Str
 | .chap t l=>"chapter "++QH l++" "++t
 | .head t k l=>"heading "++QV k++" "++QH l++" "++t
 | .tab rs l=>"table "++QH l
 | .plat n l=>"plates "++QV n++" "++QH l
 | .para is=>"para"
def Bo.more:Bo->List Str
 | .tab rs l=>rs.map fun r=>"row "++r
 | .para is=>is.flatMap It.rows
 | _=>[]
def Bo.rows (b:Bo):List Str:=b.first::b.more
theorem JR {x y:Str} (h:x.length+y.length<=100000):D.add (.str x) (.str y)=some (.str (x++y)):=if_pos (by show _<=16777216;omega)
theorem la (x y:Str):(x++y).length=x.length+y.length:=Str.length_append x y
theorem Lab.le {x:Str} (h:Lab x):x.length<=2000:=h.2.2
theorem BLab.le {x:Str} (h:BLab x):x.length<=2000:=by rcases h with rfl | h;decide;exact h.le
theorem WX {x:Str} (h:BLab x):(QH x).length<=2000:=by unfold QH;split;decide;exact h.le
theorem Ki {i:Nat} {k t:Str} {ds:List D} {e:Q2} (he:eV i e=some (.tup (.str k::ds))):Q0 D.eqO (Q0 D.ix (eV i) (eC (.int 0))) (eC (.str t)) e=some (.bl (decide (k=t))):=by
 refine Q1 (x:=.str k) (Q1 he rfl ?_) rfl (Ze k t)
 show ((Qu (ds.length+1) 0).bind fun j=>(.str k::ds)[j]?)=_
 unfold Qu
 rw [if_pos (by omega),if_pos (by omega)];rfl
theorem kT {i:Nat} {t:Str} {ds:List D} {e:Q2} (he:eV i e=some (.tup (.str t::ds))):Q0 D.eqO (Q0 D.ix (eV i) (eC (.int 0))) (eC (.str t)) e=some (.bl true):=by rw [Ki he,decide_eq_true rfl]
theorem kF {i:Nat} {k t:Str} {ds:List D} {e:Q2} (he:eV i e=some (.tup (.str k::ds))) (hn:decide (k=t)=false:=by decide):Q0 D.eqO (Q0 D.ix (eV i) (eC (.int 0))) (eC (.str t)) e=some (.bl false):=by rw [Ki he,hn]
theorem W6 {a:Q4} {e:Q2} {x:D} (h:a e=some x):QY (lC a lN) e=some (.lst [x]):=by unfold QY lC lN;rw [h];rfl
theorem Pu {it:Jo} {pre:Str} {xs:List Str} {e:Q2} (hit:it e=some (xs.map .str)) (hp:pre.length<=10) (hx:∀ x∈xs,x.length<=2000) (hl:xs.length<=1000):JV 1 [] it (gS 0) (eC (.bl true)) (Q0 D.add (eC (.str pre)) (eV 0)) e=some (QF (xs.map fun x=>pre++x)):=by
 rw [T2 D.str xs (fun e=>∃ v,e=[v]) (fun _=>true) (fun x=>.str (pre++x)) hit (by show _<=16777216;omega) ⟨none,rfl⟩ (by
  rintro x hm e ⟨v,rfl⟩
  exact ⟨_,rfl,⟨_,rfl⟩,rfl,fun _=>Q1 rfl rfl (JR (by have:=hx x hm;omega))⟩),Xo]
 unfold QF
 rw [List.map_map];rfl
theorem M9 {xs ys:List D} (h:xs.length+ys.length<=2000000):D.add (.lst xs) (.lst ys)=some (.lst (xs++ys)):=if_pos (by show _<=16777216;omega)
theorem Kb {i:It} (h:i.ok):Xl [i.d]=some (QF i.rows):=by
 cases i with
 | word x ns =>
  obtain ⟨⟨⟨_,hx⟩,_⟩,hn,hl⟩:=h
  refine QJ rfl (J1 (QU (kT rfl) (ret (Q1 (x:=.lst [.str ("word "++x)]) (y:=QF (ns.map fun n=>"note "++n)) (W6 (Q1 rfl (Q1 rfl rfl rfl) (JR ?_))) (Pu ?_ (by decide) (fun n hm=>(hn n hm).2) (by omega)) ?_))))
  ·show 5+x.length<=_;omega
  ·exact rfl
  ·rw [show QF (ns.map fun n=>"note "++n)=.lst ((ns.map fun n=>("note "++n:Str)).map .str) from rfl,M9 (by simp;omega)];rfl
 | ref l a b =>
  obtain ⟨hl,⟨⟨_,ha⟩,_⟩,⟨_,hb⟩,_⟩:=h
  have hl:=hl.le
  have e4:("ref ":Str).length=4:=rfl
  have e1:(" ":Str).length=1:=rfl
  have e2:("|":Str).length=1:=rfl
  refine QJ rfl (st (Q9 (kF rfl) rfl) (J1 (QU (kT rfl) (ret (W6 ?_)))))
  refine Q1 (Q1 (Q1 (Q1 (Q1 rfl (Q1 rfl rfl rfl) (JR ?_)) rfl (JR ?_)) (Q1 rfl rfl rfl) (JR ?_)) rfl (JR ?_)) (Q1 rfl rfl rfl) (JR ?_)
  all_goals first | omega | (simp only [la];omega)
 | mark l =>
  have hl:=Lab.le h
  refine QJ rfl (st (Q9 (kF rfl) rfl) (st (Q9 (kF rfl) rfl) (ret (W6 (Q1 (x:=.str "mark ") (Q1 (x:=.str "mark") (Q1 rfl rfl rfl) rfl rfl) (Q1 rfl rfl rfl) (JR ?_))))))
  show 5+l.length<=_;omega
 | key x =>
  have hl:=h.1.2
  refine QJ rfl (st (Q9 (kF rfl) rfl) (st (Q9 (kF rfl) rfl) (ret (W6 (Q1 (x:=.str "key ") (Q1 (x:=.str "key") (Q1 rfl rfl rfl) rfl rfl) (Q1 rfl rfl rfl) (JR ?_))))))
  show 4+x.length<=_;omega
theorem CQ {i:It} (h:i.ok):TR [i.d]=some (QF i.rows):=Kb h
def Bo.lab:Bo->Str
 | .chap _ l | .head _ _ l | .tab _ l | .plat _ l=>l
 | .para _=>""
theorem Bo.lab_ok {b:Bo} (h:b.ok):BLab b.lab:=by
 cases b with
 | chap t l=>exact h.2
 | head t k l=>exact h.2.2
 | tab rs l=>exact h.2.2.2
 | plat n l=>exact h.2.2
 | para is=>exact .inl rfl
theorem Kn (b:Bo):Wz [b.d]=some (.str b.lab):=by
 cases b with
 | para is=>exact QJ rfl (ret (Zw (t:=true) (kT rfl) (fun _=>rfl) fun h=>nomatch h))
 | _=>exact QJ rfl (ret (Zw (t:=false) (kF rfl) (fun h=>nomatch h) fun _=>Q1 rfl (Qi rfl rfl) rfl))
theorem Ue {e:Q2} {b:Bo} (he:eV 0 e=some b.d):YX (Q0 D.eqO (eK Wz (lC (eV 0) lN)) (eC (.str ""))) (eC (.str "-")) (eK Wz (lC (eV 0) lN)) e=some (.str (QH b.lab)):=by
 refine Zw (Q1 (QX he (Kn b)) rfl (Ze _ _)) (fun h=>?_) fun h=>?_
 ·unfold QH;rw [if_pos (of_decide_eq_true h)];rfl
 ·unfold QH;rw [if_neg (of_decide_eq_false h)];exact QX he (Kn b)
theorem X1 {x:Str} (h:x.length<=100000):Yb (.str x)=some x:=if_pos h
theorem KD {n:Nat} (h:n<10^60):Yb (.int n)=some (QV n):=by
 simp only [Yb]
 rw [if_pos ⟨by omega,by omega⟩]
 rfl
theorem VJ {v:Q4} {r:List YM} {e:Q2} {acc x:Str} {d:D} {o:Option Str} (hv:v e=some d) (hx:Yb d=some x) (h:YA r e (acc++x)=o):YA (.inr v::r) e acc=o:=by
 show ((v e).bind fun d=>(Yb d).bind fun x=>YA r e (acc++x))=o
 rw [hv]
 show (Yb d).bind _=o
 rw [hx];exact h
theorem VL {a:Str} {r:List YM} {e:Q2} {acc:Str} {o:Option Str} (h:YA r e (acc++a)=o):YA (.inl a::r) e acc=o:=h
theorem Ta {ps:List YM} {e:Q2} {x:Str} (h:YA ps e Str.empty=some x):Vx ps e=some (.str x):=by unfold Vx;rw [h];rfl
theorem Ttl.le {x:Str} (h:Ttl x):x.length<=2000:=h.1.2
theorem em (x:Str):Str.empty++x=x:=Str.empty_append x
theorem DB {b:Bo} (h:b.ok):P9 [b.d]=some (.str b.first):=by
 have tl:=WX (Bo.lab_ok h)
 cases b with
 | chap t l =>
  have t2:=h.1.le
  have tl:(QH l).length<=2000:=tl
  refine QJ rfl (st (QG (Q1 rfl rfl rfl) rfl) (st (QG (Q1 rfl rfl rfl) rfl) (st (QG (Ue (b:=.chap t l) rfl) rfl) (J1 (QU (Q1 rfl rfl rfl) (ret (Ta ?_)))))))
  refine VL (VJ rfl (X1 ?_) (VL (VJ rfl (X1 (by omega)) ?_)))
  ·show (QH l).length<=_;omega
  ·rw [em];rfl
 | head t k l =>
  have t2:=h.1.le
  have tl:(QH l).length<=2000:=tl
  refine QJ rfl (st (QG (Q1 rfl rfl rfl) rfl) (st (QG (Q1 rfl rfl rfl) rfl) (st (QG (Ue (b:=.head t k l) rfl) rfl) (st (Q9 (Q1 rfl rfl rfl) rfl) (J1 (QU (Q1 rfl rfl rfl) (st (QG (Q1 rfl rfl rfl) rfl) (ret (Ta ?_)))))))))
  refine VL (VJ rfl (KD h.2.1) (VL (VJ rfl (X1 ?_) (VL (VJ rfl (X1 (by omega)) ?_)))))
  ·show (QH l).length<=_;omega
  ·rw [em];rfl
 | tab rs l =>
  have tl:(QH l).length<=2000:=tl
  refine QJ rfl (st (QG (Q1 rfl rfl rfl) rfl) (st (QG (Q1 rfl rfl rfl) rfl) (st (QG (Ue (b:=.tab rs l) rfl) rfl) (st (Q9 (Q1 rfl rfl rfl) rfl) (st (Q9 (Q1 rfl rfl rfl) rfl) (st (Q9 (Q1 rfl rfl rfl) rfl) (ret (Zw (t:=true) (Q1 rfl rfl rfl) (fun _=>Ta ?_) fun h=>nomatch h))))))))
  refine VL (VJ rfl (X1 ?_) ?_)
  ·show (QH l).length<=_;omega
  ·rw [em];rfl
 | plat n l =>
  have tl:(QH l).length<=2000:=tl
  refine QJ rfl (st (QG (Q1 rfl rfl rfl) rfl) (st (QG (Q1 rfl rfl rfl) rfl) (st (QG (Ue (b:=.plat n l) rfl) rfl) (st (Q9 (Q1 rfl rfl rfl) rfl) (st (Q9 (Q1 rfl rfl rfl) rfl) (J1 (QU (Q1 rfl rfl rfl) (ret (Ta ?_)))))))))
  refine VL (VJ rfl (KD h.2.1) (VL (VJ rfl (X1 ?_) ?_)))
  ·show (QH l).length<=_;omega
  ·rw [em];rfl
 | para is =>
  exact QJ rfl (st (QG (Q1 rfl rfl rfl) rfl) (st (QG (Q1 rfl rfl rfl) rfl) (st (QG (Ue (b:=.para is) rfl) rfl) (st (Q9 (Q1 rfl rfl rfl) rfl) (st (Q9 (Q1 rfl rfl rfl) rfl) (st (Q9 (Q1 rfl rfl rfl) rfl) (ret (Zw (t:=false) (Q1 rfl rfl rfl) (fun h=>nomatch h) fun _=>rfl))))))))
theorem M7 {α V:Type} {g:Qw} {b:Q8} (d:α->D) (f:α->List D) (M B:Nat) (E:List D->V->Q2):∀ (xs:List α) (acc:List D) (v:V),(∀ a∈xs,(f a).length<=B)->acc.length+xs.length*B<=M ->
  (∀ a∈xs,∀ acc v,acc.length+(f a).length<=M->∃ v',(g (d a) (E acc v)).bind b=some (.nx (E (acc++f a) v')))->∃ v',ZM g b (xs.map d) (E acc v)=some (.nx (E (acc++xs.flatMap f) v'))
 | [],acc,v,_,_,_=>⟨v,by rw [List.flatMap_nil,List.append_nil];rfl⟩
 | a::xs,acc,v,hB,hM,hb=>by
  rw [List.length_cons,Nat.add_mul] at hM
  have ha:=hB a List.mem_cons_self
  obtain ⟨v1,h1⟩:=hb a List.mem_cons_self acc v (by omega)
  obtain ⟨v2,h2⟩:=M7 d f M B E xs (acc++f a) v1 (fun x hx=>hB x (List.mem_cons_of_mem _ hx)) (by rw [List.length_append];omega) fun x hx=>hb x (List.mem_cons_of_mem _ hx)
  refine ⟨v2,?_⟩
  show Z6 ((g (d a) (E acc v)).bind b) (ZM g b (xs.map d))=_
  rw [h1,List.flatMap_cons,<- List.append_assoc]
  exact h2
theorem Wg {α V:Type} {it:Jo} {g:Qw} {b:Q8} {e:Q2} (d:α->D) (f:α->List D) (M B:Nat) (E:List D->V->Q2) (xs:List α) (acc:List D) (v:V) (he:e=E acc v) (hit:it e=some (xs.map d)) (hB:∀ a∈xs,(f a).length<=B) (hM:acc.length+xs.length*B<=M)
  (hb:∀ a∈xs,∀ acc v,acc.length+(f a).length<=M->∃ v',(g (d a) (E acc v)).bind b=some (.nx (E (acc++f a) v'))):∃ v',Qq it g b e=some (.nx (E (acc++xs.flatMap f) v')):=by
 obtain ⟨v',h⟩:=M7 d f M B E xs acc v hB hM hb
 refine ⟨v',?_⟩
 unfold Qq
 rw [hit,he];exact h
theorem Ou {α V:Type} {it:Jo} {g:Qw} {b k:Q8} {e:Q2} {r:Option Fl} (d:α->D) (f:α->List D) (M B:Nat) (E:List D->V->Q2) (xs:List α) (acc:List D) (v:V) (he:e=E acc v) (hit:it e=some (xs.map d)) (hB:∀ a∈xs,(f a).length<=B) (hM:acc.length+xs.length*B<=M)
  (hb:∀ a∈xs,∀ acc v,acc.length+(f a).length<=M->∃ v',(g (d a) (E acc v)).bind b=some (.nx (E (acc++f a) v'))) (hk:∀ v,k (E (acc++xs.flatMap f) v)=r):sQ (Qq it g b) k e=r:=by
 obtain ⟨v',h⟩:=Wg d f M B E xs acc v he hit hB hM hb
 exact st h (hk v')
theorem P2 {xs ys:List D} (h:xs.length+ys.length<=2000000):D.ext (.lst xs) (.lst ys)=some (.lst (xs++ys)):=if_pos (by show _<=16777216;omega)
theorem LP {xs ys:List D} (h:xs.length+ys.length<=2000000):D.cat (.lst xs) (.lst ys)=some (.lst (xs++ys)):=if_pos (by show _<=16777216;omega)
theorem JE {xs:List D} {d:D} (h:xs.length+1<=2000000):D.app (.lst xs) d=some (.lst (xs++[d])):=if_pos (by show _<16777216;omega)
def sD (xs:List Str):List D:=xs.map .str
theorem Yh (xs:List Str):(sD xs).length=xs.length:=List.length_map ..
theorem QaL (xs ys:List Str):sD (xs++ys)=sD xs++sD ys:=List.map_append
theorem SH {α:Type} (f:α->List Str) (xs:List α):xs.flatMap (fun a=>sD (f a))=sD (xs.flatMap f):=by unfold sD;rw [List.map_flatMap]
theorem It.rows_len {i:It} (h:i.ok):i.rows.length<=101:=by
 cases i with
 | word x ns=>have:=h.2.2;simp [It.rows];omega
 | _=>simp [It.rows]
theorem PN {α:Type} {f:α->List Str} {B:Nat}:∀ {xs:List α},(∀ a∈xs,(f a).length<=B)->(xs.flatMap f).length<=xs.length*B
 | [],_=>by simp
 | a::xs,h=>by
  have h1:=h a List.mem_cons_self
  have h2:=PN (xs:=xs) fun x hx=>h x (List.mem_cons_of_mem _ hx)
  rw [List.flatMap_cons,List.length_append,List.length_cons,Nat.add_mul];omega
theorem Bo.rows_len {b:Bo} (h:b.ok):b.rows.length<=10101:=by
 cases b with
 | para is =>
  have h1:=PN (xs:=is) (f:=It.rows) fun i hi=>It.rows_len (h.1 i hi)
  have h2:=h.2
  show (is.flatMap It.rows).length+1<=_
  have:is.length*101<=100*101:=Nat.mul_le_mul_right _ h2
  omega
 | tab rs l=>have:=h.2.2.1;simp [Bo.rows,Bo.more];omega
 | _=>simp [Bo.rows,Bo.more]
def Bo.items:Bo->List It
 | .para is=>is
 | _=>[]
theorem Dy (b:Bo):Xm [b.d]=some (.lst (b.items.map It.d)):=by
 cases b with
 | para is=>exact QJ rfl (ret (Zw (t:=true) (kT rfl) (fun _=>Q1 rfl rfl rfl) fun h=>nomatch h))
 | _=>exact QJ rfl (ret (Zw (t:=false) (kF rfl) (fun h=>nomatch h) fun _=>rfl))
theorem Bo.items_ok {b:Bo} (h:b.ok):(∀ i∈b.items,i.ok)/\b.items.length<=100:=by
 cases b with
 | para is=>exact h
 | _=>exact ⟨fun i hi=>(by cases hi),Nat.zero_le _⟩
theorem Gi {b:Bo} (h:b.ok):Wx [b.d]=some (QF b.rows):=by
 have fin:∀ (acc:List Str) (rest:List Str),acc.length<=101->acc++b.items.flatMap It.rows=b.rows->sQ (Qq (JP (eK Xm (lC (eV 0) lN))) (gS 2) (YI 1 (eK Xl (lC (eV 2) lN)))) (QC (eV 1)) [some b.d,some (.lst (sD acc)),none]=some (.rt (QF b.rows)):=fun acc rest ha hr=>by
  obtain ⟨hi,hl⟩:=Bo.items_ok h
  obtain ⟨v',e⟩:=Wg (it:=JP (eK Xm (lC (eV 0) lN))) (g:=gS 2) (b:=YI 1 (eK Xl (lC (eV 2) lN))) (e:=[some b.d,some (.lst (sD acc)),none]) It.d (fun i=>sD i.rows) 100000 101 (fun l (v:Option D)=>[some b.d,some (.lst l),v]) b.items (sD acc) none rfl (by
    unfold JP
    rw [QX (x:=b.d) rfl (Dy b)];rfl) (fun i hm=>by rw [Yh];exact It.rows_len (hi i hm)) (by rw [Yh];have:b.items.length*101<=100*101:=Nat.mul_le_mul_right _ hl;omega) fun i hm l v hb=>⟨some i.d,Je (e1:=[some b.d,some (.lst l),some i.d]) rfl (P4 rfl (QX rfl (Kb (hi i hm))) (P2 (ys:=sD i.rows) (by omega)))⟩
  refine st e (ret ?_)
  show some (D.lst _)=_
  rw [SH,<- QaL,hr];rfl
 refine QJ rfl (st (QG (W6 (QX rfl (DB h))) rfl) ?_)
 cases b with
 | tab rs l =>
  refine st (QU (kT rfl) (P4 rfl (Pu (xs:=rs) rfl (by decide) (fun r hr=>(h.1 r hr).2) (by have:=h.2.2.1;omega)) (P2 (ys:=sD (rs.map fun r=>"row "++r)) (by rw [Yh,List.length_map];have:=h.2.2.1;simp;omega)))) ?_
  exact fin ((Bo.tab rs l).first::rs.map fun r=>"row "++r) [] (by have:=h.2.2.1;simp;omega) (by simp [Bo.items,Bo.rows,Bo.more])
 | para is=>exact st (Q9 (kF rfl) rfl) (fin [(Bo.para is).first] [] (by simp) rfl)
 | chap t l=>exact st (Q9 (kF rfl) rfl) (fin [(Bo.chap t l).first] [] (by simp) rfl)
 | head t k l=>exact st (Q9 (kF rfl) rfl) (fin [(Bo.head t k l).first] [] (by simp) rfl)
 | plat n l=>exact st (Q9 (kF rfl) rfl) (fin [(Bo.plat n l).first] [] (by simp) rfl)
abbrev ZE (bs:List Bo):Prop:=(∀ b∈bs,b.ok)/\bs.length<=100
def QW (bs:List Bo):List Str:=bs.flatMap Bo.rows
def Jq (x:Str):Bool:=Txt.startswith x "ref "&&decide (1<(cs x).count 124)
def JA:Nat->List Str->Int
 | _,[]=>-1
 | n,x::xs=>if Jq x=true then n else JA (n+1) xs
theorem L8 {a:Q4} {e:Q2} {x:Str} (ha:a e=some (.str x)):QP (Q0 (QS JK) a (eC (.str "ref "))) (Q0 D.gt (Q0 (QS Z0) a (eC (.str "|"))) (eC (.int 1))) e=some (.bl (Jq x)):=by
 have h1:Q0 (QS JK) a (eC (.str "ref ")) e=some (.bl (Txt.startswith x "ref ")):=Q1 ha rfl rfl
 have h2:Q0 D.gt (Q0 (QS Z0) a (eC (.str "|"))) (eC (.int 1)) e=some (.bl (decide (1<(cs x).count 124))):=by
  refine Q1 (x:=.int ((cs x).count 124:Nat)) (Q1 (y:=.str ⟨#[124]⟩) ha rfl ?_) rfl ?_
  ·show some (D.int (Txt.count x ⟨#[124]⟩))=_
   rw [Lb]
  ·show some (D.bl (decide ((1:Int)<((cs x).count 124:Nat))))=_
   congr 2
   exact decide_eq_decide.mpr (by omega)
 unfold Jq
 cases hs:Txt.startswith x "ref " with
 | true=>rw [hs] at h1;rw [J2 h1 h2];rfl
 | false=>rw [hs] at h1;rw [YN h1];rfl
theorem HM {bs:List Bo} (h:ZE bs):(QW bs).length<=1010100:=by
 have h1:=PN (xs:=bs) (f:=Bo.rows) fun b hb=>Bo.rows_len (h.1 b hb)
 have:bs.length*10101<=100*10101:=Nat.mul_le_mul_right _ h.2
 unfold QW;omega
theorem G6 {bs:List Bo} (h:ZE bs) (a b:Option D):∃ v,Qq (JP (eV 0)) (gS 2) (YI 1 (eK Wx (lC (eV 2) lN))) [some (.lst (bs.map Bo.d)),some (.lst []),none,a,b]=some (.nx [some (.lst (bs.map Bo.d)),some (QF (QW bs)),v,a,b]):=by
 obtain ⟨v',e⟩:=Wg (it:=JP (eV 0)) (g:=gS 2) (b:=YI 1 (eK Wx (lC (eV 2) lN))) (e:=[some (.lst (bs.map Bo.d)),some (.lst []),none,a,b]) Bo.d (fun i=>sD i.rows) 1100000 10101 (fun l (v:Option D)=>[some (.lst (bs.map Bo.d)),some (.lst l),v,a,b]) bs [] none rfl rfl (fun i hm=>by rw [Yh];exact Bo.rows_len (h.1 i hm)) (by
  have:bs.length*10101<=100*10101:=Nat.mul_le_mul_right _ h.2
  simp only [List.length_nil];omega) fun i hm l v hb=>⟨some i.d,Je (e1:=[some (.lst (bs.map Bo.d)),some (.lst l),some i.d,a,b]) rfl (P4 rfl (QX rfl (Gi (h.1 i hm))) (P2 (ys:=sD i.rows) (by omega)))⟩
 refine ⟨v',?_⟩
 rw [e,List.nil_append,SH];rfl
theorem RY {A B C:Option D} (z:Q8):∀ (xs:List Str) (n:Nat) (a b:Option D),(JA n xs=-1->∃ a' b',ZM (Jt [gS 3,gS 4]) (QD (QP (Q0 (QS JK) (eV 4) (eC (.str "ref "))) (Q0 D.gt (Q0 (QS Z0) (eV 4) (eC (.str "|"))) (eC (.int 1)))) z QK) (Zu n (xs.map .str)) [A,B,C,a,b]=some (.nx [A,B,C,a',b'])) /\
  (∀ k:Nat,JA n xs=k->(∀ x,z [A,B,C,some (.int k),some (.str x)]=some (.rz 6 (.int k)))->ZM (Jt [gS 3,gS 4]) (QD (QP (Q0 (QS JK) (eV 4) (eC (.str "ref "))) (Q0 D.gt (Q0 (QS Z0) (eV 4) (eC (.str "|"))) (eC (.int 1)))) z QK) (Zu n (xs.map .str)) [A,B,C,a,b]=some (.rz 6 (.int k)))
 | [],n,a,b=>⟨fun _=>⟨a,b,rfl⟩,fun k h=>by simp [JA] at h⟩
 | x::xs,n,a,b=>by
  have hc:=L8 (a:=eV 4) (e:=[A,B,C,some (.int n),some (.str x)]) (x:=x) rfl
  have go:∀ r k,(QD (QP (Q0 (QS JK) (eV 4) (eC (.str "ref "))) (Q0 D.gt (Q0 (QS Z0) (eV 4) (eC (.str "|"))) (eC (.int 1)))) z QK [A,B,C,some (.int n),some (.str x)])=r->Z6 r k=Z6 ((Jt [gS 3,gS 4] (.tup [.int n,.str x]) [A,B,C,a,b]).bind (QD (QP (Q0 (QS JK) (eV 4) (eC (.str "ref "))) (Q0 D.gt (Q0 (QS Z0) (eV 4) (eC (.str "|"))) (eC (.int 1)))) z QK)) k:=fun r k h=>by
   show _=Z6 (QD _ _ _ [A,B,C,some (.int n),some (.str x)]) k
   rw [h]
  have ih:=RY (A:=A) (B:=B) (C:=C) z xs (n+1) (some (.int n)) (some (.str x))
  cases hb:Jq x with
  | true =>
   have e:JA n (x::xs)=n:=by rw [JA,if_pos hb]
   refine ⟨fun h=>by rw [e] at h;omega,fun k h hz=>?_⟩
   rw [e] at h
   have hk:n=k:=by omega
   subst hk
   show Z6 ((Jt [gS 3,gS 4] (.tup [.int n,.str x]) [A,B,C,a,b]).bind _) _=_
   rw [<- go _ _ (QU (by rw [hc,hb]) (hz x))];rfl
  | false =>
   have e:JA n (x::xs)=JA (n+1) xs:=by rw [JA,if_neg (by rw [hb];decide)]
   have step:∀ k,Z6 ((Jt [gS 3,gS 4] (.tup [.int n,.str x]) [A,B,C,a,b]).bind (QD (QP (Q0 (QS JK) (eV 4) (eC (.str "ref "))) (Q0 D.gt (Q0 (QS Z0) (eV 4) (eC (.str "|"))) (eC (.int 1)))) z QK)) k=k [A,B,C,some (.int n),some (.str x)]:=fun k=>by
    rw [<- go _ k (Q9 (by rw [hc,hb]) rfl)];rfl
   refine ⟨fun h=>?_,fun k h hz=>?_⟩
   ·obtain ⟨a',b',h1⟩:=ih.1 (by rw [<- e];exact h)
    refine ⟨a',b',?_⟩
    show Z6 _ _=_
    rw [step];exact h1
   ·have h1:=ih.2 k (by rw [<- e];exact h) hz
    show Z6 _ _=_
    rw [step];exact h1
theorem Qcp {bs:List Bo} (h:ZE bs) (hb:JA 0 (QW bs)=-1):VI [.lst (bs.map Bo.d)]=some (QF (QW bs)):=by
 obtain ⟨v,e⟩:=G6 h none none
 refine QJ rfl (st (QG (e1:=[some (.lst (bs.map Bo.d)),some (.lst []),none,none,none]) rfl rfl) (st e ?_))
 obtain ⟨a',b',h1⟩:=(RY (A:=some (.lst (bs.map Bo.d))) (B:=some (QF (QW bs))) (C:=v) UZ (QW bs) 0 none none).1 hb
 have h2:UY 1 (Qq (Yy (eV 1)) (Jt [gS 3,gS 4]) (QD (QP (Q0 (QS JK) (eV 4) (eC (.str "ref "))) (Q0 D.gt (Q0 (QS Z0) (eV 4) (eC (.str "|"))) (eC (.int 1)))) UZ QK)) [some (.lst (bs.map Bo.d)),some (QF (QW bs)),v,none,none]=some (.nx [none,some (QF (QW bs)),none,none,none]):=by
  unfold UY
  have h3:Qq (Yy (eV 1)) (Jt [gS 3,gS 4]) (QD (QP (Q0 (QS JK) (eV 4) (eC (.str "ref "))) (Q0 D.gt (Q0 (QS Z0) (eV 4) (eC (.str "|"))) (eC (.int 1)))) UZ QK) [some (.lst (bs.map Bo.d)),some (QF (QW bs)),v,none,none]=some (.nx [some (.lst (bs.map Bo.d)),some (QF (QW bs)),v,a',b']):=h1
  rw [h3]
  rfl
 exact st h2 (ret rfl)
theorem Qas {c:Nat} {a:Q4} {e:Q2} {d:D} {r:Option Fl} (ha:a e=some d) (h:D.blkO c d=r):WS c a e=r:=by unfold WS;rw [ha];exact h
theorem Gf {k:Nat} (hk:k<10^60):D.blkO 6 (.int k)=some (.rz 6 (.int k)):=by
 simp only [D.blkO]
 rw [if_pos ⟨by omega,by omega⟩]
theorem Qcq {bs:List Bo} (h:ZE bs) {k:Nat} (hb:JA 0 (QW bs)=k) (hk:k<10^60):W3 [.lst (bs.map Bo.d)]=some (.inr (6,.int k)):=by
 obtain ⟨v,e⟩:=G6 h none none
 have hz:∀ x,WS 6 (eV 3) [some (.lst (bs.map Bo.d)),some (QF (QW bs)),v,some (.int k),some (.str x)]=some (.rz 6 (.int k)):=fun x=>Qas rfl (Gf hk)
 have h1:=(RY (A:=some (.lst (bs.map Bo.d))) (B:=some (QF (QW bs))) (C:=v) (WS 6 (eV 3)) (QW bs) 0 none none).2 k hb hz
 have h2:RX (Ja 5 [.lst (bs.map Bo.d)])=some (.rz 6 (.int k)):=by
  refine st (QG (e1:=[some (.lst (bs.map Bo.d)),some (.lst []),none,none,none]) rfl rfl) (st e ?_)
  unfold sQ
  have h3:Qq (Yy (eV 1)) (Jt [gS 3,gS 4]) (QD (QP (Q0 (QS JK) (eV 4) (eC (.str "ref "))) (Q0 D.gt (Q0 (QS Z0) (eV 4) (eC (.str "|"))) (eC (.int 1)))) (WS 6 (eV 3)) QK) [some (.lst (bs.map Bo.d)),some (QF (QW bs)),v,none,none]=some (.rz 6 (.int k)):=h1
  rw [h3];rfl
 unfold W3 Wn
 rw [if_pos (show [D.lst (bs.map Bo.d)].length=1 from rfl),h2]
theorem Tq (l:Str):Ww [.str l]=some (.str (QH l)):=by
 by_cases h:l=""
 ·subst h;exact QJ rfl (J1 (QU (Q1 rfl rfl rfl) rfl))
 ·refine QJ rfl (st (Q9 (Q1 rfl rfl (by rw [Ze,decide_eq_false h])) rfl) ?_)
  unfold QH;rw [if_neg h];rfl
theorem Hl {k:Nat} (h:k<10^60):D.strI (.int k)=some (.str (QV k)):=by
 simp only [D.strI]
 rw [if_pos (show (k:Int).natAbs<2^1900 from Nat.lt_trans (show (k:Int).natAbs<10^60 from h) (by decide +kernel))]
 rfl
theorem Ku {a b c d:Q4} {e:Q2} {x y z u:D} (ha:a e=some x) (hb:b e=some y) (hc:c e=some z) (hd:d e=some u):QY (lC a (lC b (lC c (lC d lN)))) e=some (.lst [x,y,z,u]):=by unfold QY lC lN;rw [ha,hb,hc,hd];rfl
theorem C8 {a b c d:Str} (ha:a.length<=10000) (hb:b.length<=10000) (hc:c.length<=10000) (hd:d.length<=10000):D.joinS " " (.lst [.str a,.str b,.str c,.str d])=some (.str (Str.join " " [a,b,c,d])):=by
 show (if [a,b,c,d].length<=100/\∀ y∈[a,b,c,d],y.length<=10000 then some (D.str (Str.join " " [a,b,c,d])) else none)=_
 rw [if_pos ⟨by simp,by simp [ha,hb,hc,hd]⟩]
theorem C9 (a b c d:Str):Str.join " " [a,b,c,d]=a++" "++b++" "++c++" "++d:=by
 show a++" "++(b++" "++(c++" "++d))=_
 simp only [Str.append_assoc]
theorem Kp {bs:List Bo} (h:ZE bs):Xj [.lst (bs.map Bo.d)]=some (QF (QW bs)):=by
 refine QJ rfl (st (QG (e1:=[some (.lst (bs.map Bo.d)),some (.lst []),none,none]) rfl rfl) ?_)
 refine Ou (V:=Option D×Option D) Bo.d (fun i=>sD i.rows) 1100000 10101 (fun l v=>[some (.lst (bs.map Bo.d)),some (.lst l),v.1,v.2]) bs [] (none,none) rfl rfl (fun i hm=>by rw [Yh];exact Bo.rows_len (h.1 i hm)) (by
  have:bs.length*10101<=100*10101:=Nat.mul_le_mul_right _ h.2
  simp only [List.length_nil];omega) (fun b hm l v hb=>?_) fun v=>by
   rw [List.nil_append,SH];rfl
 ·have ok:=h.1 b hm
  have tl:=WX (Bo.lab_ok ok)
  have skip:∀ {c:Q4} {a k:Q8} {e:Q2} {r:Option Fl},c e=some (.bl false)->k e=r->sQ (QD c a QK) k e=r:=fun hc hk=>st (Q9 hc rfl) hk
  have h1r:1<=(sD b.rows).length:=by rw [Yh];simp [Bo.rows]
  have lim:l.length+1<=2000000:=by omega
  cases b with
  | chap t lb =>
   have t2:=ok.1.le
   have tl:(QH lb).length<=2000:=tl
   have e8:("chapter ":Str).length=8:=rfl
   have e1:(" ":Str).length=1:=rfl
   refine ⟨(some (Bo.chap t lb).d,v.2),Je (e1:=[some (.lst (bs.map Bo.d)),some (.lst l),some (Bo.chap t lb).d,v.2]) rfl ?_⟩
   refine st (QU (kT rfl) (JB rfl (Q1 (Q1 (Q1 rfl (QX (Q1 rfl rfl rfl) (Tq lb)) (JR (by omega))) rfl (JR (by rw [la];omega))) (Q1 rfl rfl rfl) (JR (by rw [la,la];omega))) (JE lim))) ?_
   exact skip (kF rfl) (skip (kF rfl) (skip (kF rfl) (Q9 (kF rfl) rfl)))
  | head t k lb =>
   have t2:=ok.1.le
   have tl:(QH lb).length<=2000:=tl
   have nl:=V4 ok.2.1
   refine ⟨(some (Bo.head t k lb).d,v.2),Je (e1:=[some (.lst (bs.map Bo.d)),some (.lst l),some (Bo.head t k lb).d,v.2]) rfl (skip (kF rfl) ?_)⟩
   refine st (QU (kT rfl) (JB rfl (Qi (Ku rfl (Qi (Q1 rfl rfl rfl) (Hl ok.2.1)) (QX (Q1 rfl rfl rfl) (Tq lb)) (Q1 rfl rfl rfl)) (C8 (by decide) (by omega) (by omega) (by omega))) (JE lim))) ?_
   refine skip (kF rfl) (skip (kF rfl) (Q9 (kF rfl) ?_))
   rw [C9];rfl
  | plat n lb =>
   have tl:(QH lb).length<=2000:=tl
   have nl:=V4 ok.2.1
   have e8:("plates ":Str).length=7:=rfl
   have e1:(" ":Str).length=1:=rfl
   refine ⟨(some (Bo.plat n lb).d,v.2),Je (e1:=[some (.lst (bs.map Bo.d)),some (.lst l),some (Bo.plat n lb).d,v.2]) rfl (skip (kF rfl) (skip (kF rfl) ?_))⟩
   refine st (QU (kT rfl) (JB rfl (Q1 (Q1 (Q1 rfl (Qi (Q1 rfl rfl rfl) (Hl ok.2.1)) (JR (by omega))) rfl (JR (by rw [la];omega))) (QX (Q1 rfl rfl rfl) (Tq lb)) (JR (by rw [la,la];omega))) (JE lim))) ?_
   exact skip (kF rfl) (Q9 (kF rfl) rfl)
  | tab rs lb =>
   have tl:(QH lb).length<=2000:=tl
   have e8:("table ":Str).length=6:=rfl
   refine ⟨(some (Bo.tab rs lb).d,v.2),Je (e1:=[some (.lst (bs.map Bo.d)),some (.lst l),some (Bo.tab rs lb).d,v.2]) rfl (skip (kF rfl) (skip (kF rfl) (skip (kF rfl) ?_)))⟩
   refine st (QU (kT rfl) (st (JB rfl (Q1 rfl (QX (Q1 rfl rfl rfl) (Tq lb)) (JR (by omega))) (JE lim)) (QG (Q1 rfl (Pu (xs:=rs) rfl (by decide) (fun r hr=>(ok.1 r hr).2) (by have:=ok.2.2.1;omega)) (LP (ys:=sD (rs.map fun r=>"row "++r)) ?_)) rfl))) (Q9 (kF rfl) ?_)
   ·have:(sD (Bo.tab rs lb).rows).length=(sD (rs.map fun r=>("row "++r:Str))).length+1:=by rw [Yh,Yh];rfl
    rw [List.length_append,List.length_singleton];omega
   ·show some (Fl.nx [_,some (.lst (l++[.str ("table "++QH lb)]++sD (rs.map fun r=>"row "++r))),_,_])=_
    rw [List.append_assoc];rfl
  | para is =>
   have il:=ok.2
   have lsum:l.length+1+is.length*101<=1200000:=by
    have h1:(sD (Bo.para is).rows).length<=10101:=by rw [Yh];exact Bo.rows_len ok
    have h2:is.length*101<=100*101:=Nat.mul_le_mul_right _ il
    omega
   obtain ⟨w,hw⟩:=Wg (V:=Option D) (it:=JP (Q0 D.ix (eV 2) (eC (.int 1)))) (g:=gS 3) (b:=QE (Q0 D.cat (eV 1) (eK TR (lC (eV 3) lN))) (gS 1)) (e:=[some (.lst (bs.map Bo.d)),some (.lst (l++[.str "para"])),some (Bo.para is).d,v.2]) It.d (fun i=>sD i.rows) 1200000 101 (fun l v=>[some (.lst (bs.map Bo.d)),some (.lst l),some (Bo.para is).d,v]) is (l++[.str "para"]) v.2 rfl rfl (fun i hm=>by rw [Yh];exact It.rows_len (ok.1 i hm)) (by rw [List.length_append,List.length_singleton];exact lsum) fun i hm l v hb=>⟨some i.d,Je (e1:=[some (.lst (bs.map Bo.d)),some (.lst l),some (Bo.para is).d,some i.d]) rfl (QG (Q1 rfl (QX rfl (CQ (ok.1 i hm))) (LP (ys:=sD i.rows) (by omega))) rfl)⟩
   refine ⟨(some (Bo.para is).d,w),Je (e1:=[some (.lst (bs.map Bo.d)),some (.lst l),some (Bo.para is).d,v.2]) rfl (skip (kF rfl) (skip (kF rfl) (skip (kF rfl) (skip (kF rfl) (QU (kT rfl) (st (JB rfl rfl (JE lim)) ?_))))))⟩
   rw [show (l++sD (Bo.para is).rows)=l++[.str "para"]++is.flatMap (fun i=>sD i.rows) by rw [SH,List.append_assoc];rfl]
   exact hw
theorem Pa {xs:List D} {i:Nat} {d:D} (h:xs[i]?=some d):D.ix (.lst xs) (.int (0+(i:Int)))=some d:=by
 have hi:=(List.getElem?_eq_some_iff.mp h).1
 show ((Qu xs.length (0+(i:Int))).bind fun k=>xs[k]?)=_
 unfold Qu
 rw [if_pos (by omega),if_pos (by omega)]
 show xs[(0+(i:Int)).toNat]?=_
 rw [show (0+(i:Int)).toNat=i by omega];exact h
theorem LA (xs:List Str):∀ (m i:Nat) (v:Option D),i+m=xs.length->∃ v',ZM (gS 1) (QD (QP (Q0 (QS JK) (Q0 D.ix (eV 0) (eV 1)) (eC (.str "ref "))) (Q0 D.gt (Q0 (QS Z0) (Q0 D.ix (eV 0) (eV 1)) (eC (.str "|"))) (eC (.int 1)))) (QC (eV 1)) QK) ((List.range' i m).map fun j:Nat=>D.int (0+(j:Int))) [some (QF xs),v] =
  if JA i (xs.drop i)=-1 then some (.nx [some (QF xs),v']) else some (.rt (.int (JA i (xs.drop i))))
 | 0,i,v,h=>⟨v,by rw [List.drop_eq_nil_of_le (by omega),JA,if_pos rfl];rfl⟩
 | m+1,i,v,h=>by
  have hi:i<xs.length:=by omega
  obtain ⟨v',ih⟩:=LA xs m (i+1) (some (.int (0+(i:Int)))) (by omega)
  refine ⟨v',?_⟩
  rw [List.drop_eq_getElem_cons hi,JA,List.range'_succ,List.map_cons]
  have hc:=L8 (a:=Q0 D.ix (eV 0) (eV 1)) (e:=[some (QF xs),some (.int (0+(i:Int)))]) (x:=xs[i]) (Q1 rfl rfl (Pa (by rw [List.getElem?_map,List.getElem?_eq_getElem hi];rfl)))
  show Z6 (QD _ _ _ [some (QF xs),some (.int (0+(i:Int)))]) _=_
  cases hb:Jq xs[i] with
  | true =>
   rw [QU (by rw [hc,hb]) (ret rfl),if_pos rfl,if_neg (by omega),show (0+(i:Int))=i by omega];rfl
  | false =>
   rw [Q9 (by rw [hc,hb]) rfl]
   simp only [Bool.false_eq_true,if_false]
   exact ih
theorem Ga {xs:List Str} (hl:xs.length<=2000000):TM [QF xs]=some (.int (JA 0 xs)):=by
 obtain ⟨v',h⟩:=LA xs xs.length 0 none (by omega)
 rw [List.drop_zero] at h
 have hit:JI (QA D.len (eV 0)) [some (QF xs),none]=some ((List.range' 0 xs.length).map fun j:Nat=>D.int (0+(j:Int))):=by
  have h1:QA D.len (eV 0) [some (QF xs),none]=some (.int (xs.length:Nat)):=Qi rfl (by show some (D.int ((xs.map D.str).length:Nat))=_;rw [List.length_map])
  unfold JI
  rw [h1]
  show (if ((xs.length:Nat):Int).natAbs<4611686018427387904 then some (rD 0 ((xs.length:Nat):Int).toNat) else none)=_
  rw [if_pos (by omega)]
  unfold rD
  rw [Int.toNat_natCast,List.range_eq_range']
 have hf:Qq (JI (QA D.len (eV 0))) (gS 1) (QD (QP (Q0 (QS JK) (Q0 D.ix (eV 0) (eV 1)) (eC (.str "ref "))) (Q0 D.gt (Q0 (QS Z0) (Q0 D.ix (eV 0) (eV 1)) (eC (.str "|"))) (eC (.int 1)))) (QC (eV 1)) QK) [some (QF xs),none]=if JA 0 xs=-1 then some (.nx [some (QF xs),v']) else some (.rt (.int (JA 0 xs))):=by
  unfold Qq
  rw [hit];exact h
 by_cases hb:JA 0 xs=-1
 ·rw [if_pos hb] at hf
  rw [hb]
  exact QJ rfl (st hf (ret (Qi rfl rfl)))
 ·rw [if_neg hb] at hf
  exact QJ rfl (J1 hf)
theorem L7:∀ (xs:List Str) (n:Nat),JA n xs=-1\/∃ k:Nat,JA n xs=k/\k<n+xs.length
 | [],n=>.inl rfl
 | x::xs,n=>by
  rw [JA]
  split
  ·exact .inr ⟨n,rfl,by simp⟩
  ·rcases L7 xs (n+1) with h | ⟨k,h,hk⟩
   ·exact .inl h
   ·exact .inr ⟨k,h,by rw [List.length_cons];omega⟩
theorem La {bs:List Bo} (h:ZE bs):TN [.lst (bs.map Bo.d)]=some (.lst (bs.map Bo.d)):=by
 refine QJ rfl (st (QG (e1:=[some (.lst (bs.map Bo.d)),some (.lst []),none,none,none]) rfl rfl) ?_)
 refine Ou (V:=Option D×Option D×Option D) Bo.d (fun i=>[i.d]) 100000 1 (fun l v=>[some (.lst (bs.map Bo.d)),some (.lst l),v.1,v.2.1,v.2.2]) bs [] (none,none,none) rfl rfl (fun i hm=>by simp) (by have:=h.2;simp;omega) (fun b hm l v hb=>?_) fun v=>?_
 ·have ok:=h.1 b hm
  have lim:l.length+1<=2000000:=by have:[b.d].length=1:=rfl;omega
  cases b with
  | para is =>
   have il:=ok.2
   obtain ⟨w,hw⟩:=Wg (V:=Option D) (it:=JP (Q0 D.ix (eV 2) (eC (.int 1)))) (g:=gS 4) (b:=QD (Q0 D.eqO (Q0 D.ix (eV 4) (eC (.int 0))) (eC (.str "word"))) (sP 3 (Qa (lC (eC (.str "word")) (lC (Q0 D.ix (eV 4) (eC (.int 1))) (lC (QA D.listOf (Q0 D.ix (eV 4) (eC (.int 2)))) lN))))) (sP 3 (eV 4))) (e:=[some (.lst (bs.map Bo.d)),some (.lst l),some (Bo.para is).d,some (.lst []),v.2.2]) It.d (fun i=>[i.d]) 1000 1 (fun l' v=>[some (.lst (bs.map Bo.d)),some (.lst l),some (Bo.para is).d,some (.lst l'),v]) is [] v.2.2 rfl rfl (fun i hm=>by simp) (by simp;omega) fun i hm l' v hb=>by
    have lim':l'.length+1<=2000000:=by have:[i.d].length=1:=rfl;omega
    refine ⟨some i.d,Je (e1:=[some (.lst (bs.map Bo.d)),some (.lst l),some (Bo.para is).d,some (.lst l'),some i.d]) rfl ?_⟩
    cases i with
    | word x ns=>exact QU (kT rfl) (JB rfl (Y4 rfl (Q1 rfl rfl rfl) (Qi (Q1 rfl rfl rfl) rfl)) (JE lim'))
    | ref a b c=>exact Q9 (kF rfl) (JB rfl rfl (JE lim'))
    | mark a=>exact Q9 (kF rfl) (JB rfl rfl (JE lim'))
    | key a=>exact Q9 (kF rfl) (JB rfl rfl (JE lim'))
   refine ⟨(some (Bo.para is).d,some (.lst (is.map It.d)),w),Je (e1:=[some (.lst (bs.map Bo.d)),some (.lst l),some (Bo.para is).d,v.2.1,v.2.2]) rfl (QU (kT rfl) (st (QG rfl rfl) (st hw ?_)))⟩
   rw [List.nil_append,show is.flatMap (fun i=>[i.d])=is.map It.d by rw [<- List.map_eq_flatMap]]
   exact JB rfl (VB rfl rfl) (JE lim)
  | tab rs lb=>exact ⟨(some (Bo.tab rs lb).d,v.2.1,v.2.2),Je (e1:=[some (.lst (bs.map Bo.d)),some (.lst l),some (Bo.tab rs lb).d,v.2.1,v.2.2]) rfl (Q9 (kF rfl) (QU (kT rfl) (JB rfl (Y4 rfl (Qi (Q1 rfl rfl rfl) rfl) (Q1 rfl rfl rfl)) (JE lim))))⟩
  | chap t lb=>exact ⟨(some (Bo.chap t lb).d,v.2.1,v.2.2),Je (e1:=[some (.lst (bs.map Bo.d)),some (.lst l),some (Bo.chap t lb).d,v.2.1,v.2.2]) rfl (Q9 (kF rfl) (Q9 (kF rfl) (JB rfl rfl (JE lim))))⟩
  | head t k lb=>exact ⟨(some (Bo.head t k lb).d,v.2.1,v.2.2),Je (e1:=[some (.lst (bs.map Bo.d)),some (.lst l),some (Bo.head t k lb).d,v.2.1,v.2.2]) rfl (Q9 (kF rfl) (Q9 (kF rfl) (JB rfl rfl (JE lim))))⟩
  | plat n lb=>exact ⟨(some (Bo.plat n lb).d,v.2.1,v.2.2),Je (e1:=[some (.lst (bs.map Bo.d)),some (.lst l),some (Bo.plat n lb).d,v.2.1,v.2.2]) rfl (Q9 (kF rfl) (Q9 (kF rfl) (JB rfl rfl (JE lim))))⟩
 ·rw [List.nil_append,<- List.map_eq_flatMap];rfl
theorem CK (k:Nat):P6 [.exc 6 (.int k)]=some (.lst [.int k]):=by
 refine QJ rfl (st (QG (e1:=[some (.exc 6 (.int k)),some (.lst [])]) rfl rfl) (st (QU rfl (JB rfl rfl rfl)) (st (Q9 rfl rfl) (st (Q9 rfl rfl) (st (Q9 rfl rfl) (st (Q9 rfl rfl) (ret rfl)))))))
theorem QaE {bs:List Bo} (h:ZE bs) {k:Nat} (hb:JA 0 (QW bs)=k) (hk:k<10^60):P8 [.lst (bs.map Bo.d)]=some (.lst [.int k]):=by
 have h1:SJ 1 2 (UX W3 (lC (eV 0) lN)) [some (.lst (bs.map Bo.d)),some .non,none]=some (.nx [some (.lst (bs.map Bo.d)),some (.exc 6 (.int k)),none]):=by
  unfold SJ
  rw [show UX W3 (lC (eV 0) lN) [some (.lst (bs.map Bo.d)),some .non,none]=some (.rz 6 (.int k)) by
   unfold UX lC lN
   show (W3 [.lst (bs.map Bo.d)]).map _=_
   rw [Qcq h hb hk];rfl]
  rfl
 exact QJ rfl (st (QG (e1:=[some (.lst (bs.map Bo.d)),some .non,none]) rfl rfl) (st h1 (ret (QX rfl (CK k)))))
inductive Al:Nat->D->Prop
 | str (n:Nat) (x:Str):Al n (.str x)
 | int (n:Nat) (i:Int):Al n (.int i)
 | tup {n:Nat} {ds:List D} (hl:ds.length<=2000000) (h:∀ d∈ds,Al n d):Al (n+1) (.tup ds)
 | lst {n:Nat} {ds:List D} (hl:ds.length<=2000000) (h:∀ d∈ds,Al n d):Al (n+1) (.lst ds)
theorem Al.eq {n:Nat} {d:D} (h:Al n d):D.eq d d=some true/\D.dep d<=n:=by
 have many:∀ {n:Nat} {ds:List D},(∀ d∈ds,D.eq d d=some true/\D.dep d<=n)->D.eqL ds ds=some true/\D.depL ds<=n:=fun {n ds} h=>by
  induction ds with
  | nil=>exact ⟨D2,by rw [Ls];omega⟩
  | cons d ds ih =>
   obtain ⟨a1,a2⟩:=h d List.mem_cons_self
   obtain ⟨b1,b2⟩:=ih fun x hx=>h x (List.mem_cons_of_mem _ hx)
   exact ⟨by rw [D1,a1,b1];rfl,by rw [TC];omega⟩
 induction h with
 | str n x=>exact ⟨by rw [VH,decide_eq_true rfl],by rw [Vs];omega⟩
 | int n i=>exact ⟨by rw [Wt,decide_eq_true rfl],by rw [Vr];omega⟩
 | tup hl h ih=>obtain ⟨a,b⟩:=many ih;exact ⟨by rw [D4,a],by rw [Rl];omega⟩
 | lst hl h ih=>obtain ⟨a,b⟩:=many ih;exact ⟨by rw [K1,a],by rw [TF];omega⟩
theorem Al.ne {n:Nat} {d:D} (h:Al n d) (hn:n<=40):D.neO d d=some (.bl false):=by
 obtain ⟨a,b⟩:=h.eq
 unfold D.neO
 rw [if_pos (by omega),a];rfl
theorem Al.eqO {n:Nat} {d:D} (h:Al n d) (hn:n<=40):D.eqO d d=some (.bl true):=by
 obtain ⟨a,b⟩:=h.eq
 unfold D.eqO
 rw [if_pos (by omega),a];rfl
theorem Al.mono {n m:Nat} {d:D} (h:Al n d) (hm:n<=m):Al m d:=by
 induction h generalizing m with
 | str n x=>exact .str _ x
 | int n i=>exact .int _ i
 | @tup n ds hl h ih=>obtain ⟨k,rfl⟩:∃ k,m=k+1:=⟨m-1,by omega⟩;exact .tup hl fun d hd=>ih d hd (by omega)
 | @lst n ds hl h ih=>obtain ⟨k,rfl⟩:∃ k,m=k+1:=⟨m-1,by omega⟩;exact .lst hl fun d hd=>ih d hd (by omega)
theorem IB {x:Int}:D.neO (.int x) (.int x)=some (.bl false):=by simp [D.neO,Vr,Wt,D.cmpN]
theorem VZ {a:Q4} {e:Q2} {n:Nat} (h:a e=some (.int n)) (hn:n<=2000000):JI a e=some (rD 0 n):=by
 unfold JI
 rw [h]
 show (if ((n:Nat):Int).natAbs<4611686018427387904 then some (rD 0 ((n:Nat):Int).toNat) else none)=_
 rw [if_pos (by omega),Int.toNat_natCast]
theorem C5 {xs:List D} {i:Nat} {d:D} (h:xs[i]?=some d):D.ix (.tup xs) (.int (0+(i:Int)))=some d:=Pa h
theorem MG {g:List D->Option D} {d:D} {ds:List D} {k:Q8} {r:Option Fl} (hl:D.len d=some (.int ds.length)) (hn:ds.length<=2000000) (hx:∀ (i:Nat) (x:D),ds[i]?=some x->D.ix d (.int (0+(i:Int)))=some x) (hg:∀ x∈ds,g [x,x]=some (.bl true)) (hk:∀ v,k [some d,some d,v]=r) :
  sQ (Qq (JI (QA D.len (eV 1))) (gS 2) (QD (Jm (eK g (lC (Q0 D.ix (eV 0) (eV 2)) (lC (Q0 D.ix (eV 1) (eV 2)) lN)))) (QC (eC (.bl false))) QK)) k [some d,some d,none]=r:=by
 refine QbM ds.length (fun _ e=>∃ v,e=[some d,some d,v]) (VZ (Qi rfl hl) hn) ⟨none,rfl⟩ ?_ ?_
 ·rintro i hi e ⟨v,rfl⟩
  have h1:=hx i ds[i] (List.getElem?_eq_getElem hi)
  refine ⟨[some d,some d,some (.int (0+(i:Int)))],.inl (Je (e1:=[some d,some d,some (.int (0+(i:Int)))]) rfl (Q9 (W8 (b:=true) (Zp (Q1 rfl rfl h1) (Q1 rfl rfl h1) (hg _ (List.getElem_mem hi)))) rfl)),_,rfl⟩
 ·rintro e ⟨v,rfl⟩;exact hk v
theorem GQ {n:Nat} {d:D} (h:Al n d):TB 3 2 Uy (n+1) [d,d]=some (.bl true):=by
 induction h with
 | str n x =>
  refine QJ rfl (J1 (QU (ZU rfl rfl) (ret (J2 (ZU rfl rfl) (Q1 rfl rfl ?_)))))
  rw [Ze,decide_eq_true rfl]
 | int n i =>
  exact QJ rfl (st (Q9 (ZU rfl rfl) rfl) (J1 (QU (ZU rfl rfl) (ret (J2 (ZU rfl rfl) (J2 (W8 (b:=false) (ZU rfl rfl)) (Q1 rfl rfl (ZR rfl))))))))
 | @tup n ds hl h ih =>
  exact QJ rfl (st (Q9 (ZU rfl rfl) rfl) (st (Q9 (ZU rfl rfl) rfl) (st (Q9 (ZU rfl rfl) (Q9 (W8 (b:=true) (ZU rfl rfl)) rfl)) (st (Q9 (Q1 (Qi rfl rfl) (Qi rfl rfl) IB) rfl) (MG (d:=.tup ds) (ds:=ds) rfl hl (fun i x hx=>C5 hx) ih fun v=>ret rfl)))))
 | @lst n ds hl h ih =>
  exact QJ rfl (st (Q9 (ZU rfl rfl) rfl) (st (Q9 (ZU rfl rfl) rfl) (st (QU (ZU rfl rfl) (Q9 (W8 (b:=true) (ZU rfl rfl)) rfl)) (st (Q9 (Q1 (Qi rfl rfl) (Qi rfl rfl) IB) rfl) (MG (d:=.lst ds) (ds:=ds) rfl hl (fun i x hx=>Pa hx) ih fun v=>ret rfl)))))
theorem MF {d:D} (h:Al 6 d):YZ [d,d]=some (.bl true):=GQ h
theorem RQ {xs:List Str} (h:xs.length<=2000000):Al 1 (QF xs):=.lst (by rw [List.length_map];exact h) fun d hd=>by
 obtain ⟨x,_,rfl⟩:=List.mem_map.mp hd
 exact .str 0 x
theorem GP {i:It} (h:i.ok):Al 2 i.d:=by
 cases i with
 | word x ns =>
  have hn:=h.2.2
  refine .tup (by simp) fun d hd=>?_
  simp only [List.mem_cons,List.not_mem_nil,or_false] at hd
  rcases hd with rfl | rfl | rfl
  ·exact .str _ _
  ·exact .str _ _
  ·exact RQ (by omega)
 | _ =>
  refine .tup (by simp) fun d hd=>?_
  simp only [List.mem_cons,List.not_mem_nil,or_false] at hd
  rcases hd with rfl | rfl | rfl | rfl<;>exact .str _ _
theorem GO {b:Bo} (h:b.ok):Al 4 b.d:=by
 cases b with
 | para is =>
  have hn:=h.2
  refine .tup (by simp) fun d hd=>?_
  simp only [List.mem_cons,List.not_mem_nil,or_false] at hd
  rcases hd with rfl | rfl
  ·exact .str _ _
  ·exact .lst (by rw [List.length_map];omega) fun d hd=>by
    obtain ⟨i,hi,rfl⟩:=List.mem_map.mp hd
    exact GP (h.1 i hi)
 | tab rs l =>
  have hn:=h.2.2.1
  refine .tup (by simp) fun d hd=>?_
  simp only [List.mem_cons,List.not_mem_nil,or_false] at hd
  rcases hd with rfl | rfl | rfl
  ·exact .str _ _
  ·exact (RQ (by omega)).mono (by omega)
  ·exact .str _ _
 | _ =>
  refine .tup (by simp) fun d hd=>?_
  simp only [List.mem_cons,List.not_mem_nil,or_false] at hd
  rcases hd with rfl | rfl | rfl | rfl<;>first | exact .str _ _ | exact .int _ _
theorem ME {bs:List Bo} (h:ZE bs):Al 6 (.lst (bs.map Bo.d)):=Al.mono (n:=5) (.lst (by rw [List.length_map];have:=h.2;omega) fun d hd=>by
 obtain ⟨b,hb,rfl⟩:=List.mem_map.mp hd
 exact GO (h.1 b hb)) (by omega)
theorem T4 {l:Str} (h:BLab l):32∉cs (QH l):=by
 rcases Sj h with ⟨_,e⟩ | ⟨hl,_,e,_⟩<;>rw [e]
 ·decide
 ·intro z;have:=hl.1 32 z;omega
theorem LW (n:Nat):32∉cs (QV n):=fun z=>by have:=S0 n 32 z;omega
theorem sw {a r b:Str} {t:Bool} (h:(cs b).isPrefixOf (cs a++cs r)=t):Txt.startswith (a++r) b=t:=by rw [Hj,Qx];exact h
theorem JL {a r b:Str} {t:Bool} {i:Nat} {e:Q2} (he:eV i e=some (.str (a++r))) (h:(cs b).isPrefixOf (cs a++cs r)=t):Q0 (QS JK) (eV i) (eC (.str b)) e=some (.bl t):=Q1 he rfl (by show some (D.bl (Txt.startswith (a++r) b))=_;rw [sw h])
theorem sp:(" ":Str)=⟨#[32]⟩:=rfl
theorem HZ {i n:Nat} {e:Q2} {x:Str} {L:List Str} (he:eV i e=some (.str x)) (hl:x.length<=100000) (hn:n<1000) (h:J6 32 n (cs x)=L.map cs):Q0 (QS (WU n)) (eV i) (eC (.str " ")) e=some (QF L):=by
 refine Q1 he rfl ?_
 show WU n x ⟨#[32]⟩=_
 unfold WU
 rw [if_pos ⟨rfl,hl,hn⟩,QbI (by decide) h];rfl
theorem Sg {c:Nat} {a:Q4} {e:Q2} {x s:Str} {L:List Str} (hs:s=⟨#[c]⟩) (hc:c<256) (he:a e=some (.str x)) (hl:x.length<=100000) (h:J6 c (x.length+1) (cs x)=L.map cs):Q0 (QS V8) a (eC (.str s)) e=some (QF L):=by
 refine Q1 he rfl ?_
 subst hs
 show V8 x ⟨#[c]⟩=_
 unfold V8
 rw [if_pos ⟨rfl,hl⟩,QbH hc h];rfl
theorem Rg (x y:Str):cs (x++" "++y)=cs x++32::cs y:=by rw [Qx,Qx,List.append_assoc];rfl
theorem FD {t l:Str} (h:BLab l):J6 32 2 (cs ("chapter "++QH l++" "++t))=[("chapter":Str),QH l,t].map cs:=by
 rw [show cs ("chapter "++QH l++" "++t)=cs "chapter"++32::(cs (QH l)++32::cs t) by rw [Qx,Qx,Qx,List.append_assoc,List.append_assoc];rfl]
 rw [Y2 1 _ (by decide),Y2 0 _ (T4 h),Ot];rfl
theorem DM {t l:Str} {k:Nat} (h:BLab l):J6 32 3 (cs ("heading "++QV k++" "++QH l++" "++t))=[("heading":Str),QV k,QH l,t].map cs:=by
 rw [show cs ("heading "++QV k++" "++QH l++" "++t)=cs "heading"++32::(cs (QV k)++32::(cs (QH l)++32::cs t)) by simp only [Qx,List.append_assoc];rfl]
 rw [Y2 2 _ (by decide),Y2 1 _ (LW k),Y2 0 _ (T4 h),Ot];rfl
theorem QbZ {l:Str} (n:Nat) (h:BLab l):J6 32 (n+1) (cs ("table "++QH l))=[("table":Str),QH l].map cs:=by
 rw [show cs ("table "++QH l)=cs "table"++32::cs (QH l) by rw [Qx];rfl]
 rw [Y2 n _ (by decide),Ub n (T4 h)];rfl
theorem Az {l:Str} {k:Nat} (n:Nat) (h:BLab l):J6 32 (n+1+1) (cs ("plates "++QV k++" "++QH l))=[("plates":Str),QV k,QH l].map cs:=by
 rw [show cs ("plates "++QV k++" "++QH l)=cs "plates"++32::(cs (QV k)++32::cs (QH l)) by simp only [Qx,List.append_assoc];rfl]
 rw [Y2 (n+1) _ (by decide),Y2 n _ (LW k),Ub n (T4 h)];rfl
theorem Qay {t l:Str} (h:(Bo.chap t l).ok):PD [.str (Bo.chap t l).first]=some (Bo.chap t l).d:=by
 have tl:=WX h.2
 have t2:=h.1.le
 have e8:("chapter ":Str).length=8:=rfl
 have e1:(" ":Str).length=1:=rfl
 refine QJ rfl (st (QG (HZ (L:=["chapter",QH l,t]) rfl (by show ("chapter "++QH l++" "++t:Str).length<=_;rw [la,la,la];omega) (by decide) (FD h.2)) rfl) (J1 (QU ?_ (ret (Y4 rfl (Q1 rfl rfl rfl) (QX (Q1 rfl rfl rfl) (SG h.2)))))))
 exact J2 (Q1 (Qi rfl rfl) rfl rfl) (J2 (QX (Q1 rfl rfl rfl) (Ti h.2)) (QX (Q1 rfl rfl rfl) (KS h.1)))
theorem KN {n:Nat} (h:n<10^60):D.intS (.str (QV n))=some (.int n):=by
 show (if (QV n).length<=640 then (intText? (QV n)).map D.int else none)=_
 rw [if_pos (by have:=V4 h;omega),Cy h];rfl
theorem Qaz {t l:Str} {k:Nat} (h:(Bo.head t k l).ok):PF [.str (Bo.head t k l).first]=some (Bo.head t k l).d:=by
 have tl:=WX h.2.2
 have t2:=h.1.le
 have nl:=V4 h.2.1
 have e8:("heading ":Str).length=8:=rfl
 have e1:(" ":Str).length=1:=rfl
 refine QJ rfl (st (QG (HZ (L:=["heading",QV k,QH l,t]) rfl (by show ("heading "++QV k++" "++QH l++" "++t:Str).length<=_;rw [la,la,la,la,la];omega) (by decide) (DM h.2.2)) rfl) (J1 (QU ?_ (ret (XJ rfl (Q1 rfl rfl rfl) (Qi (Q1 rfl rfl rfl) (KN h.2.1)) (QX (Q1 rfl rfl rfl) (SG h.2.2)))))))
 exact J2 (Q1 (Qi rfl rfl) rfl rfl) (J2 (QX (Q1 rfl rfl rfl) (KR h.2.1)) (J2 (QX (Q1 rfl rfl rfl) (Ti h.2.2)) (QX (Q1 rfl rfl rfl) (KS h.1))))
theorem QaD {l:Str} (h:BLab l):PK [.str ("table "++QH l)]=some (.tup [.str "table",.lst [],.str l]):=by
 have tl:=WX h
 have e8:("table ":Str).length=6:=rfl
 refine QJ rfl (st (QG (Sg (L:=["table",QH l]) sp (by decide) rfl (by rw [la];omega) (QbZ _ h)) rfl) (J1 (QU ?_ (ret (Y4 rfl rfl (QX (Q1 rfl rfl rfl) (SG h)))))))
 exact J2 (Q1 (Qi rfl rfl) rfl rfl) (QX (Q1 rfl rfl rfl) (Ti h))
theorem QaB {l:Str} {n:Nat} (h:(Bo.plat n l).ok):PH [.str (Bo.plat n l).first]=some (Bo.plat n l).d:=by
 have tl:=WX h.2.2
 have nl:=V4 h.2.1
 have e8:("plates ":Str).length=7:=rfl
 have e1:(" ":Str).length=1:=rfl
 have n0:QV n≠"0":=fun z=>by
  obtain ⟨c,r,e,hc⟩:=Pn (n:=n) (by have:=h.1;omega)
  rw [z] at e
  exact hc (List.cons.inj (show [48]=c::r from e)).1.symm
 refine QJ rfl (st (QG (Sg (L:=["plates",QV n,QH l]) sp (by decide) rfl (by show ("plates "++QV n++" "++QH l:Str).length<=_;rw [la,la,la];omega) ?_) rfl) (J1 (QU ?_ (ret (Y4 rfl (Qi (Q1 rfl rfl rfl) (KN h.2.1)) (QX (Q1 rfl rfl rfl) (SG h.2.2)))))))
 ·obtain ⟨m,hm⟩:∃ m,(Bo.plat n l).first.length=m+1:=⟨_,(Nat.succ_pred_eq_of_pos (by show 0<("plates "++QV n++" "++QH l:Str).length;rw [la,la,la];omega)).symm⟩
  rw [hm]
  exact Az m h.2.2
 ·exact J2 (Q1 (Qi rfl rfl) rfl rfl) (J2 (QX (Q1 rfl rfl rfl) (KR h.2.1)) (J2 (Q1 (Q1 rfl rfl rfl) rfl (by rw [W7,decide_eq_false n0];rfl)) (QX (Q1 rfl rfl rfl) (Ti h.2.2))))
theorem Tz {a r s:Str} {c d:Nat} {u v:List Nat} (ha:cs a=c::u) (hs:cs s=d::v) (h:c≠d):a++r≠s:=fun z=>by
 have:=congrArg cs z
 rw [Qx,ha,hs] at this
 exact h (List.cons.inj this).1
theorem nP {i:Nat} {e:Q2} {x:Str} (he:eV i e=some (.str x)) (h:x≠"para"):Q0 D.eqO (eV i) (eC (.str "para")) e=some (.bl false):=Q1 he rfl (by rw [Ze,decide_eq_false h])
theorem Y6 (a b c:Str):a++b++c=a++(b++c):=Str.append_assoc a b c
theorem Qaw {b:Bo} (h:b.ok):Zv [.str b.first]=some (match b with | .tab _ l=>.tup [.str "table",.lst [],.str l] | .para _=>.tup [.str "para",.lst []] | b=>b.d):=by
 cases b with
 | chap t l =>
  have e:(Bo.chap t l).first="chapter "++(QH l++(" "++t)):=by show "chapter "++QH l++" "++t=_;rw [Y6,Y6]
  have r:=Qay h
  rw [e] at r ⊢
  exact QJ rfl (st (Q9 (nP rfl (Tz rfl rfl (by decide))) rfl) (J1 (QU (JL rfl rfl) (ret (QX rfl r)))))
 | head t k l =>
  have e:(Bo.head t k l).first="heading "++(QV k++(" "++(QH l++(" "++t)))):=by show "heading "++QV k++" "++QH l++" "++t=_;simp only [Y6]
  have r:=Qaz h
  rw [e] at r ⊢
  exact QJ rfl (st (Q9 (nP rfl (Tz rfl rfl (by decide))) rfl) (st (Q9 (JL rfl rfl) rfl) (J1 (QU (JL rfl rfl) (ret (QX rfl r))))))
 | tab rs l=>exact QJ rfl (st (Q9 (nP rfl (Tz rfl rfl (by decide))) rfl) (st (Q9 (JL rfl rfl) rfl) (st (Q9 (JL rfl rfl) rfl) (J1 (QU (JL rfl rfl) (ret (QX rfl (QaD h.2.2.2))))))))
 | plat n l =>
  have e:(Bo.plat n l).first="plates "++(QV n++(" "++QH l)):=by show "plates "++QV n++" "++QH l=_;simp only [Y6]
  have r:=QaB h
  rw [e] at r ⊢
  have np:"plates "++(QV n++(" "++QH l))≠("para":Str):=fun z=>by
   have:=congrArg cs z
   rw [Qx] at this
   have h2:=(List.cons.inj (show 112::108::_=112::97::_ from this)).2
   exact absurd (List.cons.inj h2).1 (by decide)
  exact QJ rfl (st (Q9 (nP rfl np) rfl) (st (Q9 (JL rfl rfl) rfl) (st (Q9 (JL rfl rfl) rfl) (st (Q9 (JL rfl rfl) rfl) (J1 (QU (JL rfl rfl) (ret (QX rfl r))))))))
 | para is=>exact QJ rfl (J1 (QU (Q1 rfl rfl rfl) (ret (VB rfl rfl))))
theorem Qax {a r:Str} {c:Nat} {u:List Nat} (ha:cs a=c::u) (h1:c≠112) (h2:c≠99) (h3:c≠104) (h4:c≠116):Zv [.str (a++r)]=some .non:=by
 have t:∀ {d:Nat} {v:List Nat} {b:Str},cs b=d::v->c≠d->(cs b).isPrefixOf (cs a++cs r)=false:=fun hb hd=>by
  rw [hb,ha]
  show ((_==c)&&_)=false
  rw [beq_false_of_ne (Ne.symm hd)];rfl
 exact QJ rfl (st (Q9 (nP rfl (Tz ha (d:=112) rfl h1)) rfl) (st (Q9 (JL rfl (t (d:=99) rfl h2)) rfl) (st (Q9 (JL rfl (t (d:=104) rfl h3)) rfl) (st (Q9 (JL rfl (t (d:=116) rfl h4)) rfl) (st (Q9 (JL rfl (t (d:=112) rfl h1)) rfl) (ret rfl))))))
theorem Tf {i:Nat} {e:Q2} {x w r:Str} (he:eV i e=some (.str x)) (hl:x.length<=100000) (h:cs x=cs w++32::cs r) (hw:32∉cs w):Q0 D.ix (Q0 (QS V5) (eV i) (eC (.str " "))) (eC (.int 2)) e=some (.str r):=by
 refine Q1 (Q1 he rfl ?_) rfl (show D.ix (.tup ([w,⟨#[32]⟩,r].map .str)) (.int 2)=_ from rfl)
 show V5 x ⟨#[32]⟩=_
 unfold V5
 rw [if_pos ⟨rfl,hl⟩,IV h hw]
def It.free:It->Prop
 | .ref _ a b=>124∉cs a/\124∉cs b
 | _=>True
theorem UU {l a b:Str}:"ref "++l++" "++a++"|"++b="ref "++(l++(" "++(a++("|"++b)))):=by simp only [Y6]
theorem QaC {l a b:Str} (h:(It.ref l a b).ok) (hf:(It.ref l a b).free):PJ [.str ("ref "++l++" "++a++"|"++b)]=some (It.ref l a b).d:=by
 obtain ⟨hl,⟨⟨_,la'⟩,sa⟩,⟨_,lb⟩,sb⟩:=h
 obtain ⟨fa,fb⟩:=hf
 have ll:=hl.le
 have e4:("ref ":Str).length=4:=rfl
 have e1:(" ":Str).length=1:=rfl
 have e2:("|":Str).length=1:=rfl
 have nl:32∉cs l:=fun z=>by have:=hl.1 32 z;omega
 have nab:32∉cs (a++"|"++b):=by
  rw [Qx,Qx]
  intro z
  rcases List.mem_append.mp z with z | z
  ·rcases List.mem_append.mp z with z | z
   ·exact sa z
   ·exact absurd z (by decide)
  ·exact sb z
 have cx:cs ("ref "++l++" "++a++"|"++b)=cs "ref"++32::(cs l++32::cs (a++"|"++b)):=by simp only [Qx,List.append_assoc];rfl
 have lx:("ref "++l++" "++a++"|"++b:Str).length<=100000:=by simp only [la];omega
 obtain ⟨m,hm⟩:∃ m,("ref "++l++" "++a++"|"++b:Str).length=m+1:=⟨_,(Nat.succ_pred_eq_of_pos (by simp only [la];omega)).symm⟩
 have s1:J6 32 (("ref "++l++" "++a++"|"++b:Str).length+1) (cs ("ref "++l++" "++a++"|"++b))=[("ref":Str),l,a++"|"++b].map cs:=by
  rw [hm,cx,Y2 (m+1) _ (by decide),Y2 m _ nl,Ub m nab];rfl
 have cab:cs (a++"|"++b)=cs a++124::cs b:=by rw [Qx,Qx,List.append_assoc];rfl
 have s2:J6 124 ((a++"|"++b:Str).length+1) (cs (a++"|"++b))=[a,b].map cs:=by
  rw [cab,Y2 _ _ fa,Ub _ fb];rfl
 have ct:(cs (a++"|"++b)).count 124=1:=by
  rw [cab,List.count_append,List.count_cons_self,List.count_eq_zero.mpr fa,List.count_eq_zero.mpr fb]
 refine QJ rfl (st (QG (Sg (L:=["ref",l,a++"|"++b]) sp (by decide) rfl lx s1) rfl) (J1 (QU ?_ (st (QG (Sg (c:=124) (x:=a++"|"++b) (L:=[a,b]) rfl (by decide) (Q1 rfl rfl rfl) (by simp only [la];omega) s2) rfl) (ret (XJ rfl (Q1 rfl rfl rfl) (Q1 rfl rfl rfl) (Q1 rfl rfl rfl)))))))
 refine J2 (Q1 (Qi rfl rfl) rfl rfl) (J2 (QX (Q1 rfl rfl rfl) (PZ hl)) (Q1 (x:=.int 1) (Q1 (x:=.str (a++"|"++b)) (y:=.str ⟨#[124]⟩) (Q1 rfl rfl rfl) rfl ?_) rfl (ZR rfl)))
 show some (D.int (Txt.count (a++"|"++b) ⟨#[124]⟩))=_
 rw [Lb,ct];rfl
def It.new:It->D
 | .word x _=>.tup [.str "word",.str x,.lst []]
 | i=>i.d
def It.first:It->Str
 | .word x _=>"word "++x
 | .ref l a b=>"ref "++l++" "++a++"|"++b
 | .mark l=>"mark "++l
 | .key x=>"key "++x
theorem QaA {i:It} (h:i.ok) (hf:i.free):Yv [.str i.first]=some i.new:=by
 cases i with
 | word x ns =>
  have lx:=h.1.1.2
  have e5:("word ":Str).length=5:=rfl
  exact QJ rfl (st (QG (Tf (w:="word") (r:=x) rfl (by show ("word "++x:Str).length<=_;rw [la];omega) (by show cs ("word "++x)=_;rw [Qx];rfl) (by decide)) rfl) (st (Q9 (JL rfl rfl) rfl) (J1 (QU (J2 (JL rfl rfl) (QX rfl (KU h.1))) (ret (Y4 rfl rfl rfl))))))
 | ref l a b =>
  have r:=QaC h hf
  obtain ⟨hl,⟨⟨_,la'⟩,_⟩,⟨_,lb⟩,_⟩:=h
  have ll:=hl.le
  have e4:("ref ":Str).length=4:=rfl
  have e1:(" ":Str).length=1:=rfl
  have e2:("|":Str).length=1:=rfl
  show Yv [.str ("ref "++l++" "++a++"|"++b)]=_
  refine QJ rfl (st (QG (Tf (w:="ref") (r:=l++(" "++(a++("|"++b)))) rfl (by simp only [la];omega) (by simp only [Qx,List.append_assoc];rfl) (by decide)) rfl) (J1 (QU ?_ (ret (QX rfl r)))))
  rw [UU]
  exact JL rfl rfl
 | mark l =>
  have lx:=Lab.le h
  have e5:("mark ":Str).length=5:=rfl
  exact QJ rfl (st (QG (Tf (w:="mark") (r:=l) rfl (by show ("mark "++l:Str).length<=_;rw [la];omega) (by show cs ("mark "++l)=_;rw [Qx];rfl) (by decide)) rfl) (st (Q9 (JL rfl rfl) rfl) (st (Q9 (YN (JL rfl rfl)) rfl) (st (Q9 (YN (JL rfl rfl)) rfl) (J1 (QU (J2 (JL rfl rfl) (QX rfl (PZ h))) (ret (VB rfl rfl))))))))
 | key x =>
  have lx:=h.1.2
  have e5:("key ":Str).length=4:=rfl
  exact QJ rfl (st (QG (Tf (w:="key") (r:=x) rfl (by show ("key "++x:Str).length<=_;rw [la];omega) (by show cs ("key "++x)=_;rw [Qx];rfl) (by decide)) rfl) (st (Q9 (JL rfl rfl) rfl) (st (Q9 (YN (JL rfl rfl)) rfl) (J1 (QU (J2 (JL rfl rfl) (QX rfl (KU h))) (ret (VB rfl rfl)))))))
def It.im:It->Im
 | .word x ns=>.wd x ns
 | i=>.pl i.d
def Bo.bk:Bo->Wd.Bk
 | .tab rs l=>.tb rs (.str l)
 | .para is=>.pa (is.map It.im)
 | b=>.pl b.d
theorem DU (i:It):Z3 i.im=i.d:=by cases i<;>rfl
theorem Gd (b:Bo):J3 b.bk=b.d:=by
 cases b with
 | para is =>
  show D.tup [.str "para",.lst ((is.map It.im).map Z3)]=_
  rw [List.map_map,show (Z3∘It.im)=It.d from funext DU];rfl
 | _=>rfl
theorem lQ (f:Wd.Bk->Option Bool) (m:BM) (b:Wd.Bk):Z9 f (m++[b])=f b:=by unfold Z9;simp
theorem lU (f:Wd.Bk->Wd.Bk) (m:BM) (b:Wd.Bk):ZL f (m++[b])=m++[f b]:=by unfold ZL;simp
theorem Gj (m:BM) (b:Wd.Bk):JM (m++[b])=.lst (m.map J3++[J3 b]):=by unfold JM;simp
theorem Tn (ds:List D) (d:D):D.ix (.lst (ds++[d])) (.int (-1))=some d:=by
 show ((Qu (ds++[d]).length (-1)).bind fun k=>(ds++[d])[k]?)=_
 unfold Qu
 rw [if_neg (by omega),if_pos (by simp;omega)]
 simp [show (-1+((ds.length:Int)+1)).toNat=ds.length by omega]
theorem DH {n:Nat} (h:0<n):D.gt (.int n) (.int 0)=some (.bl true):=by show some (D.bl (decide ((0:Int)<n)))=_;rw [decide_eq_true (by omega)]
def Vj (m:BM):Prop:=m=[]\/∃ m0 b,m=m0++[Bo.bk b]/\∀ rs l,b=.tab rs l->rs≠[]
theorem Kg {i:Nat} {e:Q2} {ds:List D} {d:D} {k t:Str} {r:List D} (he:eV i e=some (.lst (ds++[d]))) (hd:d=.tup (.str k::r)):Q0 D.eqO (Q0 D.ix (Q0 D.ix (eV i) (QA D.neg (eC (.int 1)))) (eC (.int 0))) (eC (.str t)) e=some (.bl (decide (k=t))):=by
 subst hd
 refine Q1 (x:=.str k) (Q1 (Q1 he (Qi rfl rfl) (Tn ds _)) rfl ?_) rfl (Ze k t)
 show ((Qu (r.length+1) 0).bind fun j=>(.str k::r)[j]?)=_
 unfold Qu
 rw [if_pos (by omega),if_pos (by omega)];rfl
theorem Lu:∀ xs:List Str,D.depL (xs.map .str)=0
 | []=>Ls
 | x::xs=>by rw [List.map_cons,TC,Lu xs,Vs];rfl
theorem D0 (x:D) (xs:List D):D.eqL (x::xs) []=some false:=by rw [D.eqL];all_goals simp
theorem Pc {m:BM} (h:Vj m):W2 [JM m]=some (.bl false):=by
 have fin:∀ {d:D},PL [JM m]=some d->D.eqN d (.lst [])=some (.bl false)->W2 [JM m]=some (.bl false):=fun h1 h2=>QJ rfl (ret (Q1 (QX rfl h1) rfl h2))
 rcases h with rfl | ⟨m0,b,rfl,hb⟩
 ·exact fin (QJ rfl (ret (Zw (t:=false) (YN (Q1 (Qi rfl rfl) rfl rfl)) (fun h=>nomatch h) fun _=>rfl))) rfl
 ·rw [Gj] at fin ⊢
  have g:∀ e,eV 0 e=some (.lst (m0.map J3++[J3 b.bk]))->Q0 D.gt (QA D.len (eV 0)) (eC (.int 0)) e=some (.bl true):=fun e he=>Q1 (Qi he rfl) rfl (DH (by simp))
  have no:∀ {k:Str} {r:List D},J3 b.bk=.tup (.str k::r)->decide (k="table")=false->W2 [.lst (m0.map J3++[J3 b.bk])]=some (.bl false):=fun {k r} hk hn=>fin (QJ rfl (ret (Zw (t:=false) (J2 (g _ rfl) (by rw [Kg rfl hk,hn])) (fun h=>nomatch h) fun _=>rfl))) rfl
  cases b with
  | tab rs l =>
   have hne:=hb rs l rfl
   refine fin (d:=QF rs) (QJ rfl (ret (Zw (t:=true) (J2 (g _ rfl) (by rw [Kg rfl rfl];rfl)) (fun _=>Q1 (Q1 rfl (Qi rfl rfl) (Tn _ _)) rfl rfl) fun h=>nomatch h))) ?_
   cases rs with
   | nil=>exact absurd rfl hne
   | cons r rs =>
    show D.eqO (.lst (.str r::rs.map .str)) (.lst [])=_
    unfold D.eqO
    rw [if_pos (by rw [TF,show D.depL (.str r::rs.map .str)=0 from Lu (r::rs)];decide),K1,D0]
    rfl
  | para is=>exact no rfl rfl
  | chap t l=>exact no rfl rfl
  | head t k l=>exact no rfl rfl
  | plat n l=>exact no rfl rfl
def Rw (x:Str):Prop:=(∀ c∈cs x,sg c)/\x.length<=90000
theorem JJ {x y:Str} (hx:∀ c∈cs x,sg c) (hy:∀ c∈cs y,sg c):∀ c∈cs (x++y),sg c:=fun c hc=>by
 rw [Qx] at hc
 rcases List.mem_append.mp hc with z | z
 ·exact hx c z
 ·exact hy c z
theorem Jk {l:List Nat} (h:l.all (fun c=>decide (32<=c)&&decide (c<=126)&&decide (c≠37))=true):∀ c∈l,sg c:=fun c hc=>by
 have:=List.all_eq_true.mp h c hc
 simp only [Bool.and_eq_true,decide_eq_true_eq] at this
 exact ⟨this.1.1,this.1.2,this.2⟩
theorem Lab.sg {x:Str} (h:Lab x):∀ c∈cs x,sg c:=fun c hc=>by have:=h.1 c hc;exact ⟨by omega,by omega,by omega⟩
theorem Qb0 {x:Str} (h:BLab x):∀ c∈cs (QH x),sg c:=by
 rcases Sj h with ⟨_,e⟩ | ⟨hl,_,e,_⟩<;>rw [e]
 ·exact Jk (by decide)
 ·exact hl.sg
theorem IG (n:Nat):∀ c∈cs (QV n),sg c:=fun c hc=>by have:=S0 n c hc;exact ⟨by omega,by omega,by omega⟩
theorem bT {cv:Q4} {ba bb:Zn} {e:Q2} {m:BM} {r:Option (Bool×BM)} (h:cv (Sq e m)=some (.bl true)) (ha:ba e m=r):YO cv ba bb e m=r:=by unfold YO;rw [h];exact ha
theorem bF {cv:Q4} {ba bb:Zn} {e:Q2} {m:BM} {r:Option (Bool×BM)} (h:cv (Sq e m)=some (.bl false)) (hb:bb e m=r):YO cv ba bb e m=r:=by unfold YO;rw [h];exact hb
theorem Oo {x:Str} (h:Rw x) (m:BM):Jm (QA D.allL (JV 1 [] (W4 (eV 1)) (gS 0) (eC (.bl true)) (eK TX (lC (eV 0) lN)))) (Sq [none,some (.str x),none] m)=some (.bl false) :=
 W8 (b:=true) (MH rfl (fun c hc=>by have:=h.1 c hc;unfold sg at this;omega) (by have:=h.2;omega) fun c hc=>QX rfl (Dp (h.1 c hc)))
theorem IY {a:String} {w r:Str} (hw:32∉cs w) (h:cs (Str.ofString a)=cs w++[32]):VV (Str.ofString a++r)=r:=by
 unfold VV
 rw [sp,IV (w:=w) (r:=r) (by rw [Qx,h,List.append_assoc];rfl) hw]
theorem GL {m:BM} {rs:List Str} {lab:D} {r:Str} (hr:Sgn r) (hs:JX (m++[.tb rs lab])=true):JZ ("row "++r) (m++[.tb rs lab])=some (true,m++[.tb (rs++[r]) lab]):=by
 have e4:("row ":Str).length=4:=rfl
 have hl:=hr.2
 refine bF (Oo ⟨JJ (Jk (by decide)) hr.1,by rw [la];omega⟩ _) (bT (JL rfl rfl) ?_)
 show (if ("row "++r:Str).length<=100000/\JX (m++[.tb rs lab])=true then (Z9 Vd (m++[.tb rs lab])).map (fun b=>if b=true then (true,ZL (O8 (VV ("row "++r))) (m++[.tb rs lab])) else (false,m++[.tb rs lab])) else none)=_
 rw [if_pos ⟨by rw [la];omega,hs⟩,lQ,lU,IY (w:="row") (by decide) rfl]
 rfl
theorem IC {m:BM} {is:List Im} (h:∃ b,Bo.bk b=.pa is):Vj (m++[.pa is]):=by
 obtain ⟨b,hb⟩:=h
 exact .inr ⟨m,b,by rw [hb],fun rs l e=>by rw [e] at hb;cases hb⟩
theorem GK {m:BM} {is:List Im} {x:Str} {ns:List Str} {r:Str} (hr:Sgn r) (hp:∃ b,Bo.bk b=.pa (is++[.wd x ns])) (hs:JX (m++[.pa (is++[.wd x ns])])=true):JZ ("note "++r) (m++[.pa (is++[.wd x ns])])=some (true,m++[.pa (is++[.wd x (ns++[r])])]):=by
 have e4:("note ":Str).length=5:=rfl
 have hl:=hr.2
 refine bF (Oo ⟨JJ (Jk (by decide)) hr.1,by rw [la];omega⟩ _) (bF (JL rfl rfl) (bF (QX rfl (Pc (IC hp))) (bT (JL rfl rfl) ?_)))
 show (if ("note "++r:Str).length<=100000/\JX (m++[.pa (is++[.wd x ns])])=true then (Z9 Zm (m++[.pa (is++[.wd x ns])])).map (fun b=>if b=true then (true,ZL (XC (VV ("note "++r))) (m++[.pa (is++[.wd x ns])])) else (false,m++[.pa (is++[.wd x ns])])) else none)=_
 rw [if_pos ⟨by rw [la];omega,hs⟩,lQ,lU,IY (w:="note") (by decide) rfl]
 rw [show Zm (.pa (is++[.wd x ns]))=some true by unfold Zm;simp;rfl,show XC r (.pa (is++[.wd x ns]))=.pa (is++[.wd x (ns++[r])]) by unfold XC;simp [Pm]]
 rfl
theorem Wh {x:Str} {m:BM} {r:Option (Bool×BM)} (hx:Rw x) (h1:Txt.startswith x "row "=false) (h2:Txt.startswith x "note "=false) (hn:Vj m) (h:Wj Zv Yv [none,some (.str x),none] m=r):JZ x m=r:=by
 refine bF (Oo hx m) (bF (Q1 rfl rfl ?_) (bF (QX rfl (Pc hn)) (bF (Q1 rfl rfl ?_) h)))
 ·show some (D.bl (Txt.startswith x "row "))=_;rw [h1]
 ·show some (D.bl (Txt.startswith x "note "))=_;rw [h2]
theorem Ug {x:Str} {m:BM} {ds:List D} (hs:JX m=true) (h:Zv [.str x]=some (.tup ds)):Wj Zv Yv [none,some (.str x),none] m=some (true,m++[WY (.tup ds)]):=by
 show (if JX m=true/\2 < [none,some (D.str x),none].length then (Zv [.str x]).bind _ else none)=_
 rw [if_pos ⟨hs,by simp⟩,h];rfl
theorem Qb4 {x:Str} {m:BM} {is:List Im} {ds:List D} (hs:JX (m++[.pa is])=true) (h:Zv [.str x]=some .non) (h2:Yv [.str x]=some (.tup ds)):Wj Zv Yv [none,some (.str x),none] (m++[.pa is])=some (true,m++[.pa (is++[Vf (.tup ds)])]):=by
 show (if JX (m++[.pa is])=true/\2 < [none,some (D.str x),none].length then (Zv [.str x]).bind _ else none)=_
 rw [if_pos ⟨hs,by simp⟩,h]
 show (Yv [.str x]).bind _=_
 rw [h2]
 show (if JX (m++[.pa is])=true then (Z9 WL (m++[.pa is])).map (fun b=>if b=true then (true,ZL (X4 (Vf (.tup ds))) (m++[.pa is])) else (false,m++[.pa is])) else none)=_
 rw [if_pos hs,lQ,lU];rfl
def Jp:List Str->BM->Option BM
 | [],m=>some m
 | x::xs,m=>(JZ x m).bind fun r=>if r.1=true then Jp xs r.2 else none
theorem VE {x:Str} {xs:List Str} {m m':BM} {r:Option BM} (h:JZ x m=some (true,m')) (hr:Jp xs m'=r):Jp (x::xs) m=r:=by
 show (JZ x m).bind _=r
 rw [h];exact hr
theorem M8 {m m':BM} {r:Option BM}:∀ {xs ys:List Str},Jp xs m=some m'->Jp ys m'=r->Jp (xs++ys) m=r:=by
 intro xs
 induction xs generalizing m with
 | nil=>intro ys h hr;obtain rfl:=Option.some.inj h;exact hr
 | cons x xs ih =>
  intro ys h hr
  obtain ⟨q,h1,h2⟩:∃ q,JZ x m=some q/\(if q.1=true then Jp xs q.2 else none)=some m':=by
   have h':((JZ x m).bind fun r=>if r.1=true then Jp xs r.2 else none)=some m':=h
   cases hq:JZ x m with
   | none=>rw [hq] at h';cases h'
   | some q=>rw [hq] at h';exact ⟨q,rfl,h'⟩
  show (JZ x m).bind _=r
  rw [h1]
  show (if q.1=true then Jp (xs++ys) q.2 else none)=r
  split at h2
  ·rename_i hq;rw [if_pos hq];exact ih h2 hr
  ·cases h2
def Sml (m:BM):Prop:=m.length<=1000/\m.all Y1=true
theorem Sml.sh {m:BM} (h:Sml m):JX m=true:=by
 unfold JX
 rw [h.2,decide_eq_true (by have:=h.1;omega)];rfl
theorem Sml.snoc {m:BM} {b:Wd.Bk} (h:Sml m) (hl:m.length<1000) (hb:Y1 b=true):Sml (m++[b]):=⟨by rw [List.length_append];simp;omega,by rw [List.all_append,h.2];simp [hb]⟩
theorem DV {i:It} (h:i.ok):WT i.im=true:=by
 cases i with
 | word x ns=>exact decide_eq_true (by have:=h.2.2;omega)
 | _=>rfl
theorem PU {is:List It} (h:∀ i∈is,i.ok) (hl:is.length<=1000):Y1 (.pa (is.map It.im))=true:=by
 show (decide ((is.map It.im).length<100000)&&(is.map It.im).all WT)=true
 rw [decide_eq_true (by rw [List.length_map];omega),List.all_map]
 show (true&&is.all (WT∘It.im))=true
 rw [Bool.true_and,List.all_eq_true]
 exact fun i hi=>DV (h i hi)
theorem MD {m:BM} {lab:D} (h:Sml m) (hl:m.length<1000):∀ (rs acc:List Str),(∀ r∈rs,Sgn r)->acc.length+rs.length<=1000->Jp (rs.map fun r=>"row "++r) (m++[.tb acc lab])=some (m++[.tb (acc++rs) lab])
 | [],acc,_,_=>by rw [List.append_nil];rfl
 | r::rs,acc,hr,ha=>by
  rw [List.length_cons] at ha
  refine VE (GL (hr r List.mem_cons_self) (Sml.sh (h.snoc hl (decide_eq_true (by omega))))) ?_
  rw [MD h hl rs (acc++[r]) (fun x hx=>hr x (List.mem_cons_of_mem _ hx)) (by rw [List.length_append];simp;omega),List.append_assoc];rfl
theorem MC {m:BM} {is:List It} {x:Str} (h:Sml m) (hl:m.length<1000) (hi:∀ i∈is,i.ok) (il:is.length<1000):∀ (ns acc:List Str),(∀ r∈ns,Sgn r)->acc.length+ns.length<=1000->Jp (ns.map fun r=>"note "++r) (m++[.pa (is.map It.im++[.wd x acc])])=some (m++[.pa (is.map It.im++[.wd x (acc++ns)])])
 | [],acc,_,_=>by rw [List.append_nil];rfl
 | r::ns,acc,hr,ha=>by
  rw [List.length_cons] at ha
  have sh:Y1 (.pa (is.map It.im++[.wd x acc]))=true:=by
   have:=PU hi (by omega)
   simp only [Y1,Bool.and_eq_true] at this
   simp only [Y1,List.all_append,List.all_cons,List.all_nil,WT,Bool.and_eq_true,List.length_append,List.length_map,List.length_singleton]
   refine ⟨decide_eq_true (by omega),this.2,decide_eq_true (by omega),trivial⟩
  refine VE (GK (hr r List.mem_cons_self) ⟨.para (is++[.word x acc]),by show Wd.Bk.pa ((is++[It.word x acc]).map It.im)=_;rw [List.map_append];rfl⟩ (Sml.sh (h.snoc hl sh))) ?_
  rw [MC h hl hi il ns (acc++[r]) (fun x hx=>hr x (List.mem_cons_of_mem _ hx)) (by rw [List.length_append];simp;omega),List.append_assoc];rfl
theorem Ds (i:It):∃ (a r:Str) (c:Nat) (u:List Nat),i.first=a++r/\cs a=c::u/\c≠112/\c≠99/\c≠104/\c≠116/\Txt.startswith i.first "row "=false/\Txt.startswith i.first "note "=false:=by
 cases i with
 | word x ns=>exact ⟨"word ",x,_,_,rfl,rfl,by decide,by decide,by decide,by decide,sw rfl,sw rfl⟩
 | ref l a b=>exact ⟨"ref ",_,_,_,UU,rfl,by decide,by decide,by decide,by decide,by show Txt.startswith ("ref "++l++" "++a++"|"++b) _=_;rw [UU];exact sw rfl,by show Txt.startswith ("ref "++l++" "++a++"|"++b) _=_;rw [UU];exact sw rfl⟩
 | mark l=>exact ⟨"mark ",l,_,_,rfl,rfl,by decide,by decide,by decide,by decide,sw rfl,sw rfl⟩
 | key x=>exact ⟨"key ",x,_,_,rfl,rfl,by decide,by decide,by decide,by decide,sw rfl,sw rfl⟩
theorem Dw {i:It} (h:i.ok):Rw i.first:=by
 cases i with
 | word x ns=>exact ⟨JJ (Jk (by decide)) h.1.1.1,by show ("word "++x:Str).length<=_;rw [la];have:=h.1.1.2;have:("word ":Str).length=5:=rfl;omega⟩
 | ref l a b =>
  obtain ⟨hl,⟨⟨s1,la'⟩,_⟩,⟨s2,lb⟩,_⟩:=h
  refine ⟨JJ (JJ (JJ (JJ (JJ (Jk (by decide)) hl.sg) (Jk (by decide))) s1) (Jk (by decide))) s2,?_⟩
  have:=hl.le
  have:("ref ":Str).length=4:=rfl
  have:(" ":Str).length=1:=rfl
  have:("|":Str).length=1:=rfl
  show ("ref "++l++" "++a++"|"++b:Str).length<=_
  simp only [la];omega
 | mark l=>exact ⟨JJ (Jk (by decide)) (Lab.sg h),by show ("mark "++l:Str).length<=_;rw [la];have:=Lab.le h;have:("mark ":Str).length=5:=rfl;omega⟩
 | key x=>exact ⟨JJ (Jk (by decide)) h.1.1,by show ("key "++x:Str).length<=_;rw [la];have:=h.1.2;have:("key ":Str).length=4:=rfl;omega⟩
def It.more:It->List Str
 | .word _ ns=>ns.map fun n=>"note "++n
 | _=>[]
theorem Dv (i:It):i.rows=i.first::i.more:=by cases i<;>rfl
theorem Ct (i:It):∃ ds,i.new=.tup ds/\Vf i.new=(match i with | .word x _=>.wd x [] | i=>i.im):=by cases i<;>exact ⟨_,rfl,rfl⟩
theorem GJ {m:BM} {is:List It} {i:It} (h:Sml m) (hl:m.length<1000) (hi:∀ i∈is,i.ok) (il:is.length<1000) (ok:i.ok) (fr:i.free):Jp i.rows (m++[.pa (is.map It.im)])=some (m++[.pa ((is++[i]).map It.im)]):=by
 obtain ⟨a,r,c,u,e,ha,h1,h2,h3,h4,h5,h6⟩:=Ds i
 obtain ⟨ds,en,et⟩:=Ct i
 have sh:=Sml.sh (h.snoc hl (PU hi (by omega)))
 have hb:Zv [.str i.first]=some .non:=by rw [e];exact Qax ha h1 h2 h3 h4
 have hit:=QaA ok fr
 rw [en] at hit
 have one:=Wh (Dw ok) h5 h6 (IC (m:=m) ⟨.para is,rfl⟩) (Qb4 sh hb hit)
 rw [<- en,et] at one
 rw [Dv,List.map_append]
 refine VE one ?_
 cases i with
 | word x ns =>
  have:=MC (x:=x) h hl hi il ns [] ok.2.1 (by have:=ok.2.2;simp;omega)
  rw [List.nil_append] at this
  exact this
 | ref a b c=>rfl
 | mark a=>rfl
 | key a=>rfl
theorem MB {m:BM} (h:Sml m) (hl:m.length<1000):∀ (is acc:List It),(∀ i∈acc,i.ok)->(∀ i∈is,i.ok/\i.free)->acc.length+is.length<=1000->Jp (is.flatMap It.rows) (m++[.pa (acc.map It.im)])=some (m++[.pa ((acc++is).map It.im)])
 | [],acc,_,_,_=>by rw [List.append_nil];rfl
 | i::is,acc,ha,hi,hn=>by
  rw [List.length_cons] at hn
  obtain ⟨ok,fr⟩:=hi i List.mem_cons_self
  rw [List.flatMap_cons]
  refine M8 (GJ h hl ha (by omega) ok fr) ?_
  rw [MB h hl is (acc++[i]) (fun x hx=>by
   rcases List.mem_append.mp hx with z | z
   ·exact ha x z
   ·rw [List.mem_singleton.mp z];exact ok) (fun x hx=>hi x (List.mem_cons_of_mem _ hx)) (by rw [List.length_append];simp;omega),List.append_assoc];rfl
def Bo.free:Bo->Prop
 | .para is=>∀ i∈is,i.free
 | _=>True
theorem Ov (b:Str):Txt.startswith "para" b=(cs b).isPrefixOf (cs "para"):=Hj _ _
theorem Gk {b:Bo} (h:b.ok):Rw b.first/\Txt.startswith b.first "row "=false/\Txt.startswith b.first "note "=false:=by
 have tl:=WX (Bo.lab_ok h)
 have ts:=Qb0 (Bo.lab_ok h)
 have e1:(" ":Str).length=1:=rfl
 cases b with
 | chap t l =>
  have t2:=h.1.le
  have tl:(QH l).length<=2000:=tl
  have e8:("chapter ":Str).length=8:=rfl
  have e:"chapter "++QH l++" "++t="chapter "++(QH l++(" "++t)):=by simp only [Y6]
  have e':(Bo.chap t l).first="chapter "++(QH l++(" "++t)):=e
  refine ⟨⟨JJ (JJ (JJ (Jk (by decide)) ts) (Jk (by decide))) h.1.1.1,?_⟩,?_,?_⟩<;>rw [e']
  ·rw [<- e];simp only [la];omega
  ·exact sw rfl
  ·exact sw rfl
 | head t k l =>
  have t2:=h.1.le
  have tl:(QH l).length<=2000:=tl
  have nl:=V4 h.2.1
  have e8:("heading ":Str).length=8:=rfl
  have e:"heading "++QV k++" "++QH l++" "++t="heading "++(QV k++(" "++(QH l++(" "++t)))):=by simp only [Y6]
  have e':(Bo.head t k l).first="heading "++(QV k++(" "++(QH l++(" "++t)))):=e
  refine ⟨⟨JJ (JJ (JJ (JJ (JJ (Jk (by decide)) (IG k)) (Jk (by decide))) ts) (Jk (by decide))) h.1.1.1,?_⟩,?_,?_⟩<;>rw [e']
  ·rw [<- e];simp only [la];omega
  ·exact sw rfl
  ·exact sw rfl
 | tab rs l =>
  have tl:(QH l).length<=2000:=tl
  have e8:("table ":Str).length=6:=rfl
  refine ⟨⟨JJ (Jk (by decide)) ts,?_⟩,sw rfl,sw rfl⟩
  show ("table "++QH l:Str).length<=_
  simp only [la];omega
 | plat n l =>
  have tl:(QH l).length<=2000:=tl
  have nl:=V4 h.2.1
  have e8:("plates ":Str).length=7:=rfl
  have e:"plates "++QV n++" "++QH l="plates "++(QV n++(" "++QH l)):=by simp only [Y6]
  have e':(Bo.plat n l).first="plates "++(QV n++(" "++QH l)):=e
  refine ⟨⟨JJ (JJ (JJ (Jk (by decide)) (IG n)) (Jk (by decide))) ts,?_⟩,?_,?_⟩<;>rw [e']
  ·rw [<- e];simp only [la];omega
  ·exact sw rfl
  ·exact sw rfl
 | para is=>exact ⟨⟨Jk (show (cs "para").all _=true by decide),show ("para":Str).length<=90000 by decide⟩,by show Txt.startswith "para" "row "=false;rw [Ov];rfl,by show Txt.startswith "para" "note "=false;rw [Ov];rfl⟩
theorem GH {m:BM} {b:Bo} (h:Sml m) (hl:m.length<1000) (nl:Vj m) (ok:b.ok) (fr:b.free):Jp b.rows m=some (m++[b.bk]):=by
 obtain ⟨r,h1,h2⟩:=Gk ok
 have rb:=Qaw ok
 show Jp (b.first::b.more) m=_
 cases b with
 | chap t l=>exact VE (Wh r h1 h2 nl (Ug h.sh rb)) rfl
 | head t k l=>exact VE (Wh r h1 h2 nl (Ug h.sh rb)) rfl
 | plat n l=>exact VE (Wh r h1 h2 nl (Ug h.sh rb)) rfl
 | tab rs l =>
  refine VE (m':=m++[.tb [] (.str l)]) (Wh r h1 h2 nl (Ug h.sh rb)) ?_
  exact MD h hl rs [] ok.1 (by have:=ok.2.2.1;simp;omega)
 | para is =>
  refine VE (m':=m++[.pa []]) (Wh r h1 h2 nl (Ug h.sh rb)) ?_
  exact MB h hl is [] (fun _ h=>nomatch h) (fun i hi=>⟨ok.1 i hi,fr i hi⟩) (by have:=ok.2;simp;omega)
theorem Ge {b:Bo} (ok:b.ok):Y1 b.bk=true:=by
 cases b with
 | para is=>exact PU ok.1 (by have:=ok.2;omega)
 | tab rs l=>exact decide_eq_true (by have:=ok.2.2.1;omega)
 | _=>rfl
theorem Cu {m:BM} {b:Bo} (ok:b.ok):Vj (m++[b.bk]):=.inr ⟨m,b,rfl,fun rs l e=>by rw [e] at ok;exact ok.2.1⟩
theorem MA:∀ (bs:List Bo) (m:BM),Sml m->Vj m->m.length+bs.length<=1000->(∀ b∈bs,b.ok/\b.free)->Jp (QW bs) m=some (m++bs.map Bo.bk)/\Vj (m++bs.map Bo.bk)
 | [],m,_,nl,_,_=>by rw [List.map_nil,List.append_nil];exact ⟨rfl,nl⟩
 | b::bs,m,h,nl,hl,hb=>by
  rw [List.length_cons] at hl
  obtain ⟨ok,fr⟩:=hb b List.mem_cons_self
  obtain ⟨h1,h2⟩:=MA bs (m++[b.bk]) (h.snoc (by omega) (Ge ok)) (Cu ok) (by rw [List.length_append];simp;omega) fun x hx=>hb x (List.mem_cons_of_mem _ hx)
  rw [List.append_assoc] at h1 h2
  exact ⟨M8 (xs:=b.rows) (GH h (by omega) nl ok fr) h1,h2⟩
theorem Kt {R:Option D}:∀ (xs:List Str) (n:Nat) (a b:Option D) (m m':BM),Jp xs m=some m'->∃ a' b',Wd.loopR (Jt [gS 2,gS 3]) (Y7 3 JZ) (Zu n (xs.map .str)) [R,none,a,b] m=some ([R,none,a',b'],m')
 | [],n,a,b,m,m',h=>by obtain rfl:=Option.some.inj h;exact ⟨a,b,rfl⟩
 | x::xs,n,a,b,m,m',h=>by
  have h':((JZ x m).bind fun r=>if r.1=true then Jp xs r.2 else none)=some m':=h
  cases hq:JZ x m with
  | none=>rw [hq] at h';cases h'
  | some q =>
   rw [hq] at h'
   have h2:(if q.1=true then Jp xs q.2 else none)=some m':=h'
   split at h2
   ·rename_i ht
    obtain ⟨a',b',ih⟩:=Kt (R:=R) xs (n+1) (some (.int n)) (some (.str x)) q.2 m' h2
    refine ⟨a',b',?_⟩
    have hb:Y7 3 JZ [R,none,some (.int n),some (.str x)] m=some ([R,none,some (.int n),some (.str x)],q.2):=by
     show (if [R,none,some (D.int n),some (D.str x)].length<=1000 then (JZ x m).bind (fun r=>if r.1=true then some ([R,none,some (D.int n),some (D.str x)],r.2) else none) else none)=_
     rw [if_pos (by simp),hq]
     show (if q.1=true then _ else none)=_
     rw [if_pos ht]
    show ((Jt [gS 2,gS 3] (.tup [.int n,.str x]) [R,none,a,b]).bind fun e1=>(Y7 3 JZ e1 m).bind fun r=>Wd.loopR (Jt [gS 2,gS 3]) (Y7 3 JZ) (Zu (n+1) (xs.map .str)) r.1 r.2)=_
    show ((Y7 3 JZ [R,none,some (.int n),some (.str x)] m).bind fun r=>Wd.loopR (Jt [gS 2,gS 3]) (Y7 3 JZ) (Zu (n+1) (xs.map .str)) r.1 r.2)=_
    rw [hb];exact ih
   ·cases h2
theorem Qav {bs:List Bo} (h:ZE bs) (hf:∀ b∈bs,b.free):Yu [QF (QW bs)]=some (bs.map Bo.d):=by
 obtain ⟨h1,h2⟩:=MA bs [] ⟨by simp,rfl⟩ (.inl rfl) (by have:=h.2;simp;omega) fun b hb=>⟨h.1 b hb,hf b hb⟩
 rw [List.nil_append] at h1 h2
 obtain ⟨a',b',hl⟩:=Kt (R:=some (QF (QW bs))) (QW bs) 0 none none [] _ h1
 have hb:V7 (Yy (eV 0)) (Jt [gS 2,gS 3]) (Y7 3 JZ) [some (QF (QW bs)),none,none,none] []=some ([some (QF (QW bs)),none,a',b'],bs.map Bo.bk):=hl
 have hk:=Pc h2
 unfold Yu Xf
 rw [if_pos (show [QF (QW bs)].length=1 from rfl)]
 show Uz [some (QF (QW bs)),none,none,none]=_
 unfold Uz SI
 rw [if_pos ⟨by simp,by simp⟩]
 show ((V7 (Yy (eV 0)) (Jt [gS 2,gS 3]) (Y7 3 JZ) [some (QF (QW bs)),none,none,none] []).bind _)=_
 rw [hb]
 show (if [some (QF (QW bs)),none,a',b'].length<=1000/\X3 (eK W2 (lC (eV 1) lN) [some (QF (QW bs)),some (JM (bs.map Bo.bk)),a',b'])=true then some ((bs.map Bo.bk).map J3) else none)=_
 rw [QX (x:=JM (bs.map Bo.bk)) rfl hk,if_pos ⟨by simp,rfl⟩,List.map_map,show (J3∘Bo.bk)=Bo.d from funext Gd]
theorem Pb {s:Str} {a:Nat}:∀ {ps:List Str},a∈cs (Str.join s ps)->a∈cs s\/∃ p∈ps,a∈cs p
 | [],h=>absurd h (by show a∉[];simp)
 | [p],h=>.inr ⟨p,by simp,h⟩
 | p::q::ps,h=>by
  have h':a∈cs (p++s++Str.join s (q::ps)):=h
  rw [Qx,Qx] at h'
  rcases List.mem_append.mp h' with z | z
  ·rcases List.mem_append.mp z with z | z
   ·exact .inr ⟨p,by simp,z⟩
   ·exact .inl z
  ·rcases Pb z with z | ⟨r,hr,z⟩
   ·exact .inl z
   ·exact .inr ⟨r,List.mem_cons_of_mem _ hr,z⟩
theorem Kx {s:Str} {a:Nat}:∀ {ps:List Str} {p:Str},p∈ps->a∈cs p->a∈cs (Str.join s ps)
 | [q],p,hp,ha=>by rw [List.mem_singleton.mp hp] at ha;exact ha
 | q::r::ps,p,hp,ha=>by
  show a∈cs (q++s++Str.join s (r::ps))
  rw [Qx,Qx]
  rcases List.mem_cons.mp hp with rfl | h
  ·exact List.mem_append_left _ (List.mem_append_left _ ha)
  ·exact List.mem_append_right _ (Kx h ha)
theorem Kf {s t:Str} (h:s.length=t.length):∀ ps:List Str,(Str.join s ps).length=(Str.join t ps).length
 | []=>rfl
 | [p]=>rfl
 | p::q::ps=>by
  show (p++s++Str.join s (q::ps)).length=(p++t++Str.join t (q::ps)).length
  rw [la,la,la,la,Kf h (q::ps),h]
theorem HK {x:Str} {z:Nat} (h:RT x) (hz:sg z) (hz1:z≠32) (hz2:z≠124):RT (Txt.replace x ⟨#[124]⟩ ⟨#[z]⟩)/\124∉cs (Txt.replace x ⟨#[124]⟩ ⟨#[z]⟩):=by
 rw [StrLaws.replace_one]
 have hj:=StrLaws.join_split x ⟨#[124]⟩
 have hf:=StrLaws.split_free x 124
 generalize Txt.split x ⟨#[124]⟩=ps at *
 have mem:∀ c∈cs (Str.join ⟨#[z]⟩ ps),c=z\/(c∈cs x/\c≠124):=fun c hc=>by
  rcases Pb hc with h | ⟨p,hp,h⟩
  ·exact .inl (List.mem_singleton.mp h)
  ·refine .inr ⟨by rw [<- hj];exact Kx hp h,fun e=>hf p hp (e▸h)⟩
 refine ⟨⟨⟨fun c hc=>?_,?_⟩,fun hc=>?_⟩,fun hc=>?_⟩
 ·rcases mem c hc with rfl | ⟨h',_⟩
  ·exact hz
  ·exact h.1.1 c h'
 ·rw [Kf (s:=⟨#[z]⟩) (t:=⟨#[124]⟩) (show (1:Nat)=1 from rfl),hj];exact h.1.2
 ·rcases mem 32 hc with e | ⟨h',_⟩
  ·exact hz1 e.symm
  ·exact h.2 h'
 ·rcases mem 124 hc with e | ⟨_,h'⟩
  ·exact hz2 e.symm
  ·exact h' rfl
def It.plain:It->It
 | .ref l a b=>.ref l (Txt.replace a "|" "!") (Txt.replace b "|" ".")
 | i=>i
def Bo.plain:Bo->Bo
 | .para is=>.para (is.map It.plain)
 | b=>b
theorem KZ {i:It} (h:i.ok):i.plain.ok/\i.plain.free:=by
 cases i with
 | ref l a b =>
  obtain ⟨hl,ha,hb⟩:=h
  obtain ⟨a1,a2⟩:=HK (z:=33) ha ⟨by omega,by omega,by omega⟩ (by omega) (by omega)
  obtain ⟨b1,b2⟩:=HK (z:=46) hb ⟨by omega,by omega,by omega⟩ (by omega) (by omega)
  exact ⟨⟨hl,a1,b1⟩,a2,b2⟩
 | word x ns=>exact ⟨h,trivial⟩
 | mark l=>exact ⟨h,trivial⟩
 | key x=>exact ⟨h,trivial⟩
theorem LH {b:Bo} (h:b.ok):b.plain.ok/\b.plain.free:=by
 cases b with
 | para is =>
  refine ⟨⟨fun i hi=>?_,by rw [List.length_map];exact h.2⟩,fun i hi=>?_⟩
  ·obtain ⟨j,hj,rfl⟩:=List.mem_map.mp hi;exact (KZ (h.1 j hj)).1
  ·obtain ⟨j,hj,rfl⟩:=List.mem_map.mp hi;exact (KZ (h.1 j hj)).2
 | chap t l=>exact ⟨h,trivial⟩
 | head t k l=>exact ⟨h,trivial⟩
 | tab rs l=>exact ⟨h,trivial⟩
 | plat n l=>exact ⟨h,trivial⟩
theorem HJ {x y z:Str} (h:x.length<=2000):D.repl y z (.str x)=some (.str (Txt.replace x y z)):=if_pos (by omega)
theorem Ay {bs:List Bo} (h:ZE bs):P7 [.lst (bs.map Bo.d)]=some (.lst ((bs.map Bo.plain).map Bo.d)):=by
 refine QJ rfl (st (QG (e1:=[some (.lst (bs.map Bo.d)),some (.lst []),none,none,none]) rfl rfl) ?_)
 refine Ou (V:=Option D×Option D×Option D) Bo.d (fun i=>[i.plain.d]) 100000 1 (fun l v=>[some (.lst (bs.map Bo.d)),some (.lst l),v.1,v.2.1,v.2.2]) bs [] (none,none,none) rfl rfl (fun i hm=>by simp) (by have:=h.2;simp;omega) (fun b hm l v hb=>?_) fun v=>?_
 ·have ok:=h.1 b hm
  have lim:l.length+1<=2000000:=by have:[b.plain.d].length=1:=rfl;omega
  have oth:∀ {b:Bo},b.plain=b->(∀ e,eV 2 e=some b.d->Q0 D.eqO (Q0 D.ix (eV 2) (eC (.int 0))) (eC (.str "para")) e=some (.bl false))->∃ v':Option D×Option D×Option D,(gS 2 b.d [some (.lst (bs.map Bo.d)),some (.lst l),v.1,v.2.1,v.2.2]).bind (sQ (QD (Q0 D.eqO (Q0 D.ix (eV 2) (eC (.int 0))) (eC (.str "para"))) (sQ (QE (QY (lN)) (gS 3)) (sQ (Qq (JP (Q0 D.ix (eV 2) (eC (.int 1)))) (gS 4) (sQ (QD (Q0 D.eqO (Q0 D.ix (eV 4) (eC (.int 0))) (eC (.str "ref"))) (QE (Qa (lC (eC (.str "ref")) (lC (Q0 D.ix (eV 4) (eC (.int 1))) (lC (QA (D.replI 2 "|" "!") (eV 4)) (lC (QA (D.replI 3 "|" ".") (eV 4)) lN))))) (gS 4)) (QK)) (sP 3 (eV 4)))) (QE (Qa (lC (eC (.str "para")) (lC (eV 3) lN))) (gS 2)))) (QK)) (sP 1 (eV 2)))=some (.nx [some (.lst (bs.map Bo.d)),some (.lst (l++[b.plain.d])),v'.1,v'.2.1,v'.2.2]):=fun {b} e hk=>⟨(some b.d,v.2.1,v.2.2),Je (e1:=[some (.lst (bs.map Bo.d)),some (.lst l),some b.d,v.2.1,v.2.2]) rfl (st (Q9 (hk _ rfl) rfl) (by rw [e];exact JB rfl rfl (JE lim)))⟩
  cases b with
  | para is =>
   have il:=ok.2
   obtain ⟨w,hw⟩:=Wg (V:=Option D) (it:=JP (Q0 D.ix (eV 2) (eC (.int 1)))) (g:=gS 4) (b:=sQ (QD (Q0 D.eqO (Q0 D.ix (eV 4) (eC (.int 0))) (eC (.str "ref"))) (QE (Qa (lC (eC (.str "ref")) (lC (Q0 D.ix (eV 4) (eC (.int 1))) (lC (QA (D.replI 2 "|" "!") (eV 4)) (lC (QA (D.replI 3 "|" ".") (eV 4)) lN))))) (gS 4)) (QK)) (sP 3 (eV 4))) (e:=[some (.lst (bs.map Bo.d)),some (.lst l),some (Bo.para is).d,some (.lst []),v.2.2]) It.d (fun i=>[i.plain.d]) 1000 1 (fun l' v=>[some (.lst (bs.map Bo.d)),some (.lst l),some (Bo.para is).d,some (.lst l'),v]) is [] v.2.2 rfl rfl (fun i hm=>by simp) (by simp;omega) fun i hm l' v hb=>by
    have lim':l'.length+1<=2000000:=by have:[i.plain.d].length=1:=rfl;omega
    have oki:=ok.1 i hm
    refine ⟨some i.plain.d,Je (e1:=[some (.lst (bs.map Bo.d)),some (.lst l),some (Bo.para is).d,some (.lst l'),some i.d]) rfl ?_⟩
    cases i with
    | ref a b c=>exact st (QU (kT rfl) (QG (XJ rfl (Q1 rfl rfl rfl) (Qi rfl (HJ oki.2.1.1.2)) (Qi rfl (HJ oki.2.2.1.2))) rfl)) (JB rfl rfl (JE lim'))
    | word x ns=>exact st (Q9 (kF rfl) rfl) (JB rfl rfl (JE lim'))
    | mark a=>exact st (Q9 (kF rfl) rfl) (JB rfl rfl (JE lim'))
    | key a=>exact st (Q9 (kF rfl) rfl) (JB rfl rfl (JE lim'))
   have em:is.flatMap (fun i=>[i.plain.d])=(is.map It.plain).map It.d:=by rw [<- List.map_eq_flatMap,List.map_map];rfl
   rw [List.nil_append,em] at hw
   exact ⟨(some (Bo.para is).plain.d,some (.lst ((is.map It.plain).map It.d)),w),Je (e1:=[some (.lst (bs.map Bo.d)),some (.lst l),some (Bo.para is).d,v.2.1,v.2.2]) rfl (st (QU (kT rfl) (st (QG rfl rfl) (st hw (QG (VB rfl rfl) rfl)))) (JB rfl rfl (JE lim)))⟩
  | tab rs lb=>exact oth rfl fun e he=>kF he
  | chap t lb=>exact oth rfl fun e he=>kF he
  | head t k lb=>exact oth rfl fun e he=>kF he
  | plat n lb=>exact oth rfl fun e he=>kF he
 ·rw [List.nil_append,<- List.map_eq_flatMap,List.map_map];rfl
theorem VO {i j:Int} (h:-(2^64)<j/\j<2^64):D.mulA (.int i) (.int j)=some (.int (i*j)):=by show D.mul (.int i) (.int j)=_;exact Cp h
theorem V3 {i j:Int} (h:-(2^64)<i/\i<2^64):D.mulA (.int i) (.int j)=some (.int (i*j)):=by show D.mul (.int i) (.int j)=_;exact Co h
theorem Qd {i j:Int} (h:0<j):D.mod (.int i) (.int j)=some (.int (i%j)):=Cg h
theorem Jn {i j:Int} (h:0<j/\j<1073741824):D.fdiv (.int i) (.int j)=some (.int (i/j)):=D7 h
def iL (xs:List Int):D:=.lst (xs.map .int)
theorem Tj {xs:List Int} {j:Int} (h0:0<=j) (h1:j<xs.length):∃ x∈xs,D.ix (iL xs) (.int j)=some (.int x):=by
 have hj:j.toNat<xs.length:=by omega
 refine ⟨xs[j.toNat],List.getElem_mem hj,?_⟩
 show ((Qu (xs.map D.int).length j).bind fun k=>(xs.map D.int)[k]?)=_
 unfold Qu
 rw [if_pos h0,if_pos (by rw [List.length_map];exact h1)]
 show (xs.map D.int)[j.toNat]?=_
 rw [List.getElem?_map,List.getElem?_eq_getElem hj];rfl
def Dr (x:Int):Prop:=0<=x/\x<2147483629
theorem Lw (ns:List Int) {turn:Int} {many:Nat} (ht:0<=turn/\turn<=2000) (hm:many<=1000):∃ xs:List Int,TQ [.scr ns,.int turn,.int many]=some (iL xs)/\xs.length=many/\∀ x∈xs,Dr x:=by
 refine P1 (P:=fun xs:List Int=>xs.length=many/\∀ x∈xs,Dr x) rfl ?_
 obtain ⟨cells,hc,cp⟩:∃ cells:List Int,Q0 D.add (YW (eV 0) (Xx) (Zj (eC (.int 63)))) (QY (lC (eV 1) lN)) [some (.scr ns),some (.int turn),some (.int many),none,none,none,none,none]=some (iL cells)/\0<cells.length:=by
  refine ⟨Jf ns none (some 63)++[turn],?_,by simp⟩
  refine Q1 (x:=.lst ((Jf ns none (some 63)).map .int)) (T5 rfl rfl rfl rfl) (W6 rfl) ?_
  have hl:(Jf ns none (some 63)).length<=63:=by unfold Jf;rw [List.length_take];show min (min (Int.toNat 63) _-0) _<=63;omega
  rw [M9 (by rw [List.length_map];simp;omega)]
  unfold iL
  rw [List.map_append];rfl
 refine Ys (QG hc rfl) (Ys (QG rfl rfl) ?_)
 let R:Nat->Q2->Prop:=fun i e=>∃ (xs:List Int) (a b c:Option D),e=[some (.scr ns),some (.int turn),some (.int many),some (iL cells),some (iL xs),a,b,c]/\xs.length=i/\∀ x∈xs,Dr x
 have h0:R 0 [some (.scr ns),some (.int turn),some (.int many),some (iL cells),some (.lst []),none,none,none]:=⟨[],none,none,none,rfl,rfl,fun _ h=>nomatch h⟩
 have step:∀ i,i<many->∀ e,R i e->∃ e',((gS 5 (.int (0+(i:Int))) e).bind (sQ (QE (Q0 D.add (Q0 D.mulA (Q0 D.mulA (Q0 D.add (eV 5) (eV 1)) (Q0 D.add (eV 5) (eV 1))) (eC (.int 7919))) (eC (.int 104729))) (gS 6)) (sQ (QE (Q0 D.mod (Q0 D.mulA (Q0 D.add (Q0 D.mod (Q0 D.ix (eV 3) (Q0 D.mod (eV 5) (QA D.len (eV 3)))) (eC (.int 2147483647))) (eV 6)) (eC (.int 48271))) (eC (.int 2147483647))) (gS 7)) (sP 4 (Q0 D.mod (Q0 D.add (Q0 D.mulA (eV 7) (eV 7)) (Q0 D.mulA (eC (.int 69621)) (eV 5))) (eC (.int 2147483629))))))=some (.nx e')\/(gS 5 (.int (0+(i:Int))) e).bind (sQ (QE (Q0 D.add (Q0 D.mulA (Q0 D.mulA (Q0 D.add (eV 5) (eV 1)) (Q0 D.add (eV 5) (eV 1))) (eC (.int 7919))) (eC (.int 104729))) (gS 6)) (sQ (QE (Q0 D.mod (Q0 D.mulA (Q0 D.add (Q0 D.mod (Q0 D.ix (eV 3) (Q0 D.mod (eV 5) (QA D.len (eV 3)))) (eC (.int 2147483647))) (eV 6)) (eC (.int 48271))) (eC (.int 2147483647))) (gS 7)) (sP 4 (Q0 D.mod (Q0 D.add (Q0 D.mulA (eV 7) (eV 7)) (Q0 D.mulA (eC (.int 69621)) (eV 5))) (eC (.int 2147483629))))))=some (.ct e'))/\R (i+1) e':=by
  rintro i hi e ⟨xs,a,b,c,rfl,hl,hx⟩
  have hlen:D.len (iL cells)=some (.int (cells.length:Nat)):=by show some (D.int ((cells.map D.int).length:Nat))=_;rw [List.length_map]
  obtain ⟨q,_,hq⟩:=Tj (xs:=cells) (j:=(0+(i:Int))%(cells.length:Nat)) (Int.emod_nonneg _ (by omega)) (Int.emod_lt_of_pos _ (by omega))
  have hb:∀ y:Int,-(2^64)<y%2147483647/\y%2147483647<2^64:=fun y=>by have:=Int.emod_nonneg y (b:=2147483647) (by omega);have:=Int.emod_lt_of_pos y (b:=2147483647) (by omega);omega
  refine ⟨_,.inl (Je rfl (st (QG (Q1 (Q1 (Q1 (Q1 rfl rfl rfl) (Q1 rfl rfl rfl) (VO (by omega))) rfl (VO (by decide))) rfl rfl) rfl) (st (QG (Q1 (Q1 (Q1 (Q1 (Q1 rfl (Q1 rfl (Qi rfl hlen) (Qd (by omega))) hq) rfl (Qd (by decide))) rfl rfl) rfl (VO (by decide))) rfl (Qd (by decide))) rfl) (JB rfl (Q1 (Q1 (Q1 rfl rfl (VO (hb _))) (Q1 rfl rfl (V3 (by decide))) rfl) rfl (Qd (by decide))) (JE (xs:=xs.map .int) ?_))))),?_⟩
  ·rw [List.length_map];omega
  ·refine ⟨xs++[_],_,_,_,by unfold iL;rw [List.map_append];rfl,by rw [List.length_append,hl];rfl,fun x h=>?_⟩
   rcases List.mem_append.mp h with z | z
   ·exact hx x z
   ·rw [List.mem_singleton.mp z]
    exact ⟨Int.emod_nonneg _ (by omega),Int.emod_lt_of_pos _ (by omega)⟩
 obtain ⟨e',h1,xs,a,b,c,rfl,hl,hx⟩:=Ts many R step _ h0
 refine ⟨xs,st (e1:=[some (.scr ns),some (.int turn),some (.int many),some (iL cells),some (iL xs),a,b,c]) ?_ (ret rfl),hl,hx⟩
 unfold Qq
 rw [VZ (n:=many) rfl (by omega)]
 exact h1
def Tx (n:Nat) (x:Str):Prop:=x.length=n/\∀ c∈cs x,sg c/\c≠32
theorem C4 {x:Str} {j:Int} (hl:x.length<=1000) (h0:0<=j) (h1:j<x.length):∃ c∈cs x,D.ix (.str x) (.int j)=some (.str ⟨#[c]⟩):=by
 have hj:j.toNat<x.cps.size:=by show j.toNat<x.length;omega
 refine ⟨x.cps[j.toNat],by unfold cs;exact Array.mem_toList_iff.mpr (Array.getElem_mem hj),?_⟩
 show (if x.length<=Qc then (Qu x.length j).bind fun k=>(x.cps[k]?).map fun c=>D.str ⟨#[c]⟩ else none)=_
 rw [if_pos (by show _<=16777216;omega)]
 unfold Qu
 rw [if_pos h0,if_pos h1]
 show (x.cps[j.toNat]?).map _=_
 rw [Array.getElem?_eq_getElem hj];rfl
theorem GS {c : Nat} (h : c ∈ cs "!\"#$&'()*+,-./0123456789:;<=>?@ABCDEFGHIJKLMNOPQRSTUVWXYZ[\\]^_`abcdefghijklmnopqrstuvwxyz{|}~") : sg c /\ c ≠ 32 := by
 have : (cs "!\"#$&'()*+,-./0123456789:;<=>?@ABCDEFGHIJKLMNOPQRSTUVWXYZ[\\]^_`abcdefghijklmnopqrstuvwxyz{|}~").all (fun c => decide (32 <= c) && decide (c <= 126) && decide (c ≠ 37) && decide (c ≠ 32)) = true := by decide +kernel
 have:=List.all_eq_true.mp this c h
 simp only [Bool.and_eq_true,decide_eq_true_eq] at this
 exact ⟨⟨this.1.1.1,this.1.1.2,this.1.2⟩,this.2⟩
theorem Qb2 (d:Int) {n:Nat} (hn:n<=1000):∃ x,ZS [.int d,.int n]=some (.str x)/\Tx n x:=by
 refine P1 (dd:=D.str) (P:=Tx n) rfl ?_
 obtain ⟨AL, hA, lA, cA⟩ : ∃ AL : Str, "!\"#$&'()*+,-./0123456789:;<=>?@ABCDEFGHIJKLMNOPQRSTUVWXYZ[\\]^_`abcdefghijklmnopqrstuvwxyz{|}~" = AL /\ AL.length = 93 /\ ∀ c ∈ cs AL, sg c /\ c ≠ 32 := ⟨_, rfl, by decide +kernel, fun c hc => GS hc⟩
 unfold RW
 rw [hA]
 refine Ys (QG rfl rfl) (Ys (QG rfl rfl) ?_)
 let R:Nat->Q2->Prop:=fun i e=>∃ (d:Int) (x:Str) (v:Option D),e=[some (.int d),some (.int n),some (.str AL),some (.str x),v]/\Tx i x
 have h0:R 0 [some (.int d),some (.int n),some (.str AL),some (.str ""),none]:=⟨d,"",none,rfl,rfl,fun c h=>absurd h (by show c∉[];simp)⟩
 obtain ⟨e',h1,d',x,v,rfl,hx⟩:=Ts (g:=gS 4) (b:=sQ (QE (Q0 D.mod (Q0 D.add (Q0 D.add (Q0 D.mulA (eV 0) (eC (.int 48271))) (Q0 D.mulA (eC (.int 11)) (eV 4))) (eC (.int 7))) (eC (.int 2147483647))) (gS 0)) (QE (Q0 D.add (eV 3) (Q0 D.ix (eV 2) (Q0 D.mod (eV 0) (QA D.len (eV 2))))) (gS 3))) n R (by
  rintro i hi e ⟨d,x,v,rfl,hl,hc⟩
  have hlen:D.len (.str AL)=some (.int 93):=by show (if AL.length<=Qc then some (D.int AL.length) else none)=_;rw [if_pos (by rw [lA];decide),lA];rfl
  obtain ⟨c,hm,hq⟩:=C4 (x:=AL) (j:=((d*48271+11*(0+(i:Int))+7)%2147483647)%93) (by omega) (Int.emod_nonneg _ (by omega)) (by rw [lA];exact Int.emod_lt_of_pos _ (by omega))
  refine ⟨_,.inl (Je rfl (st (QG (Q1 (Q1 (Q1 (Q1 rfl rfl (VO (by decide))) (Q1 rfl rfl (V3 (by decide))) rfl) rfl rfl) rfl (Qd (by decide))) rfl) (QG (Q1 rfl (Q1 rfl (Q1 rfl (Qi rfl hlen) (Qd (by decide))) hq) (JR ?_)) rfl))),?_⟩
  ·show x.length+1<=_;omega
  ·refine ⟨_,x++⟨#[c]⟩,_,rfl,by rw [la,hl];rfl,fun c' h=>?_⟩
   rw [Qx] at h
   rcases List.mem_append.mp h with z | z
   ·exact hc c' z
   ·rw [List.mem_singleton.mp z];exact cA c hm) _ h0
 refine ⟨x,st (e1:=[some (.int d'),some (.int n),some (.str AL),some (.str x),v]) ?_ (ret rfl),hx⟩
 unfold Qq
 rw [VZ (n:=n) rfl (by omega)]
 exact h1
theorem Tx.sgn {n:Nat} {x:Str} (h:Tx n x) (hn:n<=2000):Sgn x:=⟨fun c hc=>(h.2 c hc).1,by rw [h.1];exact hn⟩
theorem Tx.no {n:Nat} {x:Str} (h:Tx n x):32∉cs x:=fun z=>(h.2 32 z).2 rfl
theorem Tx.ne {n:Nat} {x:Str} (h:Tx n x) (hn:0<n):cs x≠[]:=fun z=>by have:=h.1;rw [ZW,z] at this;simp at this;omega
theorem Tx.wrd {n:Nat} {x:Str} (h:Tx n x) (h0:0<n) (hn:n<=2000):XS x:=⟨h.sgn hn,h.ne h0,h.no⟩
theorem Tx.rt {n:Nat} {x:Str} (h:Tx n x) (hn:n<=2000):RT x:=⟨h.sgn hn,h.no⟩
theorem X5 {xs:List D} {j:Int} (h0:0<=j) (h1:j<xs.length):∃ x∈xs,D.ix (.lst xs) (.int j)=some x:=by
 have hj:j.toNat<xs.length:=by omega
 refine ⟨xs[j.toNat],List.getElem_mem hj,?_⟩
 show ((Qu xs.length j).bind fun k=>xs[k]?)=_
 unfold Qu
 rw [if_pos h0,if_pos h1]
 exact List.getElem?_eq_getElem hj
theorem JC {i j:Int} (h:0<j):0<=i%j/\i%j<j:=⟨Int.emod_nonneg _ (by omega),Int.emod_lt_of_pos _ h⟩
theorem Ve (d:Int) {j:Int} (h0:0<=j) (h1:j<=1000):∃ x,ZS [.int d,.int j]=some (.str x)/\Tx j.toNat x:=by
 obtain ⟨n,rfl⟩:=Int.eq_ofNat_of_zero_le h0
 exact Qb2 d (by omega)
theorem HL (d:Int):∃ x,Yt [.int d]=some (.str x)/\Sgn x:=by
 have s0:∀ x∈[D.str "",.str "",.str " ",.str "  "],∃ y:Str,x=.str y/\(∀ c∈cs y,sg c)/\y.length<=2:=fun x hx=>by
  simp only [List.mem_cons,List.not_mem_nil,or_false] at hx
  rcases hx with rfl | rfl | rfl | rfl<;>exact ⟨_,rfl,Jk (by decide),by decide⟩
 have h4:=JC (i:=d) (j:=4) (by decide)
 have h7:=JC (i:=d/4) (j:=7) (by decide)
 have h3:=JC (i:=d/28) (j:=3) (by decide)
 obtain ⟨x1,m1,e1⟩:=X5 (xs:=[D.str "",.str "",.str " ",.str "  "]) h4.1 h4.2
 obtain ⟨y1,rfl,g1,l1⟩:=s0 x1 m1
 obtain ⟨x2,m2,e2⟩:=X5 (xs:=[D.str "",.str "",.str " "]) h3.1 h3.2
 obtain ⟨y2,rfl,g2,l2⟩:=s0 x2 (by simp only [List.mem_cons,List.not_mem_nil,or_false] at m2 ⊢;rcases m2 with h | h | h<;>simp [h])
 obtain ⟨t,et,ht⟩:=Ve d h7.1 (by omega)
 have hl:=ht.1
 refine ⟨y1++t++y2,QJ rfl (st (QG (Q1 rfl (Q1 rfl rfl (Qd (by decide))) e1) rfl) (ret (Q1 (Q1 rfl (Zp rfl (Q1 (Q1 rfl rfl (Jn (by decide))) rfl (Qd (by decide))) et) (JR (by omega))) (Q1 rfl (Q1 (Q1 rfl rfl (Jn (by decide))) rfl (Qd (by decide))) e2) (JR (by rw [la];omega))))),JJ (JJ g1 fun c hc=>(ht.2 c hc).1) g2,by rw [la,la];omega⟩
theorem Tx.ttl {n:Nat} {x:Str} (h:Tx n x) (h0:0<n) (hn:n<=2000):Ttl x:=⟨h.sgn hn,h.ne h0,fun z=>h.no (List.mem_of_mem_head? (by rw [z];rfl)),fun z=>h.no (List.mem_of_getLast? z)⟩
theorem Qb3 (d:Int):∃ x,TU [.int d]=some (.str x)/\Ttl x:=by
 have h7:=JC (i:=d/3) (j:=7) (by decide)
 have h5:=JC (i:=d/21) (j:=5) (by decide)
 obtain ⟨t,et,ht⟩:=Ve d (j:=1+d/3%7) (by omega) (by omega)
 obtain ⟨u,eu,hu⟩:=Ve (d/5) (j:=1+d/21%5) (by omega) (by omega)
 have hl:=ht.1
 have hl':=hu.1
 have one:=QG (g:=gS 1) (e:=[some (.int d),none]) (Zp (f:=ZS) (a:=eV 0) (b:=Q0 D.add (eC (.int 1)) (Q0 D.mod (Q0 D.fdiv (eV 0) (eC (.int 3))) (eC (.int 7)))) rfl (Q1 rfl (Q1 (Q1 rfl rfl (Jn (by decide))) rfl (Qd (by decide))) rfl) et) rfl
 have e1:(" ":Str).length=1:=rfl
 by_cases h3:d%3=0
 ·refine ⟨t++" "++u,QJ rfl (st one (st (QU (Q1 (Q1 rfl rfl (Qd (by decide))) rfl (ZR h3)) (QG (Q1 (Q1 rfl rfl (JR (by omega))) (Zp (Q1 rfl rfl (Jn (by decide))) (Q1 rfl (Q1 (Q1 rfl rfl (Jn (by decide))) rfl (Qd (by decide))) rfl) eu) (JR (by rw [la];omega))) rfl)) (ret rfl))),?_⟩
  have tt:=ht.ttl (by omega) (by omega)
  have uu:=hu.ttl (by omega) (by omega)
  refine ⟨⟨JJ (JJ tt.1.1 (Jk (by decide))) uu.1.1,by rw [la,la];omega⟩,?_,?_,?_⟩
  ·rw [Rg];simp
  ·rw [Rg]
   cases hc:cs t with
   | nil=>exact absurd hc tt.2.1
   | cons a r=>have:=tt.2.2.1;rw [hc] at this;simpa using this
  ·obtain ⟨z,hz⟩:∃ z,(cs u).getLast?=some z:=⟨_,List.getLast?_eq_some_getLast uu.2.1⟩
   have:=uu.2.2.2
   rw [hz] at this
   rw [Rg,show cs t++32::cs u=(cs t++[32])++cs u by simp,List.getLast?_append,hz]
   exact this
 ·exact ⟨t,QJ rfl (st one (st (Q9 (Q1 (Q1 rfl rfl (Qd (by decide))) rfl (JG h3)) rfl) (ret rfl))),ht.ttl (by omega) (by omega)⟩
theorem CZ:∀ i:Nat,i<26->("abcdefghijklmnopqrstuvwxyz":Str).cps[i]?=some (97+i):=by decide +kernel
theorem Pd {j:Int} (h:0<=j/\j<26):D.ix (.str "abcdefghijklmnopqrstuvwxyz") (.int j)=some (.str ⟨#[97+j.toNat]⟩):=by
 have hl:("abcdefghijklmnopqrstuvwxyz":Str).length=26:=by decide +kernel
 have hc:=CZ j.toNat (by omega)
 generalize ("abcdefghijklmnopqrstuvwxyz":Str)=z at *
 show (if z.length<=Qc then (Qu z.length j).bind fun k=>(z.cps[k]?).map fun c=>D.str ⟨#[c]⟩ else none)=_
 rw [if_pos (by rw [hl];decide),hl]
 unfold Qu
 rw [if_pos h.1,if_pos (show j<((26:Nat):Int) from h.2)]
 show (z.cps[j.toNat]?).map _=_
 rw [hc];rfl
def Ab (x:Str):Prop:=∀ c∈cs x,97<=c/\c<=122
theorem RO {x y:Str} (hx:Ab x) (hy:Ab y):Ab (x++y):=fun c hc=>by
 rw [Qx] at hc
 rcases List.mem_append.mp hc with z | z
 ·exact hx c z
 ·exact hy c z
theorem M6 {x:Str} (h:Ab x) (lo hi:Option Int):Ab (VG x lo hi)/\(VG x lo hi).length<=x.length:=by
 refine ⟨fun c hc=>h c ?_,?_⟩
 ·have hc':c∈Jf (cs x) lo hi:=hc
  exact List.mem_of_mem_drop (List.mem_of_mem_take hc')
 ·show (Jf (cs x) lo hi).length<=_
  rw [ZW]
  unfold Jf
  rw [List.length_take,List.length_drop];omega
theorem QbR (L:List Str):V9 (L.map .str)=some L:=by
 induction L with
 | nil=>rfl
 | cons x L ih=>show (V9 (L.map .str)).map (x::·)=_;rw [ih];rfl
theorem Ke {B:Nat}:∀ (L:List Str),(∀ x∈L,x.length<=B)->(Str.join "" L).length<=L.length*B
 | [],_=>Nat.zero_le _
 | [x],h=>by have:=h x (by simp);simp only [List.length_singleton,Nat.one_mul];exact this
 | x::y::L,h=>by
  have h1:=h x (by simp)
  have h2:=Ke (y::L) fun z hz=>h z (List.mem_cons_of_mem _ hz)
  have e0:("":Str).length=0:=rfl
  show (x++""++Str.join "" (y::L)).length<=_
  rw [la,la,List.length_cons,Nat.add_mul];omega
theorem CO (k:Nat) {d:Int} (hk:k<=1000) (hd:Dr d):∃ x,Wv [.int k,.int d]=some (.str x)/\Lab x:=by
 have h10:=JC (i:=d) (j:=10) (by decide)
 obtain ⟨n,hn⟩:=Int.eq_ofNat_of_zero_le h10.1
 have nl:n<10:=by omega
 let el:Nat->Str:=fun j=>⟨#[97+((d/150+(0+(j:Int))*(0+(j:Int)))%26).toNat]⟩
 have hcomp:JV 1 [2,1] (JI (Q0 D.mod (eV 1) (eC (.int 10)))) (gS 0) (eC (.bl true)) (Q0 D.ix (eV 1) (Q0 D.mod (Q0 D.add (Q0 D.fdiv (eV 2) (eC (.int 150))) (Q0 D.mulA (eV 0) (eV 0))) (eC (.int 26)))) [some (.int k),some (.int d),some (.str "abcdefghijklmnopqrstuvwxyz"),none,none,none]=some (QF ((List.range n).map el)):=by
  rw [T2 (fun i:Nat=>D.int (0+(i:Int))) (List.range n) (fun e=>∃ v,e=[v,some (.str "abcdefghijklmnopqrstuvwxyz"),some (.int d)]) (fun _=>true) (fun i=>.str (el i)) (by
   rw [VZ (n:=n) (Q1 rfl rfl (by rw [Qd (by decide),hn])) (by omega)];rfl) (by rw [List.length_range];show n<=16777216;omega) ⟨none,rfl⟩ (by
   rintro i hi e ⟨v,rfl⟩
   have hi:=List.mem_range.mp hi
   exact ⟨_,rfl,⟨_,rfl⟩,rfl,fun _=>Q1 rfl (Q1 (Q1 (Q1 rfl rfl (Jn (by decide))) (Q1 rfl rfl (VO (by omega))) rfl) rfl (Qd (by decide))) (Pd (JC (by decide)))⟩),Xo]
  unfold QF
  rw [List.map_map];rfl
 have ael:∀ x∈(List.range n).map el,Ab x/\x.length=1:=fun x hx=>by
  obtain ⟨i,hi,rfl⟩:=List.mem_map.mp hx
  refine ⟨fun c hc=>?_,rfl⟩
  have h26:=JC (i:=d/150+(0+(i:Int))*(0+(i:Int))) (j:=26) (by decide)
  rw [List.mem_singleton.mp (show c∈[97+((d/150+(0+(i:Int))*(0+(i:Int)))%26).toNat] from hc)]
  omega
 have hlen:((List.range n).map el).length=n:=by rw [List.length_map,List.length_range]
 generalize (List.range n).map el=L at *
 have hj:D.joinS "" (QF L)=some (.str (Str.join "" L)):=by
  show ((V9 (L.map .str)).bind fun N=>if N.length<=100/\∀ y∈N,y.length<=10000 then some (D.str (Str.join "" N)) else none)=_
  rw [QbR]
  show (if L.length<=100/\∀ y∈L,y.length<=10000 then _ else none)=_
  rw [if_pos ⟨by omega,fun y hy=>by rw [(ael y hy).2];decide⟩]
 have aB:Ab (Str.join "" L):=fun c hc=>by
  rcases Pb hc with h | ⟨p,hp,h⟩
  ·exact absurd h (by show c∉[];simp)
  ·exact (ael p hp).1 c h
 have lB:(Str.join "" L).length<=10:=by
  have:=Ke (B:=1) L fun x hx=>by rw [(ael x hx).2];omega
  omega
 generalize Str.join "" L=base at *
 have hl:D.len (.str base)=some (.int base.length):=by show (if base.length<=Qc then _ else none)=_;rw [if_pos (by show _<=16777216;omega)]
 have k26:=JC (i:=(k:Int)) (j:=26) (by decide)
 have d26:=JC (i:=(k:Int)/26+d) (j:=26) (by decide)
 have cutB:∀ (lo hi:Option Int),Xd (.str base) lo hi=some (.str (VG base lo hi)):=fun lo hi=>if_pos (by show _<=16777216;omega)
 have ch:∀ {j:Int},0<=j/\j<26->Ab ⟨#[97+j.toNat]⟩:=fun {j} h c hc=>by rw [List.mem_singleton.mp (show c∈[97+j.toNat] from hc)];omega
 obtain ⟨a1,b1⟩:=M6 aB none (some (d/11%(base.length+1)))
 obtain ⟨a2,b2⟩:=M6 aB (some (d/11%(base.length+1))) none
 refine ⟨_,QJ rfl (st (QG rfl rfl) (st (QG (Qi hcomp hj) rfl) (st (QG (Q1 (Q1 rfl rfl (Jn (by decide))) (Q1 (Qi rfl hl) rfl rfl) (Qd (by omega))) rfl) (st (QG (Q1 (Q1 rfl (Q1 rfl rfl (Qd (by decide))) (Pd k26)) (Q1 rfl (Q1 (Q1 (Q1 rfl rfl (Jn (by decide))) rfl rfl) rfl (Qd (by decide))) (Pd d26)) (JR (by show 1+1<=_;decide))) rfl) (ret (Q1 (Q1 (T5 rfl rfl (Ut rfl) (cutB _ _)) rfl (JR ?_)) (T5 rfl (Ut rfl) rfl (cutB _ _)) (JR ?_))))))),RO (RO a1 (RO (ch k26) (ch d26))) a2,?_,?_⟩
 ·rw [la];show _+(1+1)<=_;omega
 ·rw [la,la];show _+(1+1)+_<=_;omega
 ·rw [Qx,Qx,Qx];intro z;simp at z
 ·rw [la,la,la];show _+(1+1)+_<=_;omega
noncomputable def WO (d:Int):Str:=(HL d).choose
theorem O7 (d:Int):Yt [.int d]=some (.str (WO d))/\Sgn (WO d):=(HL d).choose_spec
theorem HN {it:Jo} {el:Q4} {e:Q2} {S:D} (n:Nat) (f:Nat->Int) (hn:n<=1000) (hit:it e=some (rD 0 n)) (hc:Yl 1 [2] e=[none,some S]) (he:∀ i,i<n->el [some (.int (0+(i:Int))),some S]=some (.int (f i))):JV 1 [2] it (gS 0) (eC (.bl true)) (eK Yt (lC el lN)) e=some (QF ((List.range n).map fun i=>WO (f i))):=by
 rw [T2 (fun i:Nat=>D.int (0+(i:Int))) (List.range n) (fun e=>∃ v,e=[v,some S]) (fun _=>true) (fun i=>.str (WO (f i))) (by rw [hit];rfl) (by rw [List.length_range];show n<=16777216;omega) ⟨none,hc⟩ (by
  rintro i hi e ⟨v,rfl⟩
  exact ⟨_,rfl,⟨_,rfl⟩,rfl,fun _=>QX (he i (List.mem_range.mp hi)) (O7 _).1⟩),Xo]
 unfold QF
 rw [List.map_map];rfl
def Qf (a b c d:Int):D:=iL [a,b,c,d]
theorem C0 (a b c d:Int):D.ix (Qf a b c d) (.int 0)=some (.int a):=rfl
theorem Zx (a b c d:Int):D.ix (Qf a b c d) (.int 1)=some (.int b):=rfl
theorem ZV (a b c d:Int):D.ix (Qf a b c d) (.int 2)=some (.int c):=rfl
theorem Yz (a b c d:Int):D.ix (Qf a b c d) (.int 3)=some (.int d):=rfl
theorem Ip:D.pow (.int 10) (.int 38)=some (.int (10^38)):=Qae ⟨by decide,by decide,by decide⟩
def Bo.np:Bo->Prop
 | .para _=>False
 | _=>True
theorem Gh {kd:Int} {l:Str} {a b c d:Int} (hl:BLab l) (hk:0<=kd/\kd<4) (hb:Dr b) (hc:Dr c) (hd:Dr d):∃ B:Bo,W0 [.int kd,.str l,Qf a b c d]=some B.d/\B.ok/\B.np:=by
 unfold Dr at hb hc hd
 obtain ⟨t,et,ht⟩:=Qb3 d
 by_cases k0:kd=0
 ·subst k0
  exact ⟨.chap t l,QJ rfl (J1 (QU (Q1 rfl rfl (ZR rfl)) (ret (Y4 rfl (QX (Q1 rfl rfl (Yz a b c d)) et) rfl)))),⟨ht,hl⟩,trivial⟩
 by_cases k1:kd=1
 ·subst k1
  have c4:=JC (i:=c) (j:=4) (by decide)
  have c44:=JC (i:=c/4) (j:=4) (by decide)
  obtain ⟨x,hx,ex⟩:=X5 (xs:=[D.int (c%4),.int (c%4),.int c,.int (10^38+d)]) c44.1 c44.2
  obtain ⟨k,rfl,kb⟩:∃ k:Nat,x=.int k/\k<10^60:=by
   simp only [List.mem_cons,List.not_mem_nil,or_false] at hx
   rcases hx with rfl | rfl | rfl | rfl
   ·exact ⟨(c%4).toNat,by rw [Int.toNat_of_nonneg c4.1],by omega⟩
   ·exact ⟨(c%4).toNat,by rw [Int.toNat_of_nonneg c4.1],by omega⟩
   ·exact ⟨c.toNat,by rw [Int.toNat_of_nonneg hc.1],by omega⟩
   ·exact ⟨(10^38+d).toNat,by rw [Int.toNat_of_nonneg (by omega)],by omega⟩
  refine ⟨.head t k l,QJ rfl (st (Q9 (Q1 rfl rfl (JG (by decide))) rfl) (J1 (QU (Q1 rfl rfl (ZR rfl)) (st (QG (Q1 (Ku (Q1 (Q1 rfl rfl (ZV a b c d)) rfl (Qd (by decide))) (Q1 (Q1 rfl rfl (ZV a b c d)) rfl (Qd (by decide))) (Q1 rfl rfl (ZV a b c d)) (Q1 (Q1 rfl rfl Ip) (Q1 rfl rfl (Yz a b c d)) rfl)) (Q1 (Q1 (Q1 rfl rfl (ZV a b c d)) rfl (Jn (by decide))) rfl (Qd (by decide))) ex) rfl) (ret (XJ rfl (QX (Q1 rfl rfl (Yz a b c d)) et) rfl rfl)))))),⟨ht,kb,hl⟩,trivial⟩
 by_cases k2:kd=2
 ·subst k2
  have c4:=JC (i:=c) (j:=4) (by decide)
  have c45:=JC (i:=c/64) (j:=45) (by decide)
  have fin:∀ n:Nat,0<n->n<=60->QC (Qa (lC (eC (.str "table")) (lC (JV 1 [2] (JI (eV 4)) (gS 0) (eC (.bl true)) (eK Yt (lC (Q0 D.add (Q0 D.ix (eV 1) (eC (.int 3))) (Q0 D.mulA (Q0 D.mulA (eC (.int 977)) (eV 0)) (eV 0))) lN))) (lC (eV 1) lN)))) [some (.int 2),some (.str l),some (Qf a b c d),none,some (.int n),none,none]=some (.rt (Bo.tab ((List.range n).map fun i:Nat=>WO (d+977*(0+(i:Int))*(0+(i:Int)))) l).d)/\(Bo.tab ((List.range n).map fun i:Nat=>WO (d+977*(0+(i:Int))*(0+(i:Int)))) l).ok:=fun n h0 hn=>by
   refine ⟨ret (Y4 rfl (HN (S:=Qf a b c d) n _ (by omega) (VZ rfl (by omega)) rfl fun i hi=>Q1 (Q1 rfl rfl (Yz a b c d)) (Q1 (Q1 rfl rfl (V3 (by decide))) rfl (VO (by omega))) rfl) rfl),?_,?_,?_,hl⟩
   ·intro r hr
    obtain ⟨i,_,rfl⟩:=List.mem_map.mp hr
    exact (O7 _).2
   ·intro z;have:=congrArg List.length z;simp at this;omega
   ·rw [List.length_map,List.length_range];omega
  have pre:∀ {r:Option Fl},sQ (QD (Q0 D.eqO (Q0 D.mod (Q0 D.fdiv (Q0 D.ix (eV 2) (eC (.int 2))) (eC (.int 4))) (eC (.int 16))) (eC (.int 0))) (QE (Q0 D.add (eC (.int 5)) (Q0 D.mod (Q0 D.fdiv (Q0 D.ix (eV 2) (eC (.int 2))) (eC (.int 64))) (eC (.int 45)))) (gS 4)) (QK)) (QC (Qa (lC (eC (.str "table")) (lC (JV 1 [2] (JI (eV 4)) (gS 0) (eC (.bl true)) (eK Yt (lC (Q0 D.add (Q0 D.ix (eV 1) (eC (.int 3))) (Q0 D.mulA (Q0 D.mulA (eC (.int 977)) (eV 0)) (eV 0))) lN))) (lC (eV 1) lN))))) [some (.int 2),some (.str l),some (Qf a b c d),none,some (.int (1+c%4)),none,none]=r->∀ B:Bo,r=some (.rt B.d)->W0 [.int 2,.str l,Qf a b c d]=some B.d:=fun {r} h B hr=>by
   refine QJ rfl (st (Q9 (Q1 rfl rfl (JG (by decide))) rfl) (st (Q9 (Q1 rfl rfl (JG (by decide))) rfl) (J1 (QU (Q1 rfl rfl (ZR rfl)) (st (QG (Q1 rfl (Q1 (Q1 rfl rfl (ZV a b c d)) rfl (Qd (by decide))) rfl) rfl) (h.trans hr))))))
  by_cases h16:c/4%16=0
  ·obtain ⟨f1,f2⟩:=fin (5+c/64%45).toNat (by omega) (by omega)
   rw [Int.toNat_of_nonneg (by omega)] at f1
   exact ⟨_,pre (st (QU (Q1 (Q1 (Q1 (Q1 rfl rfl (ZV a b c d)) rfl (Jn (by decide))) rfl (Qd (by decide))) rfl (ZR h16)) (QG (Q1 rfl (Q1 (Q1 (Q1 rfl rfl (ZV a b c d)) rfl (Jn (by decide))) rfl (Qd (by decide))) rfl) rfl)) f1) _ rfl,f2,trivial⟩
  ·obtain ⟨f1,f2⟩:=fin (1+c%4).toNat (by omega) (by omega)
   rw [Int.toNat_of_nonneg (by omega)] at f1
   exact ⟨_,pre (st (Q9 (Q1 (Q1 (Q1 (Q1 rfl rfl (ZV a b c d)) rfl (Jn (by decide))) rfl (Qd (by decide))) rfl (JG h16)) rfl) f1) _ rfl,f2,trivial⟩
 ·have k3:kd=3:=by omega
  subst k3
  have c4:=JC (i:=c) (j:=4) (by decide)
  have d12:=JC (i:=d) (j:=12) (by decide)
  obtain ⟨x,hx,ex⟩:=X5 (xs:=[D.int 5,.int 5,.int 5,.int 13]) c4.1 c4.2
  obtain ⟨q,rfl,q0,q1⟩:∃ q:Int,x=.int q/\0<q/\q<=13:=by
   simp only [List.mem_cons,List.not_mem_nil,or_false] at hx
   rcases hx with rfl | rfl | rfl | rfl<;>exact ⟨_,rfl,by decide,by decide⟩
  have cq:=JC (i:=c/4) (j:=q) q0
  have fin:∀ (low:Int) (v:Option D),0<=low->low<=10^40->QC (Qa (lC (eC (.str "plates")) (lC (Q0 D.max2 (eC (.int 1)) (Q0 D.sub (eV 5) (Q0 D.mod (Q0 D.ix (eV 2) (eC (.int 3))) (eC (.int 12))))) (lC (eV 1) lN)))) [some (.int 3),some (.str l),some (Qf a b c d),none,none,some (.int low),v]=some (.rt (Bo.plat (if low-d%12 > 1 then low-d%12 else 1).toNat l).d)/\(Bo.plat (if low-d%12 > 1 then low-d%12 else 1).toNat l).ok:=fun low v h0 h1=>by
   refine ⟨ret (Y4 rfl (Q1 rfl (Q1 rfl (Q1 (Q1 rfl rfl (Yz a b c d)) rfl (Qd (by decide))) rfl) ?_) rfl),?_,?_,hl⟩
   ·show some (D.int (if low-d%12 > 1 then low-d%12 else 1))=_
    rw [Int.toNat_of_nonneg (by split<;>omega)]
   ·split<;>omega
   ·split<;>omega
  let R:Nat->Q2->Prop:=fun i e=>∃ (y:Int) (v:Option D),e=[some (.int 3),some (.str l),some (Qf a b c d),none,none,some (.int y),v]/\0<=y/\y<=10^i
  obtain ⟨e',h1,y,v,rfl,y0,y1⟩:=Ts (g:=gS 6) (b:=QE (Q0 D.mulA (eV 5) (eC (.int 10))) (gS 5)) (c/4%q).toNat R (by
   rintro i hi e ⟨y,v,rfl,y0,y1⟩
   refine ⟨_,.inl (Je rfl (QG (Q1 rfl rfl (VO (by decide))) rfl)),_,_,rfl,by omega,?_⟩
   rw [Int.pow_succ];omega) [some (.int 3),some (.str l),some (Qf a b c d),none,none,some (.int 1),none] ⟨1,none,rfl,by decide,by decide⟩
  have yb:y<=10^40:=Int.le_trans y1 (by
   have:(c/4%q).toNat<=40:=by omega
   exact_mod_cast Nat.pow_le_pow_right (by decide) this)
  have hit:JI (Q0 D.mod (Q0 D.fdiv (Q0 D.ix (eV 2) (eC (.int 2))) (eC (.int 4))) (Q0 D.ix (QY (lC (eC (.int 5)) (lC (eC (.int 5)) (lC (eC (.int 5)) (lC (eC (.int 13)) lN))))) (Q0 D.mod (Q0 D.ix (eV 2) (eC (.int 2))) (eC (.int 4))))) [some (.int 3),some (.str l),some (Qf a b c d),none,none,some (.int 1),none]=some (rD 0 (c/4%q).toNat):=VZ (Q1 (Q1 (Q1 rfl rfl (ZV a b c d)) rfl (Jn (by decide))) (Q1 rfl (Q1 (Q1 rfl rfl (ZV a b c d)) rfl (Qd (by decide))) ex) (by rw [Qd q0,Int.toNat_of_nonneg cq.1])) (by omega)
  have hf:∀ {k:Q8} {r:Option Fl},k [some (.int 3),some (.str l),some (Qf a b c d),none,none,some (.int y),v]=r->sQ (Qq (JI (Q0 D.mod (Q0 D.fdiv (Q0 D.ix (eV 2) (eC (.int 2))) (eC (.int 4))) (Q0 D.ix (QY (lC (eC (.int 5)) (lC (eC (.int 5)) (lC (eC (.int 5)) (lC (eC (.int 13)) lN))))) (Q0 D.mod (Q0 D.ix (eV 2) (eC (.int 2))) (eC (.int 4)))))) (gS 6) (QE (Q0 D.mulA (eV 5) (eC (.int 10))) (gS 5))) k [some (.int 3),some (.str l),some (Qf a b c d),none,none,some (.int 1),none]=r:=fun {k r} hk=>st (by unfold Qq;rw [hit];exact h1) hk
  by_cases h8:b/2%8=0
  ·obtain ⟨f1,f2⟩:=fin (10^38+c) v (by omega) (by omega)
   exact ⟨_,QJ rfl (st (Q9 (Q1 rfl rfl (JG (by decide))) rfl) (st (Q9 (Q1 rfl rfl (JG (by decide))) rfl) (st (Q9 (Q1 rfl rfl (JG (by decide))) rfl) (st (QG rfl rfl) (hf (st (QU (Q1 (Q1 (Q1 (Q1 rfl rfl (Zx a b c d)) rfl (Jn (by decide))) rfl (Qd (by decide))) rfl (ZR h8)) (QG (Q1 (Q1 rfl rfl Ip) (Q1 rfl rfl (ZV a b c d)) rfl) rfl)) f1)))))),f2,trivial⟩
  ·obtain ⟨f1,f2⟩:=fin y v y0 yb
   exact ⟨_,QJ rfl (st (Q9 (Q1 rfl rfl (JG (by decide))) rfl) (st (Q9 (Q1 rfl rfl (JG (by decide))) rfl) (st (Q9 (Q1 rfl rfl (JG (by decide))) rfl) (st (QG rfl rfl) (hf (st (Q9 (Q1 (Q1 (Q1 (Q1 rfl rfl (Zx a b c d)) rfl (Jn (by decide))) rfl (Qd (by decide))) rfl (JG h8)) rfl) f1)))))),f2,trivial⟩
inductive RI where
 | it (i:It) | rf (n:Int) (a b:Str)
def RI.d:RI->D
 | .it i=>i.d
 | .rf n a b=>.tup [.str "ref",.int n,.str a,.str b]
def It.nr:It->Prop
 | .ref _ _ _=>False
 | _=>True
def RI.ok:RI->Prop
 | .it i=>i.ok/\i.nr
 | .rf n a b=>0<=n/\RT a/\RT b/\a.length<=100
theorem Td {x y:Int} (h:¬ y<x):D.gt (.int x) (.int y)=some (.bl false):=by show some (D.bl (decide (y<x)))=_;rw [decide_eq_false h]
theorem Te {x y:Int} (h:y<x):D.gt (.int x) (.int y)=some (.bl true):=by show some (D.bl (decide (y<x)))=_;rw [decide_eq_true h]
theorem Cb {a b c d f:Q4} {e:Q2} {x y z u w:D} (ha:a e=some x) (hb:b e=some y) (hc:c e=some z) (hd:d e=some u) (hf:f e=some w):QY (lC a (lC b (lC c (lC d (lC f lN))))) e=some (.lst [x,y,z,u,w]):=by unfold QY lC lN;rw [ha,hb,hc,hd,hf];rfl
theorem Dx {kd:Int} {l:Str} {a b c d:Int} (hl:kd=11->Lab l) (hk:4<kd/\kd<13) (hb:Dr b) (hc:Dr c) (hd:Dr d):∃ I:RI,Xi [.int kd,.str l,Qf a b c d]=some I.d/\I.ok:=by
 unfold Dr at hb hc hd
 by_cases k11:kd=11
 ·subst k11
  exact ⟨.it (.mark l),QJ rfl (J1 (QU (Q1 rfl rfl (ZR rfl)) (ret (VB rfl rfl)))),hl rfl,trivial⟩
 by_cases k12:kd=12
 ·subst k12
  have b5:=JC (i:=b) (j:=5) (by decide)
  have b3:=JC (i:=b) (j:=3) (by decide)
  obtain ⟨t,et,ht⟩:=Ve (3+b%5) (j:=1+b%3) (by omega) (by omega)
  exact ⟨.it (.key t),QJ rfl (st (Q9 (Q1 rfl rfl (JG (by decide))) rfl) (J1 (QU (Q1 rfl rfl (ZR rfl)) (ret (VB rfl (Zp (Q1 rfl (Q1 (Q1 rfl rfl (Zx a b c d)) rfl (Qd (by decide))) rfl) (Q1 rfl (Q1 (Q1 rfl rfl (Zx a b c d)) rfl (Qd (by decide))) rfl) et)))))),ht.wrd (by omega) (by omega),trivial⟩
 by_cases k8:8<kd
 ·have c9:=JC (i:=c/9) (j:=4) (by decide)
  have d9:=JC (i:=d/9) (j:=4) (by decide)
  obtain ⟨t,et,ht⟩:=Ve c (j:=c/9%4) (by omega) (by omega)
  obtain ⟨u,eu,hu⟩:=Ve d (j:=d/9%4) (by omega) (by omega)
  exact ⟨.rf b t u,QJ rfl (st (Q9 (Q1 rfl rfl (JG k11)) rfl) (st (Q9 (Q1 rfl rfl (JG k12)) rfl) (J1 (QU (Q1 rfl rfl (Te k8)) (ret (XJ rfl (Q1 rfl rfl (Zx a b c d)) (Zp (Q1 rfl rfl (ZV a b c d)) (Q1 (Q1 (Q1 rfl rfl (ZV a b c d)) rfl (Jn (by decide))) rfl (Qd (by decide))) et) (Zp (Q1 rfl rfl (Yz a b c d)) (Q1 (Q1 (Q1 rfl rfl (Yz a b c d)) rfl (Jn (by decide))) rfl (Qd (by decide))) eu))))))),hb.1,ht.rt (by omega),hu.rt (by omega),by have:=ht.1;omega⟩
 ·have d5:=JC (i:=d) (j:=5) (by decide)
  obtain ⟨x,hx,ex⟩:=X5 (xs:=[D.int 0,.int 0,.int 0,.int 1,.int 2]) d5.1 d5.2
  obtain ⟨n,rfl,nb⟩:∃ n:Nat,x=.int n/\n<=2:=by
   simp only [List.mem_cons,List.not_mem_nil,or_false] at hx
   rcases hx with rfl | rfl | rfl | rfl | rfl
   ·exact ⟨0,rfl,by omega⟩
   ·exact ⟨0,rfl,by omega⟩
   ·exact ⟨0,rfl,by omega⟩
   ·exact ⟨1,rfl,by omega⟩
   ·exact ⟨2,rfl,by omega⟩
  let ns:List Str:=(List.range n).map fun i:Nat=>WO (d+977*(0+(i:Int)))
  have fin:∀ m:Int,0<m->m<=200->∃ w,XS w/\sQ (QE (JV 1 [2] (JI (Q0 D.ix (QY (lC (eC (.int 0)) (lC (eC (.int 0)) (lC (eC (.int 0)) (lC (eC (.int 1)) (lC (eC (.int 2)) lN)))))) (Q0 D.mod (Q0 D.ix (eV 2) (eC (.int 3))) (eC (.int 5))))) (gS 0) (eC (.bl true)) (eK Yt (lC (Q0 D.add (Q0 D.ix (eV 1) (eC (.int 3))) (Q0 D.mulA (eC (.int 977)) (eV 0))) lN))) (gS 4)) (QC (Qa (lC (eC (.str "word")) (lC (eK ZS (lC (Q0 D.ix (eV 2) (eC (.int 2))) (lC (eV 3) lN))) (lC (eV 4) lN))))) [some (.int kd),some (.str l),some (Qf a b c d),some (.int m),none]=some (.rt (It.word w ns).d):=fun m m0 m1=>by
   obtain ⟨w,ew,hw⟩:=Ve c (j:=m) (by omega) (by omega)
   refine ⟨w,hw.wrd (by omega) (by omega),st (QG (HN (S:=Qf a b c d) n (fun i=>d+977*(0+(i:Int))) (by omega) (VZ (Q1 (Cb rfl rfl rfl rfl rfl) (Q1 (Q1 rfl rfl (Yz a b c d)) rfl (Qd (by decide))) ex) (by omega)) rfl fun i hi=>Q1 (Q1 rfl rfl (Yz a b c d)) (Q1 rfl rfl (V3 (by decide))) rfl) rfl) (ret (Y4 rfl (Zp (Q1 rfl rfl (ZV a b c d)) rfl ew) rfl))⟩
  have okn:(∀ r∈ns,Sgn r)/\ns.length<=100:=by
   refine ⟨fun r hr=>?_,by show ((List.range n).map _).length<=100;rw [List.length_map,List.length_range];omega⟩
   obtain ⟨i,_,rfl⟩:=List.mem_map.mp hr
   exact (O7 _).2
  have b9:=JC (i:=b) (j:=9) (by decide)
  have b70:=JC (i:=b/288) (j:=70) (by decide)
  by_cases h32:b/9%32=0
  ·obtain ⟨w,hw,f1⟩:=fin (10+b/288%70) (by omega) (by omega)
   exact ⟨.it (.word w ns),QJ rfl (st (Q9 (Q1 rfl rfl (JG k11)) rfl) (st (Q9 (Q1 rfl rfl (JG k12)) rfl) (st (Q9 (Q1 rfl rfl (Td k8)) rfl) (st (QG (Q1 rfl (Q1 (Q1 rfl rfl (Zx a b c d)) rfl (Qd (by decide))) rfl) rfl) (st (QU (Q1 (Q1 (Q1 (Q1 rfl rfl (Zx a b c d)) rfl (Jn (by decide))) rfl (Qd (by decide))) rfl (ZR h32)) (QG (Q1 rfl (Q1 (Q1 (Q1 rfl rfl (Zx a b c d)) rfl (Jn (by decide))) rfl (Qd (by decide))) rfl) rfl)) f1))))),⟨hw,okn.1,okn.2⟩,trivial⟩
  ·obtain ⟨w,hw,f1⟩:=fin (1+b%9) (by omega) (by omega)
   exact ⟨.it (.word w ns),QJ rfl (st (Q9 (Q1 rfl rfl (JG k11)) rfl) (st (Q9 (Q1 rfl rfl (JG k12)) rfl) (st (Q9 (Q1 rfl rfl (Td k8)) rfl) (st (QG (Q1 rfl (Q1 (Q1 rfl rfl (Zx a b c d)) rfl (Qd (by decide))) rfl) rfl) (st (Q9 (Q1 (Q1 (Q1 (Q1 rfl rfl (Zx a b c d)) rfl (Jn (by decide))) rfl (Qd (by decide))) rfl (JG h32)) rfl) f1))))),⟨hw,okn.1,okn.2⟩,trivial⟩
inductive PB where
 | bo (b:Bo) | pa (is:List RI)
def PB.d:PB->D
 | .bo b=>b.d
 | .pa is=>.tup [.str "para",.lst (is.map RI.d)]
def PB.bk:PB->Wd.Bk
 | .bo b=>.pl b.d
 | .pa is=>.pa (is.map fun i=>.pl i.d)
def PB.ok:PB->Prop
 | .bo b=>b.ok/\b.np
 | .pa is=>(∀ i∈is,i.ok)/\is.length<=90
theorem Ad (p:PB):J3 p.bk=p.d:=by
 cases p with
 | bo b=>rfl
 | pa is =>
  show D.tup [.str "para",.lst ((is.map fun i=>Im.pl i.d).map Z3)]=_
  rw [List.map_map];rfl
theorem QaH {labs:List Str} (hL:∀ x∈labs,Lab x) (hn:labs.length<=1000) {r:RI} (h:r.ok):∃ i:It,i.ok/\∀ (T dr:Option D) (l:List D) (v:Option D),l.length+1<=2000000->QD (QP (Q0 D.eqO (Q0 D.ix (eV 4) (eC (.int 0))) (eC (.str "ref"))) (Q0 D.gt (QA D.len (eV 1)) (eC (.int 0)))) (sP 3 (Qa (lC (eC (.str "ref")) (lC (Q0 D.ix (eV 1) (Q0 D.mod (Q0 D.ix (eV 4) (eC (.int 1))) (QA D.len (eV 1)))) (lC (Q0 D.ix (eV 4) (eC (.int 2))) (lC (Q0 D.ix (eV 4) (eC (.int 3))) lN)))))) (QD (Q0 D.eqO (Q0 D.ix (eV 4) (eC (.int 0))) (eC (.str "ref"))) (sP 3 (Qa (lC (eC (.str "word")) (lC (Q0 D.add (eC (.str "of")) (Q0 D.ix (eV 4) (eC (.int 2)))) (lC (QY (lN)) lN))))) (sP 3 (eV 4))) [T,some (QF labs),dr,some (.lst l),some r.d]=some (.nx [T,some (QF labs),dr,some (.lst (l++[i.d])),some r.d]):=by
 have hlen:D.len (QF labs)=some (.int (labs.length:Nat)):=by show some (D.int ((labs.map D.str).length:Nat))=_;rw [List.length_map]
 cases r with
 | it i =>
  obtain ⟨ok,nr⟩:=h
  refine ⟨i,ok,fun T dr l v hl=>?_⟩
  cases i with
  | ref a b c=>exact nr.elim
  | word x ns=>exact Q9 (YN (kF rfl)) (Q9 (kF rfl) (JB rfl rfl (JE hl)))
  | mark x=>exact Q9 (YN (kF rfl)) (Q9 (kF rfl) (JB rfl rfl (JE hl)))
  | key x=>exact Q9 (YN (kF rfl)) (Q9 (kF rfl) (JB rfl rfl (JE hl)))
 | rf n a b =>
  obtain ⟨n0,ha,hb,al⟩:=h
  by_cases he:labs=[]
  ·subst he
   refine ⟨.word ("of"++a) [],⟨⟨⟨JJ (Jk (by decide)) ha.1.1,by rw [la];show 2+_<=_;omega⟩,by rw [Qx];intro z;simp at z;exact absurd z.1 (by decide),by rw [Qx];intro z;rcases List.mem_append.mp z with z | z;exact absurd z (by decide);exact ha.2 z⟩,fun _ h=>(by cases h),Nat.zero_le _⟩,fun T dr l v hl=>?_⟩
   exact Q9 (J2 (kT rfl) (Q1 (Qi rfl rfl) rfl rfl)) (QU (kT rfl) (JB rfl (Y4 rfl (Q1 rfl (Q1 rfl rfl rfl) (JR (by show 2+_<=_;omega))) rfl) (JE hl)))
  ·have hp:0<labs.length:=List.length_pos_iff.mpr he
   have m:=JC (i:=n) (j:=(labs.length:Nat)) (by omega)
   obtain ⟨x,hx,ex⟩:=X5 (xs:=labs.map D.str) (j:=n%(labs.length:Nat)) m.1 (by rw [List.length_map];exact m.2)
   obtain ⟨y,hy,rfl⟩:=List.mem_map.mp hx
   exact ⟨.ref y a b,⟨hL y hy,ha,hb⟩,fun T dr l v hl=>QU (J2 (kT rfl) (Q1 (Qi rfl hlen) rfl (Te (by omega)))) (JB rfl (XJ rfl (Q1 rfl (Q1 (Q1 rfl rfl rfl) (Qi rfl hlen) (Qd (by omega))) ex) (Q1 rfl rfl rfl) (Q1 rfl rfl rfl)) (JE hl))⟩
theorem DW (k a b:Str):D.inO (.str k) (.tup [.str a,.str b])=some (.bl (decide (a=k)||decide (b=k))):=by
 show (if ZT (.str k)=true/\[D.str a,D.str b].all ZT=true then some (D.bl (inD (.str k) [.str a,.str b])) else none)=_
 rw [if_pos ⟨rfl,rfl⟩]
 unfold inD
 unfold inD
 unfold inD
 rw [VH,VH,Bool.or_false]
 congr 2
 cases decide (a=k)<;>cases decide (b=k)<;>rfl
def Xb:Q8:=QD (QP (Q0 D.eqO (Q0 D.ix (eV 4) (eC (.int 0))) (eC (.str "ref"))) (Q0 D.gt (QA D.len (eV 1)) (eC (.int 0)))) (sP 3 (Qa (lC (eC (.str "ref")) (lC (Q0 D.ix (eV 1) (Q0 D.mod (Q0 D.ix (eV 4) (eC (.int 1))) (QA D.len (eV 1)))) (lC (Q0 D.ix (eV 4) (eC (.int 2))) (lC (Q0 D.ix (eV 4) (eC (.int 3))) lN)))))) (QD (Q0 D.eqO (Q0 D.ix (eV 4) (eC (.int 0))) (eC (.str "ref"))) (sP 3 (Qa (lC (eC (.str "word")) (lC (Q0 D.add (eC (.str "of")) (Q0 D.ix (eV 4) (eC (.int 2)))) (lC (QY (lN)) lN))))) (sP 3 (eV 4)))
theorem LS {labs:List Str} (hL:∀ x∈labs,Lab x) (hn:labs.length<=1000) {T dr:Option D}:∀ (is:List RI) (l:List D) (v:Option D),(∀ r∈is,r.ok)->l.length+is.length<=1000000->∃ js:List It,(∀ j∈js,j.ok)/\js.length=is.length/\∃ v',ZM (gS 4) Xb (is.map RI.d) [T,some (QF labs),dr,some (.lst l),v]=some (.nx [T,some (QF labs),dr,some (.lst (l++js.map It.d)),v'])
 | [],l,v,_,_=>⟨[],fun _ h=>(by cases h),rfl,v,by rw [show l++List.map It.d []=l from List.append_nil l];rfl⟩
 | r::is,l,v,h,hl=>by
  rw [List.length_cons] at hl
  obtain ⟨i,oki,hi⟩:=QaH hL hn (h r List.mem_cons_self)
  obtain ⟨js,ok,jl,v',hv⟩:=LS hL hn (T:=T) (dr:=dr) is (l++[i.d]) (some r.d) (fun x hx=>h x (List.mem_cons_of_mem _ hx)) (by rw [List.length_append];simp;omega)
  refine ⟨i::js,fun j hj=>?_,by rw [List.length_cons,List.length_cons,jl],v',?_⟩
  ·rcases List.mem_cons.mp hj with rfl | hj
   ·exact oki
   ·exact ok j hj
  ·show Z6 (Xb [T,some (QF labs),dr,some (.lst l),some r.d]) _=_
   rw [show Xb [T,some (QF labs),dr,some (.lst l),some r.d]=_ from hi T dr l v (by omega)]
   show ZM (gS 4) Xb (is.map RI.d) [T,some (QF labs),dr,some (.lst (l++[i.d])),some r.d]=_
   rw [hv,List.map_cons,List.append_assoc];rfl
theorem nk {i:Nat} {k t:Str} {ds:List D} {e:Q2} (he:eV i e=some (.tup (.str k::ds))):Q0 D.neO (Q0 D.ix (eV i) (eC (.int 0))) (eC (.str t)) e=some (.bl (!decide (k=t))):=by
 refine Q1 (x:=.str k) (Q1 he rfl ?_) rfl (W7 k t)
 show ((Qu (ds.length+1) 0).bind fun j=>(.str k::ds)[j]?)=_
 unfold Qu
 rw [if_pos (by omega),if_pos (by omega)];rfl
def It.k:It->Str
 | .word _ _=>"word"
 | .ref _ _ _=>"ref"
 | .mark _=>"mark"
 | .key _=>"key"
theorem Dt (i:It):D.ix i.d (.int 0)=some (.str i.k):=by cases i<;>rfl
theorem FE {labs:List Str} (hL:∀ x∈labs,Lab x) (hn:labs.length<=1000) {p:PB} (h:p.ok) {dr:Int} (hd:Dr dr):∃ b:Bo,Xh [p.d,QF labs,.int dr]=some b.d/\b.ok:=by
 cases p with
 | bo b =>
  refine ⟨b,?_,h.1⟩
  have np:=h.2
  cases b with
  | para is=>exact np.elim
  | chap t l=>exact QJ rfl (J1 (QU (by rw [nk rfl];rfl) (ret rfl)))
  | head t k l=>exact QJ rfl (J1 (QU (by rw [nk rfl];rfl) (ret rfl)))
  | tab rs l=>exact QJ rfl (J1 (QU (by rw [nk rfl];rfl) (ret rfl)))
  | plat n l=>exact QJ rfl (J1 (QU (by rw [nk rfl];rfl) (ret rfl)))
 | pa is =>
  obtain ⟨hi,il⟩:=h
  obtain ⟨js,ok,jl,v',hv⟩:=LS hL hn (T:=some (PB.pa is).d) (dr:=some (.int dr)) is [] none hi (by simp;omega)
  rw [List.nil_append] at hv
  have hf:Qq (JP (Q0 D.ix (eV 0) (eC (.int 1)))) (gS 4) Xb [some (PB.pa is).d,some (QF labs),some (.int dr),some (.lst []),none]=some (.nx [some (PB.pa is).d,some (QF labs),some (.int dr),some (.lst (js.map It.d)),v']):=hv
  have d6:=JC (i:=dr) (j:=6) (by decide)
  obtain ⟨t,et,ht⟩:=Ve dr (j:=1+dr%6) (by omega) (by omega)
  have hlen:D.len (.lst (js.map It.d))=some (.int (js.length:Nat)):=by show some (D.int ((js.map It.d).length:Nat))=_;rw [List.length_map]
  have pre:∀ (ks:List It) (w:Option D),QD (QP (Q0 D.gt (QA D.len (eV 3)) (eC (.int 0))) (Q0 D.inO (Q0 D.ix (Q0 D.ix (eV 3) (QA D.neg (eC (.int 1)))) (eC (.int 0))) (Qa (lC (eC (.str "mark")) (lC (eC (.str "key")) lN))))) (sP 3 (Qa (lC (eC (.str "word")) (lC (eK ZS (lC (eV 2) (lC (Q0 D.add (eC (.int 1)) (Q0 D.mod (eV 2) (eC (.int 6)))) lN))) (lC (QY (lN)) lN))))) (QK) [some (PB.pa is).d,some (QF labs),some (.int dr),some (.lst (js.map It.d)),v']=some (.nx [some (PB.pa is).d,some (QF labs),some (.int dr),some (.lst (ks.map It.d)),v'])->Xh [(PB.pa is).d,QF labs,.int dr]=some (Bo.para ks).d:=fun ks w hw=>QJ rfl (st (Q9 (by rw [nk rfl];rfl) rfl) (st (QG rfl rfl) (st hf (st hw (ret (VB rfl rfl))))))
  have okj:js.length<=90:=by omega
  rcases List.eq_nil_or_concat js with rfl | ⟨js0,j,e⟩
  ·exact ⟨.para [],pre [] none (Q9 (YN (Q1 (Qi rfl rfl) rfl rfl)) rfl),fun _ h=>(by cases h),by simp⟩
  ·rw [List.concat_eq_append] at e
   have hj:∀ e',eV 3 e'=some (.lst (js.map It.d))->Q0 D.inO (Q0 D.ix (Q0 D.ix (eV 3) (QA D.neg (eC (.int 1)))) (eC (.int 0))) (Qa (lC (eC (.str "mark")) (lC (eC (.str "key")) lN))) e'=some (.bl (decide ("mark"=j.k)||decide ("key"=j.k))):=fun e' he=>by
    refine Q1 (Q1 (Q1 he (Qi rfl rfl) (show D.ix (.lst (js.map It.d)) (.int (-1))=some j.d from ?_)) rfl (Dt j)) (VB rfl rfl) (DW _ _ _)
    rw [e,List.map_append];exact Tn _ _
   have hg:∀ e',eV 3 e'=some (.lst (js.map It.d))->Q0 D.gt (QA D.len (eV 3)) (eC (.int 0)) e'=some (.bl true):=fun e' he=>Q1 (Qi he hlen) rfl (Te (by rw [e];first | (simp;done) | (simp;omega)))
   cases hq:(decide (("mark":Str)=j.k)||decide (("key":Str)=j.k)) with
   | false=>exact ⟨.para js,pre js none (Q9 (J2 (hg _ rfl) (by rw [hj _ rfl,hq])) rfl),ok,by omega⟩
   | true =>
    refine ⟨.para (js++[.word t []]),pre (js++[.word t []]) none (QU (J2 (hg _ rfl) (by rw [hj _ rfl,hq])) ?_),fun x hx=>?_,by rw [List.length_append];simp;omega⟩
    ·rw [List.map_append]
     exact JB rfl (Y4 rfl (Zp rfl (Q1 rfl (Q1 rfl rfl (Qd (by decide))) rfl) et) rfl) (JE (by rw [List.length_map];omega))
    ·rcases List.mem_append.mp hx with z | z
     ·exact ok x z
     ·rw [List.mem_singleton.mp z]
      exact ⟨ht.wrd (by omega) (by omega),fun _ h=>(by cases h),Nat.zero_le _⟩
theorem LX {α β:Type} {g:Qw} {el:Q4} (d:α->D) (dd:β->D) (P:β->Prop) (R:Q2->Prop):∀ (xs:List α),(∀ a∈xs,∀ e,R e->∃ e' b,g (d a) e=some e'/\R e'/\el e'=some (dd b)/\P b)->∀ e,R e->∃ bs:List β,Z7 g (eC (.bl true)) el (xs.map d) e=some (bs.map dd)/\bs.length=xs.length/\∀ b∈bs,P b
 | [],_,e,h=>⟨[],rfl,rfl,fun _ h=>(by cases h)⟩
 | a::xs,hb,e,h=>by
  obtain ⟨e1,b,h1,r1,h2,h3⟩:=hb a List.mem_cons_self e h
  obtain ⟨bs,h4,h5,h6⟩:=LX d dd P R xs (fun x hx=>hb x (List.mem_cons_of_mem _ hx)) e1 r1
  refine ⟨b::bs,?_,by rw [List.length_cons,List.length_cons,h5],fun x hx=>?_⟩
  ·show (g (d a) e).bind (fun e1=>Ju (eC (.bl true) e1) ((el e1).bind fun x=>(Z7 g (eC (.bl true)) el (xs.map d) e1).map fun r=>x::r) (Z7 g (eC (.bl true)) el (xs.map d) e1))=_
   rw [h1]
   show (el e1).bind _=_
   rw [h2]
   show (Z7 g (eC (.bl true)) el (xs.map d) e1).map _=_
   rw [h4];rfl
  ·rcases List.mem_cons.mp hx with rfl | hx
   ·exact h3
   ·exact h6 x hx
theorem bS {μ:Type} {a b:J4 μ} {e e1:Q2} {m m1:μ} {r:Option (Q2×μ)} (h:a e m=some (e1,m1)) (hk:b e1 m1=r):Jl a b e m=r:=by unfold Jl;rw [h];exact hk
theorem bO {μ:Type} {s:Q8} {e e':Q2} {m:μ} (h:s e=some (.nx e')) (hl:e.length<=1000) (hl':e'.length<=1000):Za s e m=some (e',m):=by unfold Za;rw [h];exact if_pos ⟨hl,hl'⟩
theorem XX {μ:Type} {vw:Q2->μ->Q2} {cv:Q4} {ba bb:J4 μ} {e:Q2} {m:μ} {r:Option (Q2×μ)} (hl:e.length<=1000) (h:cv (vw e m)=some (.bl true)) (ha:ba e m=r):Jz vw cv ba bb e m=r:=by unfold Jz;rw [if_pos hl,h];exact ha
theorem Vm {μ:Type} {vw:Q2->μ->Q2} {cv:Q4} {ba bb:J4 μ} {e:Q2} {m:μ} {r:Option (Q2×μ)} (hl:e.length<=1000) (h:cv (vw e m)=some (.bl false)) (ha:bb e m=r):Jz vw cv ba bb e m=r:=by unfold Jz;rw [if_pos hl,h];exact ha
theorem FP {xs:List Int} {i:Nat} (h:4*i+4<=xs.length):∃ a b c d,a∈xs/\b∈xs/\c∈xs/\d∈xs/\Xd (iL xs) (some (4*(0+(i:Int)))) (some (4*(0+(i:Int))+4))=some (Qf a b c d):=by
 refine ⟨xs[4*i],xs[4*i+1],xs[4*i+2],xs[4*i+3],List.getElem_mem _,List.getElem_mem _,List.getElem_mem _,List.getElem_mem _,?_⟩
 show some (D.lst (Jf (xs.map D.int) (some (4*(0+(i:Int)))) (some (4*(0+(i:Int))+4))))=_
 have s1:∀ n:Nat,Jx n 0 (some (4*(0+(i:Int))))=min (4*i) n:=fun n=>by
  show (if 4*(0+(i:Int))<0 then (4*(0+(i:Int))+(n:Int)).toNat else min (4*(0+(i:Int))).toNat n)=_
  rw [if_neg (by omega),show (4*(0+(i:Int))).toNat=4*i by omega]
 have s2:∀ n m:Nat,Jx n m (some (4*(0+(i:Int))+4))=min (4*i+4) n:=fun n m=>by
  show (if 4*(0+(i:Int))+4<0 then (4*(0+(i:Int))+4+(n:Int)).toNat else min (4*(0+(i:Int))+4).toNat n)=_
  rw [if_neg (by omega),show (4*(0+(i:Int))+4).toNat=4*i+4 by omega]
 unfold Jf
 rw [s1,s2,List.length_map,show min (4*i) xs.length=4*i by omega,show min (4*i+4) xs.length-4*i=4 by omega]
 rw [<- List.map_drop,<- List.map_take]
 unfold Qf iL
 congr 3
 rw [List.drop_eq_getElem_cons (by omega),List.drop_eq_getElem_cons (by omega),List.drop_eq_getElem_cons (by omega),List.drop_eq_getElem_cons (by omega)]
 rfl
structure Inv27 (i:Nat) (ps:List PB) (labs:List Str):Prop where
 pl:ps.length<=i
 ok:∀ p∈ps,p.ok
 it:∀ is,PB.pa is∈ps->is.length<=i
 ll:labs.length<=i
 lb:∀ x∈labs,Lab x
theorem HW {i:Nat} {ps:List PB} {labs:List Str} (h:Inv27 i ps labs) (hi:i<=1000):JX (ps.map PB.bk)=true:=by
 unfold JX
 rw [List.length_map,decide_eq_true (by have:=h.pl;omega),Bool.true_and,List.all_map,List.all_eq_true]
 intro p hp
 cases p with
 | bo b=>rfl
 | pa is =>
  show (decide ((is.map fun i=>Im.pl i.d).length<100000)&&(is.map fun i=>Im.pl i.d).all WT)=true
  rw [List.length_map,decide_eq_true (by have:=h.it is hp;omega),Bool.true_and,List.all_map,List.all_eq_true]
  exact fun _ _=>rfl
theorem G3 (ps:List PB):JM (ps.map PB.bk)=.lst (ps.map PB.d):=by
 unfold JM
 rw [List.map_map,show (J3∘PB.bk)=PB.d from funext Ad]
def PY:PB->Bool
 | .pa _=>true
 | .bo _=>false
def lastPa (ps:List PB):Bool:=(ps.getLast?.map PY).getD false
theorem pk (p:PB) (h:p.ok):∃ k r,p.d=.tup (.str k::r)/\(decide (k="para"))=PY p:=by
 cases p with
 | pa is=>exact ⟨_,_,rfl,rfl⟩
 | bo b =>
  cases b with
  | para is=>exact h.2.elim
  | chap t l=>exact ⟨_,_,rfl,rfl⟩
  | head t k l=>exact ⟨_,_,rfl,rfl⟩
  | tab rs l=>exact ⟨_,_,rfl,rfl⟩
  | plat n l=>exact ⟨_,_,rfl,rfl⟩
theorem FN {ps:List PB} (hp:∀ p∈ps,p.ok) {e:Q2} (he:eV 3 e=some (.lst (ps.map PB.d))):Qm (Q0 D.eqO (QA D.len (eV 3)) (eC (.int 0))) (Q0 D.neO (Q0 D.ix (Q0 D.ix (eV 3) (QA D.neg (eC (.int 1)))) (eC (.int 0))) (eC (.str "para"))) e=some (.bl (!lastPa ps)):=by
 rcases List.eq_nil_or_concat ps with rfl | ⟨ps0,p,e'⟩
 ·exact Xy (Q1 (Qi he rfl) rfl rfl)
 ·rw [List.concat_eq_append] at e'
  have hlen:D.len (.lst (ps.map PB.d))=some (.int (ps.length:Nat)):=by show some (D.int ((ps.map PB.d).length:Nat))=_;rw [List.length_map]
  obtain ⟨k,r,hk,hd⟩:=pk p (hp p (by rw [e'];simp))
  refine Zz (Q1 (Qi he hlen) rfl (JG (by rw [e'];simp;omega))) ?_
  have hx:D.ix (.lst (ps.map PB.d)) (.int (-1))=some p.d:=by rw [e',List.map_append];exact Tn _ _
  rw [hk] at hx
  have:lastPa ps=decide (k="para"):=by rw [hd];unfold lastPa;rw [e'];simp
  rw [this]
  refine Q1 (x:=.str k) (Q1 (Q1 he (Qi rfl rfl) hx) rfl ?_) rfl (W7 k "para")
  show ((Qu (r.length+1) 0).bind fun j=>(.str k::r)[j]?)=_
  unfold Qu
  rw [if_pos (by omega),if_pos (by omega)];rfl
theorem Inv27.snoc {i:Nat} {ps:List PB} {labs:List Str} (h:Inv27 i ps labs) {p:PB} (ok:p.ok) (hp:∀ is,p=.pa is->is.length<=i+1):Inv27 (i+1) (ps++[p]) labs:=by
 refine ⟨by rw [List.length_append];have:=h.pl;simp;omega,fun q hq=>?_,fun is hq=>?_,by have:=h.ll;omega,h.lb⟩
 ·rcases List.mem_append.mp hq with z | z
  ·exact h.ok q z
  ·rw [List.mem_singleton.mp z];exact ok
 ·rcases List.mem_append.mp hq with z | z
  ·have:=h.it is z;omega
  ·exact hp is (List.mem_singleton.mp z).symm
theorem Inv27.up {i:Nat} {ps:List PB} {labs:List Str} (h:Inv27 i ps labs):Inv27 (i+1) ps labs:=⟨by have:=h.pl;omega,h.ok,fun is hs=>by have:=h.it is hs;omega,by have:=h.ll;omega,h.lb⟩
def XY:J4 BL:=(Jl (Za (QE (YW (eV 2) (Zj (Q0 D.mulA (eC (.int 4)) (eV 5))) (Zj (Q0 D.add (Q0 D.mulA (eC (.int 4)) (eV 5)) (eC (.int 4))))) (gS 6))) (Jl (Za (QE (Q0 D.mod (Q0 D.ix (eV 6) (eC (.int 0))) (eC (.int 13))) (gS 7))) (Jl (Za (QE (eC (.str "")) (gS 8))) (Jl (Jz (Jb 3 4) (Qm (Q0 D.eqO (eV 7) (eC (.int 11))) (QP (Q0 D.lt (eV 7) (eC (.int 4))) (Q0 D.eqO (Q0 D.mod (Q0 D.ix (eV 6) (eC (.int 1))) (eC (.int 2))) (eC (.int 0))))) (Jl (Wi (Jb 3 4) 8 (eK Wv (lC (QA D.len (eV 4)) (lC (Q0 D.ix (eV 2) (Q0 D.mulA (eC (.int 4)) (eV 1))) lN)))) (XU (eV 8))) ((fun e m=>some (e,m)))) (Jl (Jz (Jb 3 4) (Q0 D.lt (eV 7) (eC (.int 4))) (Uw (eK W0 (lC (eV 7) (lC (eV 8) (lC (eV 6) lN))))) (Jz (Jb 3 4) (Qm (Q0 D.eqO (eV 7) (eC (.int 4))) (Qm (Q0 D.eqO (QA D.len (eV 3)) (eC (.int 0))) (Q0 D.neO (Q0 D.ix (Q0 D.ix (eV 3) (QA D.neg (eC (.int 1)))) (eC (.int 0))) (eC (.str "para"))))) (Vl) ((fun e m=>some (e,m))))) (Jz (Jb 3 4) (Q0 D.gt (eV 7) (eC (.int 4))) (RU (eK Xi (lC (eV 7) (lC (eV 8) (lC (eV 6) lN))))) ((fun e m=>some (e,m)))))))))
theorem QbN {S:Option D} {n i:Nat} {xs:List Int} (hn:n<=63) (hx:∀ x∈xs,Dr x) (hl:xs.length=4*n+1) (hi:i<n) {ps:List PB} {labs:List Str} (inv:Inv27 i ps labs) (v6 v7 v8:Option D) :
  ∃ (ps':List PB) (labs':List Str) (w6 w7 w8:Option D),Inv27 (i+1) ps' labs'/\XY [S,some (.int n),some (iL xs),none,none,some (.int (0+(i:Int))),v6,v7,v8] (ps.map PB.bk,labs)=some ([S,some (.int n),some (iL xs),none,none,some (.int (0+(i:Int))),w6,w7,w8],(ps'.map PB.bk,labs')):=by
 obtain ⟨a,b,c,d,ma,mb,mc,md,hcut⟩:=FP (xs:=xs) (i:=i) (by omega)
 have da:=hx a ma
 have db:=hx b mb
 have dc:=hx c mc
 have dd:=hx d md
 obtain ⟨dr,mdr,edr⟩:=Tj (xs:=xs) (j:=4*(n:Int)) (by omega) (by omega)
 have ddr:=hx dr mdr
 have ka:=JC (i:=a) (j:=13) (by decide)
 have sh:=HW inv (by omega)
 have hll:=inv.ll
 have hpl:=inv.pl
 have vw:∀ (labs:List Str) (A B C D':Option D),Jb 3 4 [S,some (.int n),some (iL xs),none,none,A,B,C,D'] (ps.map PB.bk,labs)=[S,some (.int n),some (iL xs),some (.lst (ps.map PB.d)),some (QF labs),A,B,C,D']:=fun labs A B C D'=>by
  show [S,some (.int n),some (iL xs),some (JM (ps.map PB.bk)),some (QF labs),A,B,C,D']=_
  rw [G3]
 have s123:∀ {k:J4 BL} {r:Option (Q2×BL)},k [S,some (.int n),some (iL xs),none,none,some (.int (0+(i:Int))),some (Qf a b c d),some (.int (a%13)),some (.str "")] (ps.map PB.bk,labs)=r->Jl (Za (QE (YW (eV 2) (Zj (Q0 D.mulA (eC (.int 4)) (eV 5))) (Zj (Q0 D.add (Q0 D.mulA (eC (.int 4)) (eV 5)) (eC (.int 4))))) (gS 6))) (Jl (Za (QE (Q0 D.mod (Q0 D.ix (eV 6) (eC (.int 0))) (eC (.int 13))) (gS 7))) (Jl (Za (QE (eC (.str "")) (gS 8))) k)) [S,some (.int n),some (iL xs),none,none,some (.int (0+(i:Int))),v6,v7,v8] (ps.map PB.bk,labs)=r:=fun {k r} hk =>
  bS (bO (QG (T5 rfl (Ut (Q1 rfl rfl (V3 (by decide)))) (Ut (Q1 (Q1 rfl rfl (V3 (by decide))) rfl rfl)) hcut) rfl) (by simp) (by simp)) (bS (bO (QG (Q1 (Q1 rfl rfl (C0 a b c d)) rfl (Qd (by decide))) rfl) (by simp) (by simp)) (bS (bO (QG rfl rfl) (by simp) (by simp)) hk))
 generalize hk:a%13=kd at *
 obtain ⟨l,labs',hl1,hl2,inv2,hlab⟩:∃ (l:Str) (labs':List Str),BLab l/\(kd=11->Lab l)/\Inv27 (i+1) ps labs'/\∀ {k:J4 BL} {r:Option (Q2×BL)},k [S,some (.int n),some (iL xs),none,none,some (.int (0+(i:Int))),some (Qf a b c d),some (.int kd),some (.str l)] (ps.map PB.bk,labs')=r->Jl (Jz (Jb 3 4) (Qm (Q0 D.eqO (eV 7) (eC (.int 11))) (QP (Q0 D.lt (eV 7) (eC (.int 4))) (Q0 D.eqO (Q0 D.mod (Q0 D.ix (eV 6) (eC (.int 1))) (eC (.int 2))) (eC (.int 0))))) (Jl (Wi (Jb 3 4) 8 (eK Wv (lC (QA D.len (eV 4)) (lC (Q0 D.ix (eV 2) (Q0 D.mulA (eC (.int 4)) (eV 1))) lN)))) (XU (eV 8))) ((fun e m=>some (e,m)))) k [S,some (.int n),some (iL xs),none,none,some (.int (0+(i:Int))),some (Qf a b c d),some (.int kd),some (.str "")] (ps.map PB.bk,labs)=r:=by
  have hc:∃ q:Bool,(kd=11->q=true)/\Qm (Q0 D.eqO (eV 7) (eC (.int 11))) (QP (Q0 D.lt (eV 7) (eC (.int 4))) (Q0 D.eqO (Q0 D.mod (Q0 D.ix (eV 6) (eC (.int 1))) (eC (.int 2))) (eC (.int 0)))) (Jb 3 4 [S,some (.int n),some (iL xs),none,none,some (.int (0+(i:Int))),some (Qf a b c d),some (.int kd),some (.str "")] (ps.map PB.bk,labs))=some (.bl q):=by
   rw [vw]
   by_cases h11:kd=11
   ·exact ⟨true,fun _=>rfl,Xy (Q1 rfl rfl (ZR h11))⟩
   ·by_cases h4:kd<4
    ·by_cases h2:b%2=0
     ·exact ⟨true,fun _=>rfl,Zz (Q1 rfl rfl (JG h11)) (J2 (Q1 rfl rfl (Pf h4)) (Q1 (Q1 (Q1 rfl rfl (Zx a b c d)) rfl (Qd (by decide))) rfl (ZR h2)))⟩
     ·exact ⟨false,fun z=>absurd z h11,Zz (Q1 rfl rfl (JG h11)) (J2 (Q1 rfl rfl (Pf h4)) (Q1 (Q1 (Q1 rfl rfl (Zx a b c d)) rfl (Qd (by decide))) rfl (JG h2)))⟩
    ·exact ⟨false,fun z=>absurd z h11,Zz (Q1 rfl rfl (JG h11)) (YN (Q1 rfl rfl (Kv h4)))⟩
  obtain ⟨q,q11,hq⟩:=hc
  cases q with
  | false=>exact ⟨"",labs,.inl rfl,fun z=>absurd (q11 z) (by decide),inv.up,fun {k r} hk=>bS (Vm (by simp) hq rfl) hk⟩
  | true =>
   obtain ⟨lb,elb,hlb⟩:=CO labs.length (d:=dr) (by omega) ddr
   have hlen:D.len (QF labs)=some (.int (labs.length:Nat)):=by show some (D.int ((labs.map D.str).length:Nat))=_;rw [List.length_map]
   refine ⟨lb,labs++[lb],.inr hlb,fun _=>hlb,⟨by omega,inv.ok,fun is hs=>by have:=inv.it is hs;omega,by rw [List.length_append];simp;omega,fun x hx=>?_⟩,fun {k r} hk=>bS (XX (by simp) hq (bS (e1:=[S,some (.int n),some (iL xs),none,none,some (.int (0+(i:Int))),some (Qf a b c d),some (.int kd),some (.str lb)]) (m1:=(ps.map PB.bk,labs)) ?_ ?_)) hk⟩
   ·rcases List.mem_append.mp hx with z | z
    ·exact inv.lb x z
    ·rw [List.mem_singleton.mp z];exact hlb
   ·have hv:eK Wv (lC (QA D.len (eV 4)) (lC (Q0 D.ix (eV 2) (Q0 D.mulA (eC (.int 4)) (eV 1))) lN)) (Jb 3 4 [S,some (.int n),some (iL xs),none,none,some (.int (0+(i:Int))),some (Qf a b c d),some (.int kd),some (.str "")] (ps.map PB.bk,labs))=some (.str lb):=by
     rw [vw]
     exact Zp (Qi rfl hlen) (Q1 rfl (Q1 rfl rfl (V3 (by decide))) edr) elb
    unfold Wi
    rw [if_pos (by simp),hv]
    rfl
   ·show (if [S,some (D.int n),some (iL xs),none,none,some (D.int (0+(i:Int))),some (Qf a b c d),some (D.int kd),some (D.str lb)].length<=1000/\labs.length<100000 then _ else none)=_
    rw [if_pos ⟨by simp,by omega⟩]
 have pl':(ps.map PB.bk).length<100000:=by rw [List.length_map];omega
 have lt9:∀ {A B C D':Option D},[S,some (D.int n),some (iL xs),none,none,A,B,C,D'].length<=1000:=by simp
 by_cases k4:kd<4
 ·-- a block
  obtain ⟨B,eB,Po,npB⟩:=Gh (kd:=kd) (l:=l) (a:=a) (b:=b) (c:=c) (d:=d) hl1 ⟨ka.1,k4⟩ db dc dd
  refine ⟨ps++[.bo B],labs',some (Qf a b c d),some (.int kd),some (.str l),?_,s123 (hlab (bS (XX lt9 (by rw [vw];exact Q1 rfl rfl (Pf k4)) ?_) (Vm lt9 ?_ rfl)))⟩
  ·exact Inv27.mk (by rw [List.length_append];simp;omega) (fun q hq=>by
    rcases List.mem_append.mp hq with z | z
    ·exact inv.ok q z
    ·rw [List.mem_singleton.mp z];exact ⟨Po,npB⟩) (fun is hq=>by
    rcases List.mem_append.mp hq with z | z
    ·have:=inv.it is z;omega
    ·have:=List.mem_singleton.mp z;cases this) inv2.ll inv2.lb
  ·show ((eK W0 (lC (eV 7) (lC (eV 8) (lC (eV 6) lN))) [S,some (D.int n),some (iL xs),none,none,some (D.int (0+(i:Int))),some (Qf a b c d),some (D.int kd),some (D.str l)]).bind fun d'=>if [S,some (D.int n),some (iL xs),none,none,some (D.int (0+(i:Int))),some (Qf a b c d),some (D.int kd),some (D.str l)].length<=1000/\(ps.map PB.bk).length<100000 then some ([S,some (D.int n),some (iL xs),none,none,some (D.int (0+(i:Int))),some (Qf a b c d),some (D.int kd),some (D.str l)],((ps.map PB.bk)++[.pl d'],labs')) else none)=_
   rw [Xa rfl rfl rfl eB]
   show (if _ then _ else none)=_
   rw [if_pos ⟨lt9,pl'⟩]
   rw [show ps.map PB.bk++[.pl B.d]=(ps++[PB.bo B]).map PB.bk by rw [List.map_append];rfl]
  ·have:Jb 3 4 [S,some (.int n),some (iL xs),none,none,some (.int (0+(i:Int))),some (Qf a b c d),some (.int kd),some (.str l)] ((ps++[PB.bo B]).map PB.bk,labs')=[S,some (.int n),some (iL xs),some (JM ((ps++[PB.bo B]).map PB.bk)),some (QF labs'),some (.int (0+(i:Int))),some (Qf a b c d),some (.int kd),some (.str l)]:=rfl
   rw [this]
   exact Q1 rfl rfl (Td (by omega))
 ·-- a paragraph is last,or comes
  obtain ⟨ps1,ok1,l1,it1,lp,hp⟩:∃ ps1:List PB,(∀ p∈ps1,p.ok)/\ps1.length<=i+1/\(∀ is,PB.pa is∈ps1->is.length<=i)/\(∃ ps0 is,ps1=ps0++[.pa is])/\Jz (Jb 3 4) (Q0 D.lt (eV 7) (eC (.int 4))) (Uw (eK W0 (lC (eV 7) (lC (eV 8) (lC (eV 6) lN))))) (Jz (Jb 3 4) (Qm (Q0 D.eqO (eV 7) (eC (.int 4))) (Qm (Q0 D.eqO (QA D.len (eV 3)) (eC (.int 0))) (Q0 D.neO (Q0 D.ix (Q0 D.ix (eV 3) (QA D.neg (eC (.int 1)))) (eC (.int 0))) (eC (.str "para"))))) (Vl) ((fun e m=>some (e,m)))) [S,some (.int n),some (iL xs),none,none,some (.int (0+(i:Int))),some (Qf a b c d),some (.int kd),some (.str l)] (ps.map PB.bk,labs')=some ([S,some (.int n),some (iL xs),none,none,some (.int (0+(i:Int))),some (Qf a b c d),some (.int kd),some (.str l)],(ps1.map PB.bk,labs')):=by
   have hc:=FN inv.ok (e:=[S,some (.int n),some (iL xs),some (.lst (ps.map PB.d)),some (QF labs'),some (.int (0+(i:Int))),some (Qf a b c d),some (.int kd),some (.str l)]) rfl
   have yes:Vl [S,some (.int n),some (iL xs),none,none,some (.int (0+(i:Int))),some (Qf a b c d),some (.int kd),some (.str l)] (ps.map PB.bk,labs')=some ([S,some (.int n),some (iL xs),none,none,some (.int (0+(i:Int))),some (Qf a b c d),some (.int kd),some (.str l)],((ps++[PB.pa []]).map PB.bk,labs')):=by
    unfold Vl
    rw [if_pos ⟨lt9,pl'⟩,show ps.map PB.bk++[.pa []]=(ps++[PB.pa []]).map PB.bk by rw [List.map_append];rfl]
   have new:(∀ p∈ps++[PB.pa []],p.ok)/\(ps++[PB.pa []]).length<=i+1/\(∀ is,PB.pa is∈ps++[PB.pa []]->is.length<=i):=by
    refine ⟨fun p hp=>?_,by rw [List.length_append];simp;omega,fun is hq=>?_⟩
    ·rcases List.mem_append.mp hp with z | z
     ·exact inv.ok p z
     ·rw [List.mem_singleton.mp z];exact ⟨fun _ h=>(by cases h),by simp⟩
    ·rcases List.mem_append.mp hq with z | z
     ·exact inv.it is z
     ·have:=List.mem_singleton.mp z;cases this;exact Nat.zero_le _
   have nlt:Q0 D.lt (eV 7) (eC (.int 4)) (Jb 3 4 [S,some (.int n),some (iL xs),none,none,some (.int (0+(i:Int))),some (Qf a b c d),some (.int kd),some (.str l)] (ps.map PB.bk,labs'))=some (.bl false):=by rw [vw];exact Q1 rfl rfl (Kv k4)
   by_cases h4:kd=4
   ·exact ⟨_,new.1,new.2.1,new.2.2,⟨ps,[],rfl⟩,Vm lt9 nlt (XX lt9 (by rw [vw];exact Xy (Q1 rfl rfl (ZR h4))) yes)⟩
   ·cases hlp:lastPa ps with
    | false =>
     rw [hlp] at hc
     exact ⟨_,new.1,new.2.1,new.2.2,⟨ps,[],rfl⟩,Vm lt9 nlt (XX lt9 (by rw [vw];exact Zz (Q1 rfl rfl (JG h4)) hc) yes)⟩
    | true =>
     rw [hlp] at hc
     refine ⟨ps,inv.ok,by omega,inv.it,?_,Vm lt9 nlt (Vm lt9 (by rw [vw];exact Zz (Q1 rfl rfl (JG h4)) hc) rfl)⟩
     rcases List.eq_nil_or_concat ps with rfl | ⟨ps0,p,e'⟩
     ·cases hlp
     ·rw [List.concat_eq_append] at e'
      unfold lastPa at hlp
      rw [e'] at hlp
      cases p with
      | bo b=>simp [PY] at hlp
      | pa is=>exact ⟨ps0,is,e'⟩
  obtain ⟨ps0,is,e1⟩:=lp
  have inv1:Inv27 (i+1) ps1 labs':=⟨l1,ok1,fun is hs=>by have:=it1 is hs;omega,inv2.ll,inv2.lb⟩
  have vw1:Jb 3 4 [S,some (.int n),some (iL xs),none,none,some (.int (0+(i:Int))),some (Qf a b c d),some (.int kd),some (.str l)] (ps1.map PB.bk,labs')=[S,some (.int n),some (iL xs),some (JM (ps1.map PB.bk)),some (QF labs'),some (.int (0+(i:Int))),some (Qf a b c d),some (.int kd),some (.str l)]:=rfl
  by_cases k5:4<kd
  ·obtain ⟨I,eI,Pp⟩:=Dx (kd:=kd) (l:=l) (a:=a) (b:=b) (c:=c) (d:=d) hl2 ⟨k5,ka.2⟩ db dc dd
   have okp:=ok1 (.pa is) (by rw [e1];simp)
   have itl:=it1 is (by rw [e1];simp)
   refine ⟨ps0++[.pa (is++[I])],labs',some (Qf a b c d),some (.int kd),some (.str l),?_,s123 (hlab (bS hp (XX lt9 (by rw [vw1];exact Q1 rfl rfl (Te k5)) ?_)))⟩
   ·refine ⟨by rw [e1] at l1;rw [List.length_append] at l1 ⊢;exact l1,fun p hp=>?_,fun js hq=>?_,inv2.ll,inv2.lb⟩
    ·rcases List.mem_append.mp hp with z | z
     ·exact ok1 p (by rw [e1];exact List.mem_append_left _ z)
     ·rw [List.mem_singleton.mp z]
      refine ⟨fun r hr=>?_,by rw [List.length_append];simp;omega⟩
      rcases List.mem_append.mp hr with y | y
      ·exact okp.1 r y
      ·rw [List.mem_singleton.mp y];exact Pp
    ·rcases List.mem_append.mp hq with z | z
     ·have:=it1 js (by rw [e1];exact List.mem_append_left _ z);omega
     ·have:=List.mem_singleton.mp z;cases this;rw [List.length_append];simp;omega
   ·have lastq:Z9 WL (ps1.map PB.bk)=some true:=by rw [e1,List.map_append];exact lQ _ _ _
    have lu:ZL (X4 (.pl I.d)) (ps1.map PB.bk)=(ps0++[PB.pa (is++[I])]).map PB.bk:=by
     rw [e1,List.map_append,List.map_append]
     show ZL _ (ps0.map PB.bk++[.pa (is.map fun i=>Im.pl i.d)])=_
     rw [lU]
     show ps0.map PB.bk++[.pa (is.map (fun i=>Im.pl i.d)++[.pl I.d])]=ps0.map PB.bk++[.pa ((is++[I]).map fun i=>Im.pl i.d)]
     rw [List.map_append];rfl
    have sh1:=HW inv1 (by omega)
    show ((eK Xi (lC (eV 7) (lC (eV 8) (lC (eV 6) lN))) [S,some (D.int n),some (iL xs),none,none,some (D.int (0+(i:Int))),some (Qf a b c d),some (D.int kd),some (D.str l)]).bind fun d'=>if [S,some (D.int n),some (iL xs),none,none,some (D.int (0+(i:Int))),some (Qf a b c d),some (D.int kd),some (D.str l)].length<=1000/\JX (ps1.map PB.bk)=true/\Z9 WL (ps1.map PB.bk)=some true then some ([S,some (D.int n),some (iL xs),none,none,some (D.int (0+(i:Int))),some (Qf a b c d),some (D.int kd),some (D.str l)],(ZL (X4 (.pl d')) (ps1.map PB.bk),labs')) else none)=_
    rw [Xa rfl rfl rfl eI]
    show (if _ then _ else none)=_
    rw [if_pos ⟨lt9,sh1,lastq⟩,lu]
  ·exact ⟨ps1,labs',some (Qf a b c d),some (.int kd),some (.str l),inv1,s123 (hlab (bS hp (Vm lt9 (by rw [vw1];exact Q1 rfl rfl (Td k5)) rfl)))⟩
theorem Ca (n:Nat) (R:Nat->Q2->BL->Prop) {g:Qw} {b:J4 BL} (h:∀ i,i<n->∀ e m,R i e m->∃ e1 e' m',g (.int (0+(i:Int))) e=some e1/\b e1 m=some (e',m')/\R (i+1) e' m'):∀ e m,R 0 e m->∃ e' m',Wd.loopR g b (rD 0 n) e m=some (e',m')/\R n e' m':=by
 intro e m h0
 have key:∀ k,k<=n->∀ e m,R (n-k) e m->∃ e' m',Wd.loopR g b ((List.range' (n-k) k).map fun i:Nat=>D.int (0+(i:Int))) e m=some (e',m')/\R n e' m':=by
  intro k
  induction k with
  | zero=>exact fun _ e m r=>⟨e,m,rfl,r⟩
  | succ k ih =>
   intro hk e m r
   obtain ⟨e1,e',m',h1,h2,h3⟩:=h (n-(k+1)) (by omega) e m r
   rw [show n-(k+1)+1=n-k by omega] at h3
   obtain ⟨e2,m2,h4,h5⟩:=ih (by omega) e' m' h3
   refine ⟨e2,m2,?_,h5⟩
   rw [List.range'_succ,List.map_cons]
   show (g _ e).bind _=_
   rw [h1]
   show (b e1 m).bind _=_
   rw [h2]
   show Wd.loopR g b _ e' m'=_
   rw [show n-(k+1)+1=n-k by omega]
   exact h4
 have:=key n (Nat.le_refl _) e m (by rw [Nat.sub_self];exact h0)
 rw [Nat.sub_self] at this
 unfold rD
 rw [List.range_eq_range']
 exact this
theorem Gn (ns:List Int):∃ bs:List Bo,P5 [.scr ns]=some (.lst (bs.map Bo.d))/\ZE bs/\bs.length<=64:=by
 obtain ⟨ys,ey,ly,hy⟩:=Lw ns (turn:=1000) (many:=1) (by omega) (by omega)
 obtain ⟨y,my,eyx⟩:=Tj (xs:=ys) (j:=0) (by omega) (by omega)
 have y64:=JC (i:=y) (j:=64) (by decide)
 obtain ⟨n,en⟩:∃ n:Nat,y%64=n:=⟨(y%64).toNat,by omega⟩
 have hn:n<=63:=by omega
 obtain ⟨xs,ex,lx,hx⟩:=Lw ns (turn:=2) (many:=4*n+1) (by omega) (by omega)
 refine P1 (dd:=fun bs:List Bo=>D.lst (bs.map Bo.d)) (P:=fun bs=>ZE bs/\bs.length<=64) rfl ?_
 refine Ys (QG (Q1 (Q1 (Xa rfl rfl rfl ey) rfl eyx) rfl (Qd (by decide))) rfl) ?_
 rw [en]
 refine Ys (e1:=[some (.scr ns),some (.int n),some (iL xs),none,none,none,none,none,none]) (QG (Xa rfl rfl (Q1 (Q1 rfl rfl (V3 (by decide))) rfl (show D.add (.int (4*(n:Int))) (.int 1)=some (.int ((4*n+1:Nat):Int)) from by rw [show ((4*n+1:Nat):Int)=4*(n:Int)+1 by omega];rfl)) ex) rfl) ?_
 refine Ys (QG rfl rfl) (Ys (QG rfl rfl) ?_)
 let R:Nat->Q2->BL->Prop:=fun i e m=>∃ (ps:List PB) (labs:List Str) (v5 v6 v7 v8:Option D),e=[some (.scr ns),some (.int n),some (iL xs),none,none,v5,v6,v7,v8]/\m=(ps.map PB.bk,labs)/\Inv27 i ps labs
 obtain ⟨e',m',h1,ps,labs,v5,v6,v7,v8,rfl,rfl,inv⟩:=Ca n R (g:=gS 5) (b:=XY) (by
  rintro i hi e m ⟨ps,labs,v5,v6,v7,v8,rfl,rfl,inv⟩
  obtain ⟨ps',labs',w6,w7,w8,inv',h⟩:=QbN (S:=some (.scr ns)) hn hx lx hi inv v6 v7 v8
  exact ⟨_,_,_,rfl,h,ps',labs',_,w6,w7,w8,rfl,rfl,inv'⟩) [some (.scr ns),some (.int n),some (iL xs),none,none,none,none,none,none] ([],[]) ⟨[],[],none,none,none,none,rfl,rfl,⟨Nat.zero_le _,fun _ h=>(by cases h),fun _ h=>(by cases h),Nat.zero_le _,fun _ h=>(by cases h)⟩⟩
 refine Ys (e1:=[some (.scr ns),some (.int n),some (iL xs),some (.lst (ps.map PB.d)),some (QF labs),v5,v6,v7,v8]) ?_ ?_
 ·have hf:V7 (JI (eV 1)) (gS 5) XY [some (.scr ns),some (.int n),some (iL xs),none,none,none,none,none,none] ([],[])=some ([some (.scr ns),some (.int n),some (iL xs),none,none,v5,v6,v7,v8],(ps.map PB.bk,labs)):=by
   unfold V7
   rw [VZ (n:=n) rfl (by omega)]
   exact h1
  show WR 3 4 (V7 (JI (eV 1)) (gS 5) XY) [some (.scr ns),some (.int n),some (iL xs),some (.lst []),some (.lst []),none,none,none,none]=_
  unfold WR
  rw [if_pos ⟨rfl,by simp,by decide⟩]
  show (V7 (JI (eV 1)) (gS 5) XY [some (.scr ns),some (.int n),some (iL xs),none,none,none,none,none,none] ([],[])).bind _=_
  rw [hf]
  show (if [some (D.scr ns),some (D.int n),some (iL xs),none,none,v5,v6,v7,v8].length<=1000 then some (Fl.nx [some (.scr ns),some (.int n),some (iL xs),some (JM (ps.map PB.bk)),some (QF labs),v5,v6,v7,v8]) else none)=_
  rw [if_pos (by simp),G3]
 ·obtain ⟨dr,mdr,edr⟩:=Tj (xs:=xs) (j:=4*(n:Int)) (by omega) (by omega)
  obtain ⟨bs,hb,lb,okb⟩:=LX (g:=gS 0) (el:=eK Xh (lC (eV 0) (lC (eV 1) (lC (Q0 D.ix (eV 2) (Q0 D.mulA (eC (.int 4)) (eV 3))) lN)))) PB.d Bo.d Bo.ok (fun e=>∃ v,e=[v,some (QF labs),some (iL xs),some (.int n)]) ps (by
   rintro p hp e ⟨v,rfl⟩
   obtain ⟨b,eb,okb⟩:=FE (labs:=labs) inv.lb (by have:=inv.ll;omega) (inv.ok p hp) (hx dr mdr)
   exact ⟨_,b,rfl,⟨_,rfl⟩,Xa rfl rfl (Q1 rfl (Q1 rfl rfl (V3 (by decide))) edr) eb,okb⟩) [none,some (QF labs),some (iL xs),some (.int n)] ⟨none,rfl⟩
  have:=inv.pl
  refine ⟨bs,ret ?_,⟨okb,by omega⟩,by omega⟩
  unfold JV
  show (if (ps.map PB.d).length<=Qc then (Z7 _ _ _ (ps.map PB.d) [none,some (QF labs),some (iL xs),some (.int n)]).map D.lst else none)=_
  rw [if_pos (by rw [List.length_map];show _<=16777216;omega),hb]
  rfl
theorem Wk {x:Str} (h:Txt.startswith x "ref "=false):Jq x=false:=by unfold Jq;rw [h];rfl
theorem L5:∀ (xs:List Str) (n:Nat),(∀ x∈xs,Jq x=false)->JA n xs=-1
 | [],_,_=>rfl
 | x::xs,n,h=>by
  show (if Jq x=true then (n:Int) else JA (n+1) xs)=-1
  rw [if_neg (by rw [h x List.mem_cons_self];decide)]
  exact L5 xs (n+1) fun y hy=>h y (List.mem_cons_of_mem _ hy)
theorem L6:∀ (xs:List Str) (n:Nat),JA n xs=-1->∀ x∈xs,Jq x=false
 | [],_,_,_,h=>(by cases h)
 | x::xs,n,h,y,hy=>by
  replace h:(if Jq x=true then (n:Int) else JA (n+1) xs)=-1:=h
  by_cases hb:Jq x=true
  ·rw [if_pos hb] at h;omega
  ·rw [if_neg hb] at h
   rcases List.mem_cons.mp hy with rfl | hy
   ·exact Bool.eq_false_iff.mpr hb
   ·exact L6 xs (n+1) h y hy
theorem L9 {l a b:Str} (hl:Lab l):Jq ("ref "++l++" "++a++"|"++b)=false↔124∉cs a/\124∉cs b:=by
 unfold Jq
 rw [UU,show Txt.startswith ("ref "++(l++(" "++(a++("|"++b))))) "ref "=true from sw rfl,Bool.true_and,decide_eq_false_iff_not]
 have nl:(cs l).count 124=0:=List.count_eq_zero.mpr fun z=>by have:=hl.1 124 z;omega
 simp only [Qx,List.count_append,nl]
 rw [show (cs "ref ").count 124=0 from rfl,show (cs " ").count 124=0 from rfl,show (cs "|").count 124=1 from rfl,<- List.count_eq_zero,<- List.count_eq_zero (l:=cs b)]
 omega
theorem KY {i:It} (h:i.ok):(∀ r∈i.rows,Jq r=false)↔i.free:=by
 cases i with
 | ref l a b =>
  refine ⟨fun z=>(L9 h.1).mp (z _ (List.mem_singleton.mpr rfl)),fun z r hr=>?_⟩
  rw [List.mem_singleton.mp hr]
  exact (L9 h.1).mpr z
 | word x ns =>
  refine ⟨fun _=>trivial,fun _ r hr=>?_⟩
  rcases List.mem_cons.mp hr with rfl | hr
  ·exact Wk (sw rfl)
  ·obtain ⟨n,_,rfl⟩:=List.mem_map.mp hr;exact Wk (sw rfl)
 | mark l=>exact ⟨fun _=>trivial,fun _ r hr=>by rw [List.mem_singleton.mp hr];exact Wk (sw rfl)⟩
 | key x=>exact ⟨fun _=>trivial,fun _ r hr=>by rw [List.mem_singleton.mp hr];exact Wk (sw rfl)⟩
theorem DA (b:Bo):Jq b.first=false:=by
 refine Wk ?_
 cases b with
 | chap t l=>show Txt.startswith ("chapter "++QH l++" "++t) _=_;simp only [Y6];exact sw rfl
 | head t k l=>show Txt.startswith ("heading "++QV k++" "++QH l++" "++t) _=_;simp only [Y6];exact sw rfl
 | tab rs l=>exact sw rfl
 | plat n l=>show Txt.startswith ("plates "++QV n++" "++QH l) _=_;simp only [Y6];exact sw rfl
 | para is=>show Txt.startswith "para" "ref "=false;rw [Ov];rfl
theorem LG {b:Bo} (h:b.ok):(∀ r∈b.rows,Jq r=false)↔b.free:=by
 have cons:∀ {P:Prop},((∀ r∈b.more,Jq r=false)↔P)->((∀ r∈b.rows,Jq r=false)↔P):=fun {P} hp=>by
  rw [<- hp]
  refine ⟨fun z r hr=>z r (List.mem_cons_of_mem _ hr),fun z r hr=>?_⟩
  rcases List.mem_cons.mp hr with rfl | hr
  ·exact DA b
  ·exact z r hr
 refine cons ?_
 cases b with
 | chap t l=>exact ⟨fun _=>trivial,fun _ _ h=>(by cases h)⟩
 | head t k l=>exact ⟨fun _=>trivial,fun _ _ h=>(by cases h)⟩
 | plat n l=>exact ⟨fun _=>trivial,fun _ _ h=>(by cases h)⟩
 | tab rs l=>exact ⟨fun _=>trivial,fun _ r hr=>by obtain ⟨n,_,rfl⟩:=List.mem_map.mp hr;exact Wk (sw rfl)⟩
 | para is =>
  refine ⟨fun z i hi=>(KY (h.1 i hi)).mp fun r hr=>z r (List.mem_flatMap.mpr ⟨i,hi,hr⟩),fun z r hr=>?_⟩
  obtain ⟨i,hi,hr⟩:=List.mem_flatMap.mp hr
  exact (KY (h.1 i hi)).mpr (z i hi) r hr
theorem LJ {bs:List Bo} (h:ZE bs):JA 0 (QW bs)=-1↔∀ b∈bs,b.free:=by
 refine ⟨fun z b hb=>(LG (h.1 b hb)).mp fun r hr=>L6 _ 0 z r (List.mem_flatMap.mpr ⟨b,hb,hr⟩),fun z=>L5 _ 0 fun r hr=>?_⟩
 obtain ⟨b,hb,hr⟩:=List.mem_flatMap.mp hr
 exact (LG (h.1 b hb)).mpr (z b hb) r hr
theorem Gm {b:Bo} (h:b.ok):Xq b.d=true:=by
 cases b with
 | chap t l=>rfl
 | head t k l=>rfl
 | plat n l=>rfl
 | tab rs l=>show decide ((rs.map D.str).length<=100000)=true;rw [List.length_map];exact decide_eq_true (by have:=h.2.2.1;omega)
 | para is=>show decide ((is.map It.d).length<=100000)=true;rw [List.length_map];exact decide_eq_true (by have:=h.2;omega)
theorem Ko {bs:List Bo} (h:ZE bs) (hf:∀ b∈bs,b.free) (S B:Option D):sQ (QE (eK Xj (lC (eV 1) lN)) (gS 4)) (sQ (QE (QA D.listOf (eV 4)) (gS 5)) (sQ (Qq (JI (eC (.int 2))) (gS 6) (WQ 7 8 9 VI (lC (eV 2) lN) Yu (lC (eV 5) lN) (Qm (Jm (eK YZ (lC (eV 7) (lC (eV 4) lN)))) (Qm (Jm (eK YZ (lC (eV 8) (lC (eV 1) lN)))) (Qm (Q0 D.neO (eV 2) (eV 1)) (Q0 D.neO (eV 5) (eV 4))))))) (QC (QP (Q0 D.eqO (eV 2) (eV 1)) (Q0 D.eqO (eV 5) (eV 4)))))) [S,some (.lst (bs.map Bo.d)),some (.lst (bs.map Bo.d)),B,none,none,none,none,none,none]=some (.rt (.bl true)):=by
 have rl:=HM h
 have hw:=Qcp h ((LJ h).mpr hf)
 have hr:=Qav h hf
 have ab:=ME h
 have ar:Al 6 (QF (QW bs)):=(RQ (by omega)).mono (by omega)
 have one:∀ v6,WQ 7 8 9 VI (lC (eV 2) lN) Yu (lC (eV 5) lN) (Qm (Jm (eK YZ (lC (eV 7) (lC (eV 4) lN)))) (Qm (Jm (eK YZ (lC (eV 8) (lC (eV 1) lN)))) (Qm (Q0 D.neO (eV 2) (eV 1)) (Q0 D.neO (eV 5) (eV 4))))) [S,some (.lst (bs.map Bo.d)),some (.lst (bs.map Bo.d)),B,some (QF (QW bs)),some (QF (QW bs)),v6,none,none,none]=some (.nx [S,some (.lst (bs.map Bo.d)),some (.lst (bs.map Bo.d)),B,some (QF (QW bs)),some (QF (QW bs)),v6,none,none,none]):=fun v6=>by
  have hc:(Qm (Jm (eK YZ (lC (eV 7) (lC (eV 4) lN)))) (Qm (Jm (eK YZ (lC (eV 8) (lC (eV 1) lN)))) (Qm (Q0 D.neO (eV 2) (eV 1)) (Q0 D.neO (eV 5) (eV 4))))) [S,some (.lst (bs.map Bo.d)),some (.lst (bs.map Bo.d)),B,some (QF (QW bs)),some (QF (QW bs)),v6,some (QF (QW bs)),some (.lst (bs.map Bo.d)),none]=some (.bl false):=Zz (W8 (Zp rfl rfl (MF ar))) (Zz (W8 (Zp rfl rfl (MF ab))) (Zz (Q1 rfl rfl (ab.ne (by omega))) (Q1 rfl rfl (ar.ne (by omega)))))
  unfold WQ
  show (VI [.lst (bs.map Bo.d)]).bind _=_
  rw [hw]
  show (Yu [QF (QW bs)]).bind _=_
  rw [hr]
  refine if_pos ⟨rfl,?_,?_,?_,by simp,by simp,by simp,?_⟩
  ·show ((QW bs).map D.str).length<=_;rw [List.length_map];omega
  ·rw [List.length_map];have:=h.2;omega
  ·rw [List.all_map,List.all_eq_true];exact fun b hb=>Gm (h.1 b hb)
  ·show X3 ((Qm _ _) [S,some (.lst (bs.map Bo.d)),some (.lst (bs.map Bo.d)),B,some (QF (QW bs)),some (QF (QW bs)),v6,some (QF (QW bs)),some (.lst (bs.map Bo.d)),none])=true
   rw [hc];rfl
 refine st (QG (QX rfl (Kp h)) rfl) (st (QG (Qi rfl rfl) rfl) ?_)
 refine st (e1:=[S,some (.lst (bs.map Bo.d)),some (.lst (bs.map Bo.d)),B,some (QF (QW bs)),some (QF (QW bs)),some (.int 1),none,none,none]) ?_ (ret (J2 (Q1 rfl rfl (ab.eqO (by omega))) (Q1 rfl rfl (ar.eqO (by omega)))))
 show Z6 (WQ 7 8 9 VI (lC (eV 2) lN) Yu (lC (eV 5) lN) _ [S,some (.lst (bs.map Bo.d)),some (.lst (bs.map Bo.d)),B,some (QF (QW bs)),some (QF (QW bs)),some (.int 0),none,none,none]) _=_
 rw [one]
 show Z6 (WQ 7 8 9 VI (lC (eV 2) lN) Yu (lC (eV 5) lN) _ [S,some (.lst (bs.map Bo.d)),some (.lst (bs.map Bo.d)),B,some (QF (QW bs)),some (QF (QW bs)),some (.int 1),none,none,none]) _=_
 rw [one]
 rfl
theorem CT (ns:List Int):Xn [.scr ns]=some (.bl true):=by
 obtain ⟨bs,eb,ok,_⟩:=Gn ns
 have rl:=HM ok
 have ab:=ME ok
 have hbar:TM [QF (QW bs)]=some (.int (JA 0 (QW bs))):=Ga (by omega)
 refine QJ rfl (st (QG (QX rfl eb) rfl) (st (QG (QX rfl (La ok)) rfl) (st (QG (QX (QX rfl (Kp ok)) hbar) rfl) ?_)))
 rcases L7 (QW bs) 0 with hb | ⟨k,hb,hk⟩
 ·rw [hb]
  exact st (Q9 (Q1 rfl rfl rfl) rfl) (Ko ok ((LJ ok).mp hb) _ _)
 ·have hk60:k<10^60:=Nat.lt_of_lt_of_le (m:=2000000) (by omega) (by decide)
  have okp:ZE (bs.map Bo.plain):=⟨fun b hb=>by obtain ⟨c,hc,rfl⟩:=List.mem_map.mp hb;exact (LH (ok.1 c hc)).1,by rw [List.length_map];exact ok.2⟩
  have frp:∀ b∈bs.map Bo.plain,b.free:=fun b hb=>by obtain ⟨c,hc,rfl⟩:=List.mem_map.mp hb;exact (LH (ok.1 c hc)).2
  have hne:D.neO (.lst [.int k]) (.lst [.int k])=some (.bl false):=(Al.lst (n:=0) (ds:=[.int k]) (by simp) fun d hd=>by rw [List.mem_singleton.mp hd];exact .int 0 _).ne (by omega)
  rw [hb]
  refine st (QU (Q1 rfl rfl (show D.ge (.int (k:Int)) (.int 0)=some (.bl true) from ?_)) (st (Q9 (Zz (Q1 (QX rfl (QaE ok hb hk60)) (W6 rfl) hne) (Q1 rfl rfl (ab.ne (by omega)))) rfl) (st (QG (QX rfl (Ay ok)) rfl) (QG (QX rfl (La okp)) rfl)))) (Ko okp frp _ _)
  show some (D.bl (decide _))=_
  rw [decide_eq_true (by omega)]
end
section
open PySem PySem.Spec PyProof.Rows L2 Wd
def QZ (i:Nat):Stmt:=PySem.Challenge.pw_leastbook_k27_written_and_read.main.body.getD i (.Pass ⟨0,0,0,0⟩)
abbrev OV:Stmt:=QZ 10
abbrev SX:Stmt:=QZ 11
abbrev SW:Stmt:=QZ 13
abbrev OP:Stmt:=QZ 14
abbrev SU:Stmt:=QZ 15
abbrev Sb:Stmt:=QZ 16
abbrev OS:Stmt:=QZ 17
abbrev SV:Stmt:=QZ 18
abbrev OQ:Stmt:=QZ 19
abbrev OU:Stmt:=QZ 20
abbrev OT:Stmt:=QZ 21
abbrev OR:Stmt:=QZ 22
abbrev Od:Stmt:=QZ 23
abbrev Oa:Stmt:=QZ 24
abbrev Ob:Stmt:=QZ 25
abbrev Og:Stmt:=QZ 26
abbrev Oe:Stmt:=QZ 27
abbrev OZ:Stmt:=QZ 28
abbrev Of:Stmt:=QZ 29
abbrev Oc:Stmt:=QZ 30
abbrev Sa:Stmt:=QZ 31
abbrev OX:Stmt:=QZ 32
abbrev OW:Stmt:=QZ 33
abbrev OO:Stmt:=QZ 34
abbrev ON:Stmt:=QZ 35
abbrev SS:Stmt:=QZ 36
abbrev OY:Stmt:=QZ 37
abbrev OE:Stmt:=QZ 39
abbrev OA:Stmt:=QZ 40
abbrev OK:Stmt:=QZ 41
abbrev OI:Stmt:=QZ 42
abbrev OM:Stmt:=QZ 43
abbrev SQ:Stmt:=QZ 44
abbrev SK:Stmt:=QZ 45
abbrev SN:Stmt:=QZ 46
abbrev OC:Stmt:=QZ 47
abbrev SM:Stmt:=QZ 48
abbrev OD:Stmt:=QZ 49
abbrev OJ:Stmt:=QZ 50
abbrev SO:Stmt:=QZ 51
abbrev SR:Stmt:=QZ 52
abbrev OF:Stmt:=QZ 53
abbrev OB:Stmt:=QZ 54
abbrev OG:Stmt:=QZ 55
abbrev OH:Stmt:=QZ 56
abbrev SY:Stmt:=QZ 57
structure Txt (K:Fg) (mg:Str->Option Value):Prop where
 b_ValueError:mg "ValueError"=none
 b_all:mg "all"=none
 b_bool:mg "bool"=none
 b_enumerate:mg "enumerate"=none
 b_int:mg "int"=none
 b_isinstance:mg "isinstance"=none
 b_len:mg "len"=none
 b_list:mg "list"=none
 b_max:mg "max"=none
 b_ord:mg "ord"=none
 b_range:mg "range"=none
 b_str:mg "str"=none
 b_tuple:mg "tuple"=none
 y_Loose:mg "Loose"=some (.ref (Qz K 4))
 y_NoLabel:mg "NoLabel"=some (.ref (Qz K 5))
 y_NoRow:mg "NoRow"=some (.ref (Qz K 6))
 y_NoStyle:mg "NoStyle"=some (.ref (Qz K 0))
 y_TooHigh:mg "TooHigh"=some (.ref (Qz K 2))
 y_TooWide:mg "TooWide"=some (.ref (Qz K 1))
 y_Twice:mg "Twice"=some (.ref (Qz K 3))
 xt:XT K mg "BookError"
 xr:XR K
 z:True
section
variable {P:Program} {w:World} {K:Fg} {mg:Str->Option Value} {base:Heap}
abbrev Ua:Stmt:=(FG (QZ 8)).getD 0 (.Pass ⟨0,0,0,0⟩)
theorem BZ (h:∃ C CB f fd,XDf K mg "NoRow" "NoRow.__init__" 6 Ua C CB f fd):Uq P w K mg base 1 "NoRow" 6 :=
 XDf.mk' h ⟨rfl,rfl,rfl,by decide +kernel,rfl,by decide +kernel,by decide +kernel⟩ rfl fun C CB f fd z cdv A outer s H E=>⟨Qaf z.xb z.cl rfl z.mb (Qh (Qp (i:=0) rfl (Or.inl rfl)) (Qh (Ai (Qp (i:=1) rfl (Or.inl rfl)) (by decide) (by decide)) Qt)),Qag z.cl (Qp (i:=0) rfl (Or.inl rfl)) (Qp (i:=1) rfl (Or.inl rfl))⟩
abbrev WG:List Str:=["block"]
abbrev VS:List Str:=["block"]
abbrev VR:List Str:=["item"]
abbrev UH:List Str:=["block"]
abbrev Nv:List Str:=["block","kind","inner","label","keep"]
abbrev UG:List Str:=["block"]
abbrev RG:List Str:=["block","rows","item"]
abbrev WK:List Str:=["book"]
abbrev M5:List Str:=["book","rows","block","number","row"]
abbrev WC:List Str:=["sign"]
abbrev VQ:List Str:=["text"]
abbrev WA:List Str:=["text"]
abbrev WE:List Str:=["text"]
abbrev WD:List Str:=["text"]
abbrev WB:List Str:=["text"]
abbrev WJ:List Str:=["text"]
abbrev UI:List Str:=["row"]
abbrev Ny:List Str:=["row","parts"]
abbrev UJ:List Str:=["row"]
abbrev Nz:List Str:=["row","parts"]
abbrev UN:List Str:=["row"]
abbrev M4:List Str:=["row","parts"]
abbrev UL:List Str:=["row"]
abbrev M1:List Str:=["row","parts"]
abbrev WI:List Str:=["row"]
abbrev UM:List Str:=["row"]
abbrev M3:List Str:=["row","parts","texts"]
abbrev UK:List Str:=["row"]
abbrev M0:List Str:=["row","inner"]
abbrev VT:List Str:=["book"]
abbrev Pr:List Str:=["book"]
abbrev GD:List Str:=["book","items"]
abbrev WH:List Str:=["book"]
abbrev S7:List Str:=["texts","row"]
abbrev S5:List Str:=["book","item"]
abbrev S6:List Str:=["book","row"]
abbrev Nu:List Str:=["book","row","block"]
abbrev S8:List Str:=["rows"]
abbrev GF:List Str:=["rows","book","number","row"]
abbrev U5:List Str:=["_law_script","_law_turn","_law_many"]
abbrev Nl:List Str:=["_law_script","_law_turn","_law_many","_law_cells","_law_found","_law_k","_law_place","_law_number"]
abbrev Xz:List Str:=["_law_found","_law_due"]
abbrev RA:List Str:=["_law_found","_law_due","_law_k"]
abbrev UD:List Str:=["_law_draw","_law_many"]
abbrev Nr:List Str:=["_law_draw","_law_many","_law_some","_law_text_here","_law_k"]
abbrev UB:List Str:=["_law_draw"]
abbrev Nq:List Str:=["_law_draw","_law_ahead"]
abbrev UE:List Str:=["_law_draw"]
abbrev Nt:List Str:=["_law_draw","_law_title_here"]
abbrev U8:List Str:=["_law_k","_law_draw"]
abbrev RE:List Str:=["_law_k","_law_draw","_law_letters","_law_base","_law_at","_law_pair"]
abbrev U1:List Str:=["_law_kind_here","_law_label_here","_law_some"]
abbrev RB:List Str:=["_law_kind_here","_law_label_here","_law_some","_law_keep","_law_many","_law_low","_law_j"]
abbrev U6:List Str:=["_law_kind_here","_law_label_here","_law_some"]
abbrev RD:List Str:=["_law_kind_here","_law_label_here","_law_some","_law_many","_law_notes"]
abbrev U3:List Str:=["_law_told","_law_labels","_law_draw"]
abbrev Nj:List Str:=["_law_told","_law_labels","_law_draw","_law_items","_law_item_here"]
abbrev U2:List Str:=["_law_script"]
abbrev RC:List Str:=["_law_script","_law_many","_law_draws_here","_law_book_here","_law_labels","_law_k","_law_some","_law_kind_here","_law_label_here"]
abbrev U4:List Str:=["_law_book_here"]
abbrev Nk:List Str:=["_law_book_here","_law_found","_law_block_here","_law_row_here","_law_item_here"]
abbrev W9:List Str:=["_law_label_here"]
abbrev VP:List Str:=["_law_item_here"]
abbrev UC:List Str:=["_law_book_here"]
abbrev RF:List Str:=["_law_book_here","_law_rows_here","_law_block_here","_law_item_here"]
abbrev U7:List Str:=["_law_error"]
abbrev Nm:List Str:=["_law_error","_law_found"]
abbrev U0:List Str:=["_law_rows_here"]
abbrev Ni:List Str:=["_law_rows_here","_law_k"]
abbrev U9:List Str:=["_law_book_here"]
abbrev Nn:List Str:=["_law_book_here","_law_found","_law_block_here","_law_row_here","_law_item_here"]
abbrev UA:List Str:=["_law_book_here"]
abbrev Np:List Str:=["_law_book_here","_law_caught","e"]
abbrev IU:List Str:=["_law_script"]
abbrev Nx:List Str:=["_law_script","_law_book_here","_law_handed","_law_bar","_law_due","_law_given","_law_k","_law_rows_here","_law_told","_law_block_here"]
section
variable (P:Program) (w:World) (K:Fg) (mg:Str->Option Value) (base:Heap)
abbrev NS:=QM P w K mg base 1 "label_of" WG (spD K Wz)
abbrev NR:=QM P w K mg base 1 "items_of" VS (spD K Xm)
abbrev NQ:=QM P w K mg base 1 "item_rows" VR (spD K Xl)
abbrev NN:=QM P w K mg base 2 "first_row" UH (spD K P9)
abbrev Sz:=QM P w K mg base 3 "block_rows" UG (spD K Wx)
abbrev Nb:=QM P w K mg base 4 "written" WK (spO K VI)
abbrev NO:=QM P w K mg base 1 "is_sign" WC (spD K TX)
abbrev Up:=QM P w K mg base 1 "is_label" VQ (spD K Xk)
abbrev XO:=QM P w K mg base 2 "is_block_label" WA (spD K Wy)
abbrev NP:=QM P w K mg base 1 "is_word" WE (spD K TZ)
abbrev R3:=QM P w K mg base 1 "is_title" WD (spD K TY)
abbrev R0:=QM P w K mg base 1 "is_number" WB (spD K TV)
abbrev XQ:=QM P w K mg base 1 "read_label" WJ (spD K X0)
abbrev NU:=QM P w K mg base 3 "read_chapter" UI (spD K PD)
abbrev NV:=QM P w K mg base 3 "read_heading" UJ (spD K PF)
abbrev NZ:=QM P w K mg base 3 "read_table" UN (spD K PK)
abbrev NX:=QM P w K mg base 3 "read_plates" UL (spD K PH)
abbrev NT:=QM P w K mg base 4 "read_block" WI (spD K Zv)
abbrev NY:=QM P w K mg base 2 "read_ref" UM (spD K PJ)
abbrev NW:=QM P w K mg base 3 "read_item" UK (spD K Yv)
abbrev Na:=QM P w K mg base 1 "rows_of_last" VT (spD K PL)
abbrev R4:=QM P w K mg base 2 "lacks_row" WH (spD K W2)
abbrev NC:=QM P w K mg base 1 "_law_draws" U5 (spD K TQ)
abbrev N5:=QM P w K mg base 8 "_law_alike" Xz (spD K YZ)
abbrev XN:=QM P w K mg base 1 "_law_text" UD (spD K ZS)
abbrev Sy:=QM P w K mg base 2 "_law_row" UB (spD K Yt)
abbrev NM:=QM P w K mg base 2 "_law_title" UE (spD K TU)
abbrev NH:=QM P w K mg base 1 "_law_label" U8 (spD K Wv)
abbrev N7:=QM P w K mg base 3 "_law_block" U1 (spD K W0)
abbrev ND:=QM P w K mg base 3 "_law_item" U6 (spD K Xi)
abbrev N9:=QM P w K mg base 2 "_law_closed" U3 (spD K Xh)
abbrev N8:=QM P w K mg base 4 "_law_book" U2 (spD K P5)
abbrev NA:=QM P w K mg base 1 "_law_copy" U4 (spD K TN)
abbrev NL:=QM P w K mg base 1 "_law_tag" W9 (spD K Ww)
abbrev NF:=QM P w K mg base 1 "_law_item_rows" VP (spD K TR)
abbrev NK:=QM P w K mg base 2 "_law_rows" UC (spD K Xj)
abbrev NG:=QM P w K mg base 1 "_law_kind" U7 (spD K P6)
abbrev N6:=QM P w K mg base 1 "_law_barred" U0 (spD K TM)
abbrev NI:=QM P w K mg base 1 "_law_plain" U9 (spD K P7)
abbrev NJ:=QM P w K mg base 5 "_law_refused" UA (spD K P8)
end
section
variable (P:Program) (w:World) (K:Fg) (mg:Str->Option Value) (base:Heap)
abbrev Nf:=R5 P w K mg base 4 "written" WK (Sf K W3)
abbrev Nc:=QM P w K mg base 5 "add_row" S6 (spB K JZ)
abbrev Nd:=QM P w K mg base 6 "read" S8 (spF K Yu)
end
theorem Qbe:FnScope WG WG (Q7 OV):=by constructor<;>first | rfl | decide +kernel
theorem Bq (h:Df K mg "label_of" OV WG) (T:Txt K mg):NS P w K mg base :=
 Qr WG WG Mn 0 h Qbe (fun nd=>fun hr=>(So (QI (Wm (dE hr (dx 0) (dr Q5)) Q5 (Qs (dv 0) (dr (Yp dq)))))))
theorem Oi:FnScope VS VS (Q7 SX):=by constructor<;>first | rfl | decide +kernel
theorem Bn (h:Df K mg "items_of" SX VS) (T:Txt K mg):NR P w K mg base :=
 Qr VS VS Mm 0 h Oi (fun nd=>fun hr=>(So (QI (Wm (dE hr (dx 0) (dr Q5)) (dy 0) (Jg Dz Jr)))))
theorem Bp (h:Df K mg "items_of" SX VS) (T:Txt K mg):QM P w K mg base 1 "items_of" ["block"] (spIo K) :=
 have nd:=(Oi).nd
 B7 (k:=0) h Oi (fun f cdv A outer s H E hr=>(by refine Jw (ZA (UP ?_ (Zk Zf (Qp (i:=0) rfl (by first | exact Or.inl rfl | exact Or.inr (Or.inl rfl) | exact Or.inr (Or.inr rfl))) V6 (fun _ _=>rfl)) (WM Qt)));exact (dE hr (dx 0) (dr Q5))))
theorem Qbd:FnScope VR VR (Q7 SW):=by constructor<;>first | rfl | decide +kernel
theorem Bm (h:Df K mg "item_rows" SW VR) (T:Txt K mg):NQ P w K mg base :=
 Qr VR VR Ml 0 h Qbd (fun nd=>fun hr=>(by refine Ss (O1:=[]) ?_ ?_;refine QN ?_ ?_ ?_;exact (dE hr (dx 0) (dr Q5));refine So ?_;refine QI ?_;refine Q6 QO ?_ ?_;exact (dr (Jg (Db (Q6 QO (dr Q5) (dx 0)) Dz) V1));refine dr ?_;refine Zs ?_;refine Ym rfl rfl (YR (show Zq (Q7 SW) VR _ 1 ["note"] []=true by decide +kernel)) (by decide) ?_ ?_ ?_ ?_;exact (YV (ZI (dy 0)));exact fun _ _ _ _ _ _=>J0 0 (show List.Nodup (["note"]:List Str) by decide +kernel);exact fun _ _ _ _ _ _=>YU;exact fun _ _ _ _ _ _=>(Q6 QO (dr Q5) (dv 0));exact Sn;refine Ss (O1:=[]) ?_ ?_;exact (QN (dE hr (dx 0) (dr Q5)) (So (QI (Jg (Db (Q6 QO (dr (Q6 QO (dr (Q6 QO (dr (Q6 QO (dr (Q6 QO (dr Q5) (dx 0))) (dr Q5))) (dx 0))) (dr Q5))) (dx 0)) Dz) V1))) Sn);exact (So (QI (Jg (Db (Q6 QO (dr (Q6 QO (dx 0) (dr Q5))) (dx 0)) Dz) V1)))))
theorem Qa6:FnScope Nv UH (Q7 OP):=by constructor<;>first | rfl | decide +kernel
theorem Be (h:Df K mg "first_row" OP UH) (T:Txt K mg) (c_label_of:NS P w K mg base):NN P w K mg base :=
 Qr Nv UH Me 1 h Qa6 (fun nd=>fun hr=>(by refine Ss (O1:=[]) ?_ ?_;exact (Qb 1 nd (dy 0));refine Ss (O1:=[]) ?_ ?_;exact (Qb 2 nd (dy 0));refine Ss (O1:=[]) ?_ ?_;exact (Qb 3 nd (Wm (dE hr (dr (dc c_label_of hr (dn 0 Dz))) (dr Q5)) Q5 (dc c_label_of hr (dn 0 Dz))));refine Ss (O1:=[]) ?_ ?_;exact (QN (dE hr (dv 1) (dr Q5)) (So (QI (T8 (by decide) (PFs.lit (by decide) (PFs.val (Ql 3) (PFs.lit (by decide) (PFs.val (Ql 2) PFs.nil))))))) Sn);refine Ss (O1:=[]) ?_ ?_;exact (QN (dE hr (dv 1) (dr Q5)) (Ss (O1:=[]) (Qb 4 nd (dy 0)) (So (QI (T8 (by decide) (PFs.lit (by decide) (PFs.val (Ql 4) (PFs.lit (by decide) (PFs.val (Ql 3) (PFs.lit (by decide) (PFs.val (Ql 2) PFs.nil)))))))))) Sn);exact (Ss (O1:=[]) (QN (dE hr (dv 1) (dr Q5)) (So (QI (T8 (by decide) (PFs.lit (by decide) (PFs.val (Ql 2) (PFs.lit (by decide) (PFs.val (Ql 3) PFs.nil))))))) Sn) (So (QI (Wm (dE hr (dv 1) (dr Q5)) (T8 (by decide) (PFs.lit (by decide) (PFs.val (Ql 3) PFs.nil))) Q5))))))
theorem Qa5:FnScope RG UG (Q7 SU):=by constructor<;>first | rfl | decide +kernel
theorem Bd (h:Df K mg "block_rows" SU UG) (T:Txt K mg) (c_first_row:NN P w K mg base) (c_item_rows:NQ P w K mg base) (c_items_of:NR P w K mg base):Sz P w K mg base :=
 Qr RG UG Md 2 h Qa5 (fun nd=>fun hr=>(by refine Ss (O1:=[1]) ?_ ?_;exact (ZJ 1 nd (Zb (Dl (dc c_first_row hr (dn 0 Dz)) Dz) V1));refine Ss (O1:=[1]) ?_ ?_;refine QN ?_ ?_ ?_;exact (dE hr (dx 0) (dr Q5));refine So ?_;refine TH 1 (by decide) ?_;refine dr ?_;refine Zs ?_;refine Ym rfl rfl (YR (show Zq (Q7 SU) RG _ 1 ["row"] []=true by decide +kernel)) (by decide) ?_ ?_ ?_ ?_;exact (YV (ZI (dy 0)));exact fun _ _ _ _ _ _=>J0 0 (show List.Nodup (["row"]:List Str) by decide +kernel);exact fun _ _ _ _ _ _=>YU;exact fun _ _ _ _ _ _=>(Q6 QO (dr Q5) (dv 0));exact Sn;exact (Ss (O1:=[1]) (Js rfl PassesOwn.never (ZI (dc c_items_of hr (dn 0 Dz))) (J0 2 nd) (So (TH 1 (by decide) (dr (dc c_item_rows hr (dn 2 Dz)))))) (Y8 1 (So (QI (Ql 1)))))))
theorem Sd:FnScope M5 WK (Q7 Sb):=by constructor<;>first | rfl | decide +kernel
theorem A5 (h:Df K mg "written" Sb WK) (T:Txt K mg) (c_NoRow:Uq P w K mg base 1 "NoRow" 6) (c_block_rows:Sz P w K mg base):Nf P w K mg base :=
 have nd:=(Sd).nd
 B4 (b:=RX) (k:=3) (N:=M5) (ps:=WK) (O':=[]) (OL:=[]) h Sd (fun f cdv A outer s H E hr=>(by refine Ss (O1:=[1]) ?_ ?_;exact (ZJ 1 nd (Zb Dz Jr));refine Ss (O1:=[1]) ?_ ?_;exact (Js rfl PassesOwn.leaving (ZI (Ql 0)) (J0 2 nd) (So (TH 1 (by decide) (dr (dc c_block_rows hr (dn 2 Dz))))));refine Y8 1 ?_;refine Ss (O1:=[]) ?_ ?_;exact (Js rfl PassesOwn.leaving (Ro rfl T.b_enumerate (Ql 1)) (Rm rfl (Wq (O1:=[]) (J0 3 nd) (Wq (O1:=[]) (J0 4 nd) Rn)) rfl) (So (QN (PW.pt (JS (Qg (dr (JU Zh PySem.F.slot_str_startswith PySem.F.type_str_startswith (dv 4) (dr Q5)))) (JO (Z1 YE (dr (JU Tu PySem.F.slot_str_count PySem.F.type_str_count (dv 4) (dr Q5))) dq (J5 _))))) (So (Ej c_NoRow (hr.mono (by decide)) rfl (Ql 3))) Sn)));exact (So (QI (Ql 1)))))
theorem A6 (h:Df K mg "written" Sb WK) (T:Txt K mg) (c_block_rows:Sz P w K mg base):Nb P w K mg base :=
 have nd:=(Sd).nd
 B3 (b:=L4) (k:=3) (N:=["book","rows","block","number","row"]) (ps:=["book"]) (O':=[]) (OL:=[]) h Sd (fun f cdv A outer s H E hr=>(by refine Ss (O1:=[1]) ?_ ?_;exact (ZJ 1 nd (Zb Dz Jr));refine Ss (O1:=[1]) ?_ ?_;exact (Js rfl PassesOwn.never (ZI (Ql 0)) (J0 2 nd) (So (TH 1 (by decide) (dr (dc c_block_rows hr (dn 2 Dz))))));refine Ss (O1:=[1]) ?_ ?_;refine Ei (OL':=[]) (w':=false) ?_;exact (Js rfl PassesOwn.never (Ro rfl T.b_enumerate (Ql 1)) (Rm rfl (Wq (O1:=[1001]) (J0 3 nd) (Wq (O1:=[1001]) (J0 4 nd) Rn)) rfl) (So (QN (PW.pt (JS (Qg (dr (JU Zh PySem.F.slot_str_startswith PySem.F.type_str_startswith (dv 4) (dr Q5)))) (JO (Z1 YE (dr (JU Tu PySem.F.slot_str_count PySem.F.type_str_count (dv 4) (dr Q5))) dq (J5 _))))) (So Wd.ds_none) Sn)));exact (So (Ek 1 (by decide))))) (fun ds=>(O9 (O9 (O9 (QaN)))) _)
theorem Qba:FnScope WC WC (Q7 OS):=by constructor<;>first | rfl | decide +kernel
theorem Bi (h:Df K mg "is_sign" OS WC) (T:Txt K mg):NO P w K mg base :=
 Qr WC WC Mi 0 h Qba (fun nd=>fun hr=>(So (QI (Yn (dr (Ll S4 S4 (dr Q5) (dv 0) (dr Q5))) (YS (ZQ (XD hr.units) (dr (JN Gz rfl T.b_ord boot_ord (dv 0))) dq (J5 _)))))))
theorem Qa8:FnScope VQ VQ (Q7 SV):=by constructor<;>first | rfl | decide +kernel
theorem Bg (h:Df K mg "is_label" SV VQ) (T:Txt K mg):Up P w K mg base :=
 Qr VQ VQ Mg 0 h Qa8 (fun nd=>fun hr=>(by refine So ?_;refine QI ?_;refine Yn ?_ ?_;exact (dr (ZQ (XD hr.units) (dv 0) (dr Q5) (J5 _)));refine YS ?_;refine JN (LL rfl) rfl T.b_all boot_all ?_;refine dr ?_;refine Zs ?_;refine Ym rfl rfl (YR (show Zq (Q7 SV) VQ _ 1 ["sign"] []=true by decide +kernel)) (by decide) ?_ ?_ ?_ ?_;exact (YV (Lv (Ql 0)));exact fun _ _ _ _ _ _=>J0 0 (show List.Nodup (["sign"]:List Str) by decide +kernel);exact fun _ _ _ _ _ _=>YU;exact fun _ _ _ _ _ _=>(Ll S4 S4 (dr Q5) (dv 0) (dr Q5))))
theorem Qa7:FnScope WA WA (Q7 OQ):=by constructor<;>first | rfl | decide +kernel
theorem Bf (h:Df K mg "is_block_label" OQ WA) (T:Txt K mg) (c_is_label:Up P w K mg base):XO P w K mg base :=
 Qr WA WA Mf 1 h Qa7 (fun nd=>fun hr=>(So (QI (Ln (dr (ZQ (Yd hr.units) (dv 0) (dr Q5) (J5 _))) (YS (dc c_is_label hr (dn 0 Dz)))))))
theorem Qbc:FnScope WE WE (Q7 OU):=by constructor<;>first | rfl | decide +kernel
theorem Bl (h:Df K mg "is_word" OU WE) (T:Txt K mg):NP P w K mg base :=
 Qr WE WE Mk 0 h Qbc (fun nd=>fun hr=>(So (QI (Yn (dr (ZQ (XD hr.units) (dv 0) (dr Q5) (J5 _))) (YS (ZQ AR (dr Q5) (dv 0) (by with_unfolding_all rfl)))))))
theorem Qbb:FnScope WD WD (Q7 OT):=by constructor<;>first | rfl | decide +kernel
theorem Bj (h:Df K mg "is_title" OT WD) (T:Txt K mg):R3 P w K mg base :=
 Qr WD WD Mj 0 h Qbb (fun nd=>fun hr=>(So (QI (Yn (dr (ZQ (XD hr.units) (dv 0) (dr Q5) (J5 _))) (YS (ZQ (Yd hr.units) (dv 0) (dr (JU Cm PySem.F.slot_str_strip PySem.F.type_str_strip (dv 0) (dr Q5))) (J5 _)))))))
theorem Qa9:FnScope WB WB (Q7 OR):=by constructor<;>first | rfl | decide +kernel
theorem Bh (h:Df K mg "is_number" OR WB) (T:Txt K mg):R0 P w K mg base :=
 Qr WB WB Mh 0 h Qa9 (fun nd=>fun hr=>(So (QI (Ln (dr (ZQ (Yd hr.units) (dv 0) (dr Q5) (J5 _))) (YS (Yn (dr (EZ Cj PySem.F.slot_str_isdigit PySem.F.type_str_isdigit (dv 0))) (YS (ZQ (XD hr.units) (dx 0) (dr Q5) (J5 _)))))))))
theorem Qbk:FnScope WJ WJ (Q7 Od):=by constructor<;>first | rfl | decide +kernel
theorem Bz (h:Df K mg "read_label" Od WJ) (T:Txt K mg):XQ P w K mg base :=
 Qr WJ WJ Mu 0 h Qbk (fun nd=>fun hr=>(So (QI (Wm (dE hr (dv 0) (dr Q5)) Q5 (Ql 0)))))
theorem Qbh:FnScope Ny UI (Q7 Oa):=by constructor<;>first | rfl | decide +kernel
theorem Bw (h:Df K mg "read_chapter" Oa UI) (T:Txt K mg) (c_is_block_label:XO P w K mg base) (c_is_title:R3 P w K mg base) (c_read_label:XQ P w K mg base):NU P w K mg base :=
 Qr Ny UI Mr 2 h Qbh (fun nd=>fun hr=>(by refine Ss (O1:=[]) ?_ ?_;exact (Qb 1 nd (Lp (n:=2) IA PySem.F.slot_str_split PySem.F.type_str_split (dv 0) (dr Q5) Z8));refine Ss (O1:=[]) ?_ ?_;exact (QN (PW.pt (JS (dE hr (dr (JN JY rfl T.b_len boot_len (dv 1))) dq) (JS (Qg (dr (dc c_is_block_label hr (Du (dy 1) Dz)))) (JO (Qg (dr (dc c_is_title hr (Du (dy 1) Dz)))))))) (So (QI (JF (Dk Q5 (Du (dy 1) (Dl (dc c_read_label hr (Du (dy 1) Dz)) Dz))) Zg))) Sn);exact (So (QI Yq))))
theorem Qbi:FnScope Nz UJ (Q7 Ob):=by constructor<;>first | rfl | decide +kernel
theorem Bx (h:Df K mg "read_heading" Ob UJ) (T:Txt K mg) (c_is_block_label:XO P w K mg base) (c_is_number:R0 P w K mg base) (c_is_title:R3 P w K mg base) (c_read_label:XQ P w K mg base):NV P w K mg base :=
 Qr Nz UJ Ms 2 h Qbi (fun nd=>fun hr=>(by refine Ss (O1:=[]) ?_ ?_;exact (Qb 1 nd (Lp (n:=3) IA PySem.F.slot_str_split PySem.F.type_str_split (dv 0) (dr Q5) Z8));refine Ss (O1:=[]) ?_ ?_;refine QN ?_ ?_ ?_;refine PW.pt ?_;exact (JS (dE hr (dr (JN JY rfl T.b_len boot_len (dv 1))) dq) (JS (Qg (dr (dc c_is_number hr (Du (dy 1) Dz)))) (JS (Qg (dr (dc c_is_block_label hr (Du (dy 1) Dz)))) (JO (Qg (dr (dc c_is_title hr (Du (dy 1) Dz))))))));exact (So (QI (JF (Dk Q5 (Du (dy 1) (Dl (T9 LN rfl T.b_int boot_int (dx 1)) (Dl (dc c_read_label hr (Du (dy 1) Dz)) Dz)))) Yc)));exact Sn;exact (So (QI Yq))))
theorem Qbn:FnScope M4 UN (Q7 Og):=by constructor<;>first | rfl | decide +kernel
theorem A2 (h:Df K mg "read_table" Og UN) (T:Txt K mg) (c_is_block_label:XO P w K mg base) (c_read_label:XQ P w K mg base):NZ P w K mg base :=
 Qr M4 UN Mx 2 h Qbn (fun nd=>fun hr=>(by refine Ss (O1:=[]) ?_ ?_;exact (Qb 1 nd (JU Tv PySem.F.slot_str_split PySem.F.type_str_split (dv 0) (dr Q5)));refine Ss (O1:=[]) ?_ ?_;refine QN ?_ ?_ ?_;exact (PW.pt (JS (dE hr (dr (JN JY rfl T.b_len boot_len (dv 1))) dq) (JO (Qg (dr (dc c_is_block_label hr (Du (dy 1) Dz)))))));refine So ?_;refine QI ?_;refine JF ?_ ?_;refine Dk ?_ ?_;exact Q5;refine Xe ?_ ?_;exact (Jg Dz Jr);exact (Dl (dc c_read_label hr (Du (dy 1) Dz)) Dz);exact Zg;exact Sn;exact (So (QI Yq))))
theorem Qbl:FnScope M1 UL (Q7 Oe):=by constructor<;>first | rfl | decide +kernel
theorem A0 (h:Df K mg "read_plates" Oe UL) (T:Txt K mg) (c_is_block_label:XO P w K mg base) (c_is_number:R0 P w K mg base) (c_read_label:XQ P w K mg base):NX P w K mg base :=
 Qr M1 UL Mv 2 h Qbl (fun nd=>fun hr=>(by refine Ss (O1:=[]) ?_ ?_;exact (Qb 1 nd (JU Tv PySem.F.slot_str_split PySem.F.type_str_split (dv 0) (dr Q5)));refine Ss (O1:=[]) ?_ ?_;refine QN ?_ ?_ ?_;refine PW.pt ?_;exact (JS (dE hr (dr (JN JY rfl T.b_len boot_len (dv 1))) dq) (JS (Qg (dr (dc c_is_number hr (Du (dy 1) Dz)))) (JS (dF hr (dx 1) (dr Q5)) (JO (Qg (dr (dc c_is_block_label hr (Du (dy 1) Dz))))))));exact (So (QI (JF (Dk Q5 (Dl (T9 LN rfl T.b_int boot_int (dx 1)) (Dl (dc c_read_label hr (Du (dy 1) Dz)) Dz))) Zg)));exact Sn;exact (So (QI Yq))))
theorem Qbg:FnScope WI WI (Q7 OZ):=by constructor<;>first | rfl | decide +kernel
theorem Bv (h:Df K mg "read_block" OZ WI) (T:Txt K mg) (c_read_chapter:NU P w K mg base) (c_read_heading:NV P w K mg base) (c_read_plates:NX P w K mg base) (c_read_table:NZ P w K mg base):NT P w K mg base :=
 Qr WI WI Mq 3 h Qbg (fun nd=>fun hr=>(by refine Ss (O1:=[]) ?_ ?_;refine QN ?_ ?_ ?_;exact (dE hr (dv 0) (dr Q5));refine So ?_;refine QI ?_;refine JF ?_ ?_;refine Dk ?_ ?_;exact Q5;refine Xe ?_ ?_;exact (Jg Dz Jr);exact Dz;exact V2;exact Sn;refine Ss (O1:=[]) ?_ ?_;exact (QN (Qg (dr (JU Zh PySem.F.slot_str_startswith PySem.F.type_str_startswith (dv 0) (dr Q5)))) (So (QI (dc c_read_chapter hr (dn 0 Dz)))) Sn);refine Ss (O1:=[]) ?_ ?_;exact (QN (Qg (dr (JU Zh PySem.F.slot_str_startswith PySem.F.type_str_startswith (dv 0) (dr Q5)))) (So (QI (dc c_read_heading hr (dn 0 Dz)))) Sn);exact (Ss (O1:=[]) (QN (Qg (dr (JU Zh PySem.F.slot_str_startswith PySem.F.type_str_startswith (dv 0) (dr Q5)))) (So (QI (dc c_read_table hr (dn 0 Dz)))) Sn) (Ss (O1:=[]) (QN (Qg (dr (JU Zh PySem.F.slot_str_startswith PySem.F.type_str_startswith (dv 0) (dr Q5)))) (So (QI (dc c_read_plates hr (dn 0 Dz)))) Sn) (So (QI Yq))))))
theorem Qbm:FnScope M3 UM (Q7 Of):=by constructor<;>first | rfl | decide +kernel
theorem A1 (h:Df K mg "read_ref" Of UM) (T:Txt K mg) (c_is_label:Up P w K mg base):NY P w K mg base :=
 Qr M3 UM Mw 1 h Qbm (fun nd=>fun hr=>(by refine Ss (O1:=[]) ?_ ?_;exact (Qb 1 nd (JU Tv PySem.F.slot_str_split PySem.F.type_str_split (dv 0) (dr Q5)));refine Ss (O1:=[]) ?_ ?_;refine QN ?_ ?_ ?_;refine PW.pt ?_;exact (JS (dE hr (dr (JN JY rfl T.b_len boot_len (dv 1))) dq) (JS (Qg (dr (dc c_is_label hr (Du (dy 1) Dz)))) (JO (dE hr (dr (JU Tu PySem.F.slot_str_count PySem.F.type_str_count (dx 1) (dr Q5))) dq))));exact (Ss (O1:=[]) (Qb 2 nd (JU Tv PySem.F.slot_str_split PySem.F.type_str_split (dx 1) (dr Q5))) (So (QI (JF (Dk Q5 (Du (dy 1) (Du (dy 2) (Du (dy 2) Dz)))) Yc))));exact Sn;exact (So (QI Yq))))
theorem Qbj:FnScope M0 UK (Q7 Oc):=by constructor<;>first | rfl | decide +kernel
theorem By (h:Df K mg "read_item" Oc UK) (T:Txt K mg) (c_is_label:Up P w K mg base) (c_is_word:NP P w K mg base) (c_read_ref:NY P w K mg base):NW P w K mg base :=
 Qr M0 UK Mt 2 h Qbj (fun nd=>fun hr=>(by refine Ss (O1:=[]) ?_ ?_;exact (Qb 1 nd (Qs (dr (JU I0 PySem.F.slot_str_partition PySem.F.type_str_partition (dv 0) (dr Q5))) dq));refine Ss (O1:=[]) ?_ ?_;exact (QN (Qg (dr (JU Zh PySem.F.slot_str_startswith PySem.F.type_str_startswith (dv 0) (dr Q5)))) (So (QI (dc c_read_ref hr (dn 0 Dz)))) Sn);refine Ss (O1:=[]) ?_ ?_;refine QN ?_ ?_ ?_;exact (PW.pt (JS (Qg (dr (JU Zh PySem.F.slot_str_startswith PySem.F.type_str_startswith (dv 0) (dr Q5)))) (JO (Qg (dr (dc c_is_word hr (dn 1 Dz)))))));refine So ?_;refine QI ?_;refine JF ?_ ?_;refine Dk ?_ ?_;exact Q5;refine Lj ?_ ?_;exact Ql 1;refine Xe ?_ ?_;exact (Jg Dz Jr);exact Dz;exact Zg;exact Sn;exact (Ss (O1:=[]) (QN (PW.pt (JS (Qg (dr (JU Zh PySem.F.slot_str_startswith PySem.F.type_str_startswith (dv 0) (dr Q5)))) (JO (Qg (dr (dc c_is_word hr (dn 1 Dz))))))) (So (QI (JF (Dk Q5 (dn 1 Dz)) V2))) Sn) (Ss (O1:=[]) (QN (PW.pt (JS (Qg (dr (JU Zh PySem.F.slot_str_startswith PySem.F.type_str_startswith (dv 0) (dr Q5)))) (JO (Qg (dr (dc c_is_label hr (dn 1 Dz))))))) (So (QI (JF (Dk Q5 (dn 1 Dz)) V2))) Sn) (So (QI Yq))))))
theorem Oj:FnScope VT VT (Q7 Sa):=by constructor<;>first | rfl | decide +kernel
theorem A3 (h:Df K mg "rows_of_last" Sa VT) (T:Txt K mg):Na P w K mg base :=
 Qr VT VT Mz 0 h Oj (fun nd=>fun hr=>(So (QI (Wm (PW.pt (JS (Z1 YE (dr (JN JY rfl T.b_len boot_len (dv 0))) dq (J5 _)) (JO (dE hr (dr (Qs (dr (Qs (dv 0) (dr (Yp dq)))) dq)) (dr Q5))))) (Qs (dr (Qs (dv 0) (dr (Yp dq)))) dq) Yq))))
theorem A4 (h:Df K mg "rows_of_last" Sa VT) (T:Txt K mg):QM P w K mg base 1 "rows_of_last" ["book"] (spAl K Vd Ul) :=
 have nd:=(Oj).nd
 BB (k:=0) h Oj (fun f cdv A outer s H E hr=>(by refine Jw (ZA (UP ?_ (Zk Zf (Zk Zf (Qp (i:=0) rfl (by first | exact Or.inl rfl | exact Or.inr (Or.inl rfl) | exact Or.inr (Or.inr rfl))) UQ (fun _ _=>rfl)) V6 (fun _ _=>rfl)) UR));exact (PW.pt (JS (Z1 YE (dr (JN JY rfl T.b_len boot_len (dv 0))) dq (J5 _)) (JO (dE hr (dr (Qs (dr (Qs (dv 0) (dr (Yp dq)))) dq)) (dr Q5)))))))
theorem HU:FnScope GD Pr (Q7 OX):=by constructor<;>first | rfl | decide +kernel
theorem Bt (h:Df K mg "notes_of_last" OX Pr) (T:Txt K mg) (c_items_ofA:QM P w K mg base 1 "items_of" ["block"] (spIo K)):QM P w K mg base 2 "notes_of_last" ["book"] (spAl K Zm Uk) :=
 have nd:=(HU).nd
 BA (k:=1) h HU (fun f cdv A outer s H E hr=>(by refine Jj (VY nd rfl (by first | exact Or.inl rfl | exact Or.inr rfl) (UP ?_ (YF c_items_ofA (hr.mono (by decide)) rfl (Qh (Zk Zf (Qp (i:=0) rfl (by first | exact Or.inl rfl | exact Or.inr (Or.inl rfl) | exact Or.inr (Or.inr rfl))) UQ (fun _ _=>rfl)) Qt)) (WM Qt))) (Jw (ZA (UP ?_ (Zk Zf (Zk Zf (Qp (i:=1) rfl (by first | exact Or.inl rfl | exact Or.inr (Or.inl rfl) | exact Or.inr (Or.inr rfl))) UQ (fun _ _=>rfl)) V6 (fun _ _=>rfl)) UR)));exact (Z1 YE (dr (JN JY rfl T.b_len boot_len (dv 0))) dq (J5 _));exact (PW.pt (JS (Z1 YE (dr (JN JY rfl T.b_len boot_len (dv 1))) dq (J5 _)) (JO (dE hr (dr (Qs (dr (Qs (dv 1) (dr (Yp dq)))) dq)) (dr Q5)))))))
theorem Qbf:FnScope WH WH (Q7 OW):=by constructor<;>first | rfl | decide +kernel
theorem Br (h:Df K mg "lacks_row" OW WH) (T:Txt K mg) (c_rows_of_last:Na P w K mg base):R4 P w K mg base :=
 Qr WH WH Mo 1 h Qbf (fun nd=>fun hr=>(So (QI (ZQ (AB hr.units) (dr (dc c_rows_of_last hr (dn 0 Dz))) (dr (Jg Dz Jr)) (J5 _)))))
theorem HS:FnScope S7 S7 (Q7 OO):=by constructor<;>first | rfl | decide +kernel
theorem Bc (h:Df K mg "add_text" OO S7) (T:Txt K mg):QM P w K mg base 1 "add_text" ["texts","row"] (spT) :=
 have nd:=(HS).nd
 BC (k:=0) h HS (fun f cdv A outer s H E hr=>(by refine Jj (Ye (Iq (Ib (Qp (i:=0) rfl (by first | exact Or.inl rfl | exact Or.inr (Or.inl rfl) | exact Or.inr (Or.inr rfl))))) (Jw (ZA VW)) Yg) (Jj (Y0 (ZN PySem.F.plainAttrs_list PySem.F.slot_list_append PySem.F.type_list_append Zy (Qp (i:=0) rfl (by first | exact Or.inl rfl | exact Or.inr (Or.inl rfl) | exact Or.inr (Or.inr rfl))) (Qh ?_ Qt))) (Jw (ZA VW)));exact (Qs (dr (JU I0 PySem.F.slot_str_partition PySem.F.type_str_partition (dv 1) (dr Q5))) dq)))
theorem HQ:FnScope S5 S5 (Q7 ON):=by constructor<;>first | rfl | decide +kernel
theorem Ba (h:Df K mg "add_item" ON S5) (T:Txt K mg):QM P w K mg base 1 "add_item" ["book","item"] (spIt K) :=
 have nd:=(HQ).nd
 B8 (k:=0) h HQ (fun f cdv A outer s H E hr=>(by refine Jj (Ye ?_ (Jw (ZA VW)) Yg) (Jj (Y0 (ZN PySem.F.plainAttrs_list PySem.F.slot_list_append PySem.F.type_list_append Zy (Zk Zf (Zk Zf (Qp (i:=0) rfl (by first | exact Or.inl rfl | exact Or.inr (Or.inl rfl) | exact Or.inr (Or.inr rfl))) UQ (fun _ _=>rfl)) V6 (fun _ _=>rfl)) (Qh (Qp (i:=1) rfl (by first | exact Or.inl rfl | exact Or.inr (Or.inl rfl) | exact Or.inr (Or.inr rfl))) Qt))) (Jw (ZA VW)));exact (PW.pt (Zc (Es (dv 1)) (Zc (dE hr (dr (JN JY rfl T.b_len boot_len (dv 0))) dq) (JO (dF hr (dr (Qs (dr (Qs (dv 0) (dr (Yp dq)))) dq)) (dr Q5))))))))
theorem HR:FnScope Nu S6 (Q7 SS):=by constructor<;>first | rfl | decide +kernel
theorem Bb (h:Df K mg "add_row" SS S6) (T:Txt K mg) (c_add_item:QM P w K mg base 1 "add_item" ["book","item"] (spIt K)) (c_add_text:QM P w K mg base 1 "add_text" ["texts","row"] (spT)) (c_is_sign:NO P w K mg base) (c_lacks_row:R4 P w K mg base) (c_notes_of_last:QM P w K mg base 2 "notes_of_last" ["book"] (spAl K Zm Uk)) (c_read_block:NT P w K mg base) (c_read_item:NW P w K mg base) (c_rows_of_lastA:QM P w K mg base 1 "rows_of_last" ["book"] (spAl K Vd Ul)):Nc P w K mg base :=
 have nd:=(HR).nd
 Po (b:=Mc) (k:=4) h HR (fun f cdv A outer s H E hr=>(by refine SE ?_ (HH (ZA VW)) (SE ?_ (HI (DL _) (ZA (YF c_add_text (hr.mono (by decide)) rfl (Qh (YF c_rows_of_lastA (hr.mono (by decide)) rfl (Qh (Qp (i:=0) rfl (by first | exact Or.inl rfl | exact Or.inr (Or.inl rfl) | exact Or.inr (Or.inr rfl))) Qt)) (Qh (Qp (i:=1) rfl (by first | exact Or.inl rfl | exact Or.inr (Or.inl rfl) | exact Or.inr (Or.inr rfl))) Qt))))) (SE ?_ (HH (ZA VW)) (SE ?_ (HI (DK _) (ZA (YF c_add_text (hr.mono (by decide)) rfl (Qh (YF c_notes_of_last (hr.mono (by decide)) rfl (Qh (Qp (i:=0) rfl (by first | exact Or.inl rfl | exact Or.inr (Or.inl rfl) | exact Or.inr (Or.inr rfl))) Qt)) (Qh (Qp (i:=1) rfl (by first | exact Or.inl rfl | exact Or.inr (Or.inl rfl) | exact Or.inr (Or.inr rfl))) Qt))))) (Qau (Jj (VY nd rfl (by first | exact Or.inl rfl | exact Or.inr rfl) (YF c_read_block (hr.mono (by decide)) rfl (Qh (Qp (i:=1) rfl (by first | exact Or.inl rfl | exact Or.inr (Or.inl rfl) | exact Or.inr (Or.inr rfl))) Qt))) (Jj (Ye (Iq (Ib (Qp (i:=2) rfl (by first | exact Or.inl rfl | exact Or.inr (Or.inl rfl) | exact Or.inr (Or.inr rfl))))) (Jw (ZA (YF c_add_item (hr.mono (by decide)) rfl (Qh (Qp (i:=0) rfl (by first | exact Or.inl rfl | exact Or.inr (Or.inl rfl) | exact Or.inr (Or.inr rfl))) (Qh (YF c_read_item (hr.mono (by decide)) rfl (Qh (Qp (i:=1) rfl (by first | exact Or.inl rfl | exact Or.inr (Or.inl rfl) | exact Or.inr (Or.inr rfl))) Qt)) Qt))))) Yg) (Jj (Y0 (ZN PySem.F.plainAttrs_list PySem.F.slot_list_append PySem.F.type_list_append Zy (Qp (i:=0) rfl (by first | exact Or.inl rfl | exact Or.inr (Or.inl rfl) | exact Or.inr (Or.inr rfl))) (Qh (Qp (i:=2) rfl (by first | exact Or.inl rfl | exact Or.inr (Or.inl rfl) | exact Or.inr (Or.inr rfl))) Qt))) (Jw (ZA VW)))))))));refine Vv ?_;refine Qg ?_;refine dr ?_;refine JN (LL rfl) rfl T.b_all boot_all ?_;refine dr ?_;refine Zs ?_;refine Ym rfl rfl (YR (show Zq (Q7 SS) Nu _ 1 ["sign"] []=true by decide +kernel)) (by decide) ?_ ?_ ?_ ?_;exact (YV (Lv (Ql 1)));exact fun _ _ _ _ _ _=>J0 0 (show List.Nodup (["sign"]:List Str) by decide +kernel);exact fun _ _ _ _ _ _=>YU;exact fun _ _ _ _ _ _=>(dc c_is_sign hr (dn 0 Dz));exact (Qg (dr (JU Zh PySem.F.slot_str_startswith PySem.F.type_str_startswith (dv 1) (dr Q5))));exact (Qg (dr (dc c_lacks_row hr (dn 0 Dz))));exact (Qg (dr (JU Zh PySem.F.slot_str_startswith PySem.F.type_str_startswith (dv 1) (dr Q5))))))
theorem HV:FnScope GF S8 (Q7 OY):=by constructor<;>first | rfl | decide +kernel
theorem Bu (h:Df K mg "read" OY S8) (T:Txt K mg) (c_add_row:Nc P w K mg base) (c_lacks_row:R4 P w K mg base):Nd P w K mg base :=
 have nd:=(HV).nd
 B6 (b:=Uz) (k:=5) h HV (fun f cdv A outer s H E hr=>(by refine Er (VY nd rfl (by first | exact Or.inl rfl | exact Or.inr rfl) (WM Qt)) (Ly (BRes2.gr _) rfl PassesOwn.never ?_ ?_ (Vu (Ed (by decide) (Ye (Ir (Iu (YF c_add_row (hr.mono (by decide)) rfl (Qh (Qp (i:=1) rfl (by first | exact Or.inl rfl | exact Or.inr (Or.inl rfl) | exact Or.inr (Or.inr rfl))) (Qh (Qp (i:=3) rfl (by first | exact Or.inl rfl | exact Or.inr (Or.inl rfl) | exact Or.inr (Or.inr rfl))) Qt))))) Px Yg)))) (Ye ?_ Px Yg) (ZA (Qp (i:=1) rfl (by first | exact Or.inl rfl | exact Or.inr (Or.inl rfl) | exact Or.inr (Or.inr rfl))));exact (Ro rfl T.b_enumerate (Ql 0));exact (Rm rfl (Wq (O1:=[1001]) (J0 2 nd) (Wq (O1:=[1001]) (J0 3 nd) Rn)) rfl);exact (Qg (dr (dc c_lacks_row hr (dn 1 Dz))))))
theorem QaT:FnScope Nl U5 (Q7 OE):=by constructor<;>first | rfl | decide +kernel
theorem BK (h:Df K mg "_law_draws" OE U5) (T:Txt K mg):NC P w K mg base :=
 Qr Nl U5 MR 0 h QaT (fun nd=>fun hr=>(by refine Ss (O1:=[]) ?_ ?_;exact (Qb 3 nd (Q6 QO (dr (T7 (dv 0) Rp (Xg dq))) (dr (Jg (dn 1 Dz) V1))));refine Ss (O1:=[4]) ?_ ?_;exact (ZJ 4 nd (Zb Dz Jr));refine Ss (O1:=[4]) ?_ ?_;refine Js rfl PassesOwn.never ?_ ?_ ?_;exact (YT rfl T.b_range (dv 2));exact J0 5 nd;refine Ss (O1:=[4]) ?_ ?_;exact (Qb 6 nd (Q6 QO (dr (Q6 Z5 (dr (Q6 Z5 (dr (Q6 QO (dv 5) (dv 1))) (dr (Q6 QO (dv 5) (dv 1))))) dq)) dq));exact (Ss (O1:=[4]) (Qb 7 nd (Q6 Qo (dr (Q6 Z5 (dr (Q6 QO (dr (Q6 Qo (dr (Qs (dv 3) (dr (Q6 Qo (dv 5) (dr (JN JY rfl T.b_len boot_len (dv 3))))))) dq)) (dv 6))) dq)) dq)) (So (Jc 4 (by decide) (Q6 Qo (dr (Q6 QO (dr (Q6 Z5 (dv 7) (dv 7))) (dr (Q6 Z5 dq (dv 5))))) dq))));exact (Y8 4 (So (QI (Ql 4))))))
theorem Oh:FnScope RA Xz (Q7 OA):=by constructor<;>first | rfl | decide +kernel
theorem BD (h:Df K mg "_law_alike" OA Xz) (T:Txt K mg):N5 P w K mg base :=
 have nd:=(Oh).nd
 II (N:=RA) (b:=Uy) (B9 h Oh) (fun g j c=>IH (b:=Uy g) (k:=j) (N:=RA) (ps:=Xz) (O':=[]) (OL:=[]) h Oh (fun f cdv A outer s H E hr=>(by refine Ss (O1:=[]) ?_ ?_;exact (QN (Qg (dr (Yo (Km _) rfl T.b_isinstance boot_isinstance rfl T.b_str boot_str (dv 1)))) (So (QI (Yn (dr (Yo (Km _) rfl T.b_isinstance boot_isinstance rfl T.b_str boot_str (dv 0))) (YS (ZQ (Yd hr.units) (dv 0) (dv 1) (J5 _)))))) Sn);refine Ss (O1:=[]) ?_ ?_;exact (QN (Qg (dr (Yo (Kk _) rfl T.b_isinstance boot_isinstance rfl T.b_int boot_int (dv 1)))) (So (QI (Yn (dr (Yo (Kk _) rfl T.b_isinstance boot_isinstance rfl T.b_int boot_int (dv 0))) (Yn (dr (EY (dr (Yo (Kj _) rfl T.b_isinstance boot_isinstance rfl T.b_bool boot_bool (dv 0))))) (YS (ZQ (Yd hr.units) (dv 0) (dv 1) (J5 _))))))) Sn);refine Ss (O1:=[]) ?_ ?_;exact (QN (Qg (dr (Yo (Kl _) rfl T.b_isinstance boot_isinstance rfl T.b_list boot_list (dv 1)))) (So (QN (Vv (Qg (dr (Yo (Kl _) rfl T.b_isinstance boot_isinstance rfl T.b_list boot_list (dv 0))))) (So (QI Wl)) Sn)) (So (QN (Vv (Qg (dr (Yo (CM _) rfl T.b_isinstance boot_isinstance rfl T.b_tuple boot_tuple (dv 0))))) (So (QI Wl)) Sn)));refine Ss (O1:=[]) ?_ ?_;exact (QN (dF hr (dr (JN JY rfl T.b_len boot_len (dv 0))) (dr (JN JY rfl T.b_len boot_len (dv 1)))) (So (QI Wl)) Sn);exact (Ss (O1:=[]) (Js rfl PassesOwn.never (YT rfl T.b_range (dr (JN JY rfl T.b_len boot_len (dv 1)))) (J0 2 nd) (So (QN (Vv (Qg (dr (Lk c (hr.mono (Nat.le_refl _)) rfl (Du (Qs (dv 0) (dv 2)) (Du (Qs (dv 1) (dv 2)) Dz)))))) (So (QI Wl)) Sn))) (So (QI Wl)))))) 7
theorem Qa3:FnScope Nr UD (Q7 OK):=by constructor<;>first | rfl | decide +kernel
theorem BX (h:Df K mg "_law_text" OK UD) (T:Txt K mg):XN P w K mg base :=
 Qr Nr UD RW 0 h Qa3 (fun nd=>fun hr=>(by refine Ss (O1:=[]) ?_ ?_;exact (Qb 2 nd Q5);refine Ss (O1:=[]) ?_ ?_;exact (Qb 3 nd Q5);refine Ss (O1:=[]) ?_ ?_;refine Js rfl PassesOwn.never ?_ ?_ ?_;exact (YT rfl T.b_range (dv 1));exact J0 4 nd;exact (Ss (O1:=[]) (Qb 0 nd (Q6 Qo (dr (Q6 QO (dr (Q6 QO (dr (Q6 Z5 (dv 0) dq)) (dr (Q6 Z5 dq (dv 4))))) dq)) dq)) (So (Qb 3 nd (Q6 QO (dv 3) (dr (Qs (dv 2) (dr (Q6 Qo (dv 0) (dr (JN JY rfl T.b_len boot_len (dv 2)))))))))));exact (So (QI (Ql 3)))))
theorem Qa0:FnScope Nq UB (Q7 OI):=by constructor<;>first | rfl | decide +kernel
theorem BU (h:Df K mg "_law_row" OI UB) (T:Txt K mg) (c_Ltext:XN P w K mg base):Sy P w K mg base :=
 Qr Nq UB MY 1 h Qa0 (fun nd=>fun hr=>(by refine Ss (O1:=[]) ?_ ?_;exact (Qb 1 nd (Qs (dr (Jg (Dk Q5 (Dk Q5 (Dk Q5 (Dk Q5 Dz)))) Yc)) (dr (Q6 Qo (dv 0) dq))));refine So ?_;refine QI ?_;exact (Q6 QO (dr (Q6 QO (dv 1) (dr (dc c_Ltext hr (dn 0 (Db (Q6 Qo (dr (Q6 Z4 (dv 0) dq)) dq) Dz)))))) (dr (Qs (dr (Jg (Dk Q5 (Dk Q5 (Dk Q5 Dz))) Zg)) (dr (Q6 Qo (dr (Q6 Z4 (dv 0) dq)) dq)))))))
theorem Qa4:FnScope Nt UE (Q7 OM):=by constructor<;>first | rfl | decide +kernel
theorem BY (h:Df K mg "_law_title" OM UE) (T:Txt K mg) (c_Ltext:XN P w K mg base):NM P w K mg base :=
 Qr Nt UE Mb 1 h Qa4 (fun nd=>fun hr=>(by refine Ss (O1:=[]) ?_ ?_;exact (Qb 1 nd (dc c_Ltext hr (dn 0 (Db (Q6 QO dq (dr (Q6 Qo (dr (Q6 Z4 (dv 0) dq)) dq))) Dz))));refine Ss (O1:=[]) ?_ ?_;exact (QN (dE hr (dr (Q6 Qo (dv 0) dq)) dq) (So (Qb 1 nd (Q6 QO (dr (Q6 QO (dv 1) (dr Q5))) (dr (dc c_Ltext hr (Db (Q6 Z4 (dv 0) dq) (Db (Q6 QO dq (dr (Q6 Qo (dr (Q6 Z4 (dv 0) dq)) dq))) Dz))))))) Sn);exact (So (QI (Ql 1)))))
theorem QaX:FnScope RE U8 (Q7 SQ):=by constructor<;>first | rfl | decide +kernel
theorem BQ (h:Df K mg "_law_label" SQ U8) (T:Txt K mg):NH P w K mg base :=
 Qr RE U8 MV 0 h QaX (fun nd=>fun hr=>(by refine Ss (O1:=[]) ?_ ?_;exact (Qb 2 nd Q5);refine Ss (O1:=[]) ?_ ?_;refine Qb 3 nd ?_;refine Lm (by decide) ?_;refine dr ?_;refine Zs ?_;refine Ym rfl rfl (YR (show Zq (Q7 SQ) RE _ 1 ["_law_j","_law_letters","_law_draw"] [2,1]=true by decide +kernel)) (by decide) ?_ ?_ ?_ ?_;exact (YV (YT rfl T.b_range (dr (Q6 Qo (dv 1) dq))));exact fun _ _ _ _ _ _=>J0 0 (show List.Nodup (["_law_j","_law_letters","_law_draw"]:List Str) by decide +kernel);exact fun _ _ _ _ _ _=>YU;exact fun _ _ _ _ _ _=>(Qs (dv 1) (dr (Q6 Qo (dr (Q6 QO (dr (Q6 Z4 (dv 2) dq)) (dr (Q6 Z5 (dv 0) (dv 0))))) dq)));refine Ss (O1:=[]) ?_ ?_;exact (Qb 4 nd (Q6 Qo (dr (Q6 Z4 (dv 1) dq)) (dr (Q6 QO (dr (JN JY rfl T.b_len boot_len (dv 3))) dq))));exact (Ss (O1:=[]) (Qb 5 nd (Q6 QO (dr (Qs (dv 2) (dr (Q6 Qo (dv 0) dq)))) (dr (Qs (dv 2) (dr (Q6 Qo (dr (Q6 QO (dr (Q6 Z4 (dv 0) dq)) (dv 1))) dq)))))) (So (QI (Q6 QO (dr (Q6 QO (dr (T7 (dv 3) Rp (Xg (dv 4)))) (dv 5))) (dr (T7 (dv 3) (Xg (dv 4)) Rp))))))))
theorem QaP:FnScope RB U1 (Q7 SK):=by constructor<;>first | rfl | decide +kernel
theorem BF (h:Df K mg "_law_block" SK U1) (T:Txt K mg) (c_Lrow:Sy P w K mg base) (c_Ltitle:NM P w K mg base):N7 P w K mg base :=
 Qr RB U1 MN 2 h QaP (fun nd=>fun hr=>(by refine Ss (O1:=[]) ?_ ?_;exact (QN (dE hr (dv 0) dq) (So (QI (JF (Dk Q5 (Dl (dc c_Ltitle hr (Du (dy 2) Dz)) (dn 1 Dz))) Zg))) Sn);refine Ss (O1:=[]) ?_ ?_;refine QN ?_ ?_ ?_;exact (dE hr (dv 0) dq);refine Ss (O1:=[]) ?_ ?_;refine Qb 3 nd ?_;exact (Qs (dr (Jg (Db (Q6 Qo (dx 2) dq) (Db (Q6 Qo (dx 2) dq) (Du (dy 2) (Db (Q6 QO (dr (Q6 IS dq dq)) (dx 2)) Dz)))) Yc)) (dr (Q6 Qo (dr (Q6 Z4 (dx 2) dq)) dq)));exact (So (QI (JF (Dk Q5 (Dl (dc c_Ltitle hr (Du (dy 2) Dz)) (dn 3 (dn 1 Dz)))) Yc)));exact Sn;refine Ss (O1:=[]) ?_ ?_;refine QN ?_ ?_ ?_;exact (dE hr (dv 0) dq);refine Ss (O1:=[]) ?_ ?_;exact (Qb 4 nd (Q6 QO dq (dr (Q6 Qo (dx 2) dq))));refine Ss (O1:=[]) ?_ ?_;exact (QN (dE hr (dr (Q6 Qo (dr (Q6 Z4 (dx 2) dq)) dq)) dq) (So (Qb 4 nd (Q6 QO dq (dr (Q6 Qo (dr (Q6 Z4 (dx 2) dq)) dq))))) Sn);refine So ?_;refine QI ?_;refine JF ?_ ?_;refine Dk ?_ ?_;exact Q5;refine ES ?_ ?_;refine Zs ?_;refine Ym rfl rfl (YR (show Zq (Q7 SK) RB _ 1 ["_law_j","_law_some"] [2]=true by decide +kernel)) (by decide) ?_ ?_ ?_ ?_;exact (YV (YT rfl T.b_range (dv 4)));exact fun _ _ _ _ _ _=>J0 0 (show List.Nodup (["_law_j","_law_some"]:List Str) by decide +kernel);exact fun _ _ _ _ _ _=>YU;exact fun _ _ _ _ _ _=>(dc c_Lrow hr (Db (Q6 QO (dx 1) (dr (Q6 Z5 (dr (Q6 Z5 dq (dv 0))) (dv 0)))) Dz));exact (dn 1 Dz);exact Zg;exact Sn;refine Ss (O1:=[]) ?_ ?_;exact (Qb 5 nd Z8);refine Ss (O1:=[]) ?_ ?_;exact (Js rfl PassesOwn.never (YT rfl T.b_range (dr (Q6 Qo (dr (Q6 Z4 (dx 2) dq)) (dr (Qs (dr (Jg (Dk Z8 (Dk Z8 (Dk Z8 (Dk Z8 Dz)))) Yc)) (dr (Q6 Qo (dx 2) dq))))))) (J0 6 nd) (So (Qb 5 nd (Q6 Z5 (dv 5) dq))));exact (Ss (O1:=[]) (QN (dE hr (dr (Q6 Qo (dr (Q6 Z4 (dx 2) dq)) dq)) dq) (So (Qb 5 nd (Q6 QO (dr (Q6 IS dq dq)) (dx 2)))) Sn) (So (QI (JF (Dk Q5 (Dl (ET (Gy rfl) rfl T.b_max boot_max dq (dr (Q6 AW (dv 5) (dr (Q6 Qo (dx 2) dq))))) (dn 1 Dz))) Zg))))))
theorem QaU:FnScope RD U6 (Q7 SN):=by constructor<;>first | rfl | decide +kernel
theorem BN (h:Df K mg "_law_item" SN U6) (T:Txt K mg) (c_Lrow:Sy P w K mg base) (c_Ltext:XN P w K mg base):ND P w K mg base :=
 Qr RD U6 MS 2 h QaU (fun nd=>fun hr=>(by refine Ss (O1:=[]) ?_ ?_;exact (QN (dE hr (dv 0) dq) (So (QI (JF (Dk Q5 (dn 1 Dz)) V2))) Sn);refine Ss (O1:=[]) ?_ ?_;exact (QN (dE hr (dv 0) dq) (So (QI (JF (Dk Q5 (Dl (dc c_Ltext hr (Db (Q6 QO dq (dr (Q6 Qo (dx 2) dq))) (Db (Q6 QO dq (dr (Q6 Qo (dx 2) dq))) Dz))) Dz)) V2))) Sn);refine Ss (O1:=[]) ?_ ?_;refine QN ?_ ?_ ?_;exact (Z1 YE (dv 0) dq (J5 _));refine So ?_;refine QI ?_;refine JF ?_ ?_;refine Dk ?_ ?_;exact Q5;refine Du ?_ ?_;exact (dy 2);exact (Dl (dc c_Ltext hr (Du (dy 2) (Db (Q6 Qo (dr (Q6 Z4 (dx 2) dq)) dq) Dz))) (Dl (dc c_Ltext hr (Du (dy 2) (Db (Q6 Qo (dr (Q6 Z4 (dx 2) dq)) dq) Dz))) Dz));exact Yc;exact Sn;refine Ss (O1:=[]) ?_ ?_;exact (Qb 3 nd (Q6 QO dq (dr (Q6 Qo (dx 2) dq))));refine Ss (O1:=[]) ?_ ?_;exact (QN (dE hr (dr (Q6 Qo (dr (Q6 Z4 (dx 2) dq)) dq)) dq) (So (Qb 3 nd (Q6 QO dq (dr (Q6 Qo (dr (Q6 Z4 (dx 2) dq)) dq))))) Sn);refine Ss (O1:=[4]) ?_ ?_;refine El 4 nd rfl rfl (YR (show Zq (Q7 SN) RD _ 1 ["_law_j","_law_some"] [2]=true by decide +kernel)) (by decide) ?_ ?_ ?_ ?_;exact (YV (YT rfl T.b_range (dr (Qs (dr (Jg (Dk Z8 (Dk Z8 (Dk Z8 (Dk Z8 (Dk Z8 Dz))))) Cc)) (dr (Q6 Qo (dx 2) dq))))));exact fun _ _ _ _ _ _=>J0 0 (show List.Nodup (["_law_j","_law_some"]:List Str) by decide +kernel);exact fun _ _ _ _ _ _=>YU;exact fun _ _ _ _ _ _=>(dc c_Lrow hr (Db (Q6 QO (dx 1) (dr (Q6 Z5 dq (dv 0)))) Dz));exact (Y8 4 (So (QI (JF (Dk Q5 (Dl (dc c_Ltext hr (Du (dy 2) (dn 3 Dz))) (dn 4 Dz))) Zg))))))
theorem QaR:FnScope Nj U3 (Q7 OC):=by constructor<;>first | rfl | decide +kernel
theorem BI (h:Df K mg "_law_closed" OC U3) (T:Txt K mg) (c_Ltext:XN P w K mg base):N9 P w K mg base :=
 Qr Nj U3 MP 1 h QaR (fun nd=>fun hr=>(by refine Ss (O1:=[]) ?_ ?_;exact (QN (dF hr (dx 0) (dr Q5)) (So (QI (Ql 0))) Sn);refine Ss (O1:=[3]) ?_ ?_;exact (ZJ 3 nd (Zb Dz Jr));refine Ss (O1:=[3]) ?_ ?_;refine Js rfl PassesOwn.never ?_ ?_ ?_;exact (ZI (dy 0));exact J0 4 nd;refine So ?_;refine QN ?_ ?_ ?_;exact (PW.pt (JS (dE hr (dx 4) (dr Q5)) (JO (Z1 YE (dr (JN JY rfl T.b_len boot_len (dv 1))) dq (J5 _)))));exact (So (Jc 3 (by decide) (JF (Dk Q5 (Du (Qs (dv 1) (dr (Q6 Qo (dx 4) (dr (JN JY rfl T.b_len boot_len (dv 1)))))) (Du (dy 4) (Du (dy 4) Dz)))) Yc)));refine So ?_;refine QN ?_ ?_ ?_;exact (dE hr (dx 4) (dr Q5));refine So ?_;refine Jc 3 (by decide) ?_;refine JF ?_ ?_;refine Dk ?_ ?_;exact Q5;refine Db ?_ ?_;exact (Q6 QO (dr Q5) (dx 4));refine Xe ?_ ?_;exact (Jg Dz Jr);exact Dz;exact Zg;exact (So (Jc 3 (by decide) (Ql 4)));refine Ss (O1:=[3]) ?_ ?_;refine QN ?_ ?_ ?_;exact (PW.pt (JS (Z1 YE (dr (JN JY rfl T.b_len boot_len (Vt 3))) dq (J5 _)) (JO (Z1 AH (dr (Qs (dr (Qs (Vt 3) (dr (Yp dq)))) dq)) (dr (JF (Dk Q5 (Dk Q5 Dz)) V2)) (by with_unfolding_all rfl)))));refine So ?_;refine Jc 3 (by decide) ?_;refine JF ?_ ?_;refine Dk ?_ ?_;exact Q5;refine Dl ?_ ?_;exact (dc c_Ltext hr (dn 2 (Db (Q6 QO dq (dr (Q6 Qo (dv 2) dq))) Dz)));refine Xe ?_ ?_;exact (Jg Dz Jr);exact Dz;exact Zg;exact Sn;exact (Y8 3 (So (QI (JF (Dk Q5 (dn 3 Dz)) V2))))))
theorem QaQ:FnScope RC U2 (Q7 SM):=by constructor<;>first | rfl | decide +kernel
theorem BG (h:Df K mg "_law_book" SM U2) (T:Txt K mg) (c_Lblock:N7 P w K mg base) (c_Lclosed:N9 P w K mg base) (c_Ldraws:NC P w K mg base) (c_Litem:ND P w K mg base) (c_Llabel:NH P w K mg base):N8 P w K mg base :=
 Qr RC U2 MO 3 h QaQ (fun nd=>fun hr=>(by refine Ss (O1:=[]) ?_ ?_;exact (Qb 1 nd (Q6 Qo (dr (Qs (dr (dc c_Ldraws hr (dn 0 (Dk Z8 (Dk Z8 Dz))))) dq)) dq));refine Ss (O1:=[]) ?_ ?_;exact (Qb 2 nd (dc c_Ldraws hr (dn 0 (Dk Z8 (Db (Q6 QO (dr (Q6 Z5 dq (dv 1))) dq) Dz)))));refine Ss (O1:=[3]) ?_ ?_;exact (ZJ 3 nd (Zb Dz Jr));refine Ss (O1:=[3,4]) ?_ ?_;exact (ZJ 4 nd (Zb Dz Jr));refine Ep (i:=3) (j:=4) ?_ ?_;refine Ly (LRes.gr _ 3 4) rfl PassesOwn.never ?_ ?_ ?_;exact (YT rfl T.b_range (dv 1));exact J0 5 nd;refine Wr ?_ ?_;refine Rq (OL:=[]) (w:=false) (YG _ _) (LRes.gr _ _ _) ?_;exact (Qb 6 nd (T7 (dv 2) (Xg (dr (Q6 Z5 dq (dv 5)))) (Xg (dr (Q6 QO (dr (Q6 Z5 dq (dv 5))) dq)))));refine Wr ?_ ?_;refine Rq (OL:=[]) (w:=false) (YG _ _) (LRes.gr _ _ _) ?_;exact (Qb 7 nd (Q6 Qo (dx 6) dq));refine Wr ?_ ?_;refine Rq (OL:=[]) (w:=false) (YG _ _) (LRes.gr _ _ _) ?_;exact (Qb 8 nd Q5);refine Wr ?_ ?_;refine TJ Ui (LRes.gr _ _ _) ?_ ?_ ?_;exact (PW.pt (Zc (dE hr (dv 7) dq) (JO (PW.pt (JS (Z1 IP (dv 7) dq (J5 _)) (JO (dE hr (dr (Q6 Qo (dx 6) dq)) dq)))))));refine Wr ?_ ?_;refine Em Ui (LRes.gr _ _ _) (by decide) (by decide) (VY nd rfl (by first | exact Or.inl rfl | exact Or.inr rfl) ?_);exact (dc c_Llabel hr (Dl (JN JY rfl T.b_len boot_len (dv 4)) (Du (Qs (dv 2) (dr (Q6 Z5 dq (dv 1)))) Dz)));refine Vu ?_;refine Eg (Y0 (ZN PySem.F.plainAttrs_list PySem.F.slot_list_append PySem.F.type_list_append Zy (Qp (i:=4) rfl (by first | exact Or.inl rfl | exact Or.inr (Or.inl rfl) | exact Or.inr (Or.inr rfl))) (Qh ?_ Qt)));exact Ql 8;exact Rr;refine Wr ?_ ?_;refine TJ Ui (LRes.gr _ _ _) ?_ ?_ ?_;exact (Z1 IP (dv 7) dq (J5 _));refine Vu ?_;refine Ee (Y0 (ZN PySem.F.plainAttrs_list PySem.F.slot_list_append PySem.F.type_list_append Zy (Qp (i:=3) rfl (by first | exact Or.inl rfl | exact Or.inr (Or.inl rfl) | exact Or.inr (Or.inr rfl))) (Qh ?_ Qt)));exact (dc c_Lblock hr (dn 7 (dn 8 (dn 6 Dz))));refine Vu ?_;refine TJ Ui (LRes.gr _ _ _) ?_ ?_ ?_;exact (PW.pt (Zc (dE hr (dv 7) dq) (Zc (dE hr (dr (JN JY rfl T.b_len boot_len (dv 3))) dq) (JO (dF hr (dr (Qs (dr (Qs (dv 3) (dr (Yp dq)))) dq)) (dr Q5))))));refine Vu ?_;exact (Eh (Y0 (ZN PySem.F.plainAttrs_list PySem.F.slot_list_append PySem.F.type_list_append Zy (Qp (i:=3) rfl (by first | exact Or.inl rfl | exact Or.inr (Or.inl rfl) | exact Or.inr (Or.inr rfl))) (Qh (SA (Qh VX (Qh (WM Qt) Qt))) Qt))));exact Rr;refine Vu ?_;refine TJ Ui (LRes.gr _ _ _) ?_ ?_ ?_;exact (Z1 YE (dv 7) dq (J5 _));refine Vu ?_;refine Ef (Y0 (ZN PySem.F.plainAttrs_list PySem.F.slot_list_append PySem.F.type_list_append Zy (Zk Zf (Zk Zf (Qp (i:=3) rfl (by first | exact Or.inl rfl | exact Or.inr (Or.inl rfl) | exact Or.inr (Or.inr rfl))) UQ (fun _ _=>rfl)) V6 (fun _ _=>rfl)) (Qh ?_ Qt)));exact (dc c_Litem hr (dn 7 (dn 8 (dn 6 Dz))));exact Rr;refine So ?_;refine QI ?_;refine Zs ?_;refine Ym rfl rfl (YR (show Zq (Q7 SM) RC _ 1 ["_law_told","_law_labels","_law_draws_here","_law_many"] [4,2,1]=true by decide +kernel)) (by decide) ?_ ?_ ?_ ?_;exact (YV (ZI (Ql 3)));exact fun _ _ _ _ _ _=>J0 0 (show List.Nodup (["_law_told","_law_labels","_law_draws_here","_law_many"]:List Str) by decide +kernel);exact fun _ _ _ _ _ _=>YU;exact fun _ _ _ _ _ _=>(dc c_Lclosed hr (dn 0 (dn 1 (Du (Qs (dv 2) (dr (Q6 Z5 dq (dv 3)))) Dz))))))
theorem QaS:FnScope Nk U4 (Q7 OD):=by constructor<;>first | rfl | decide +kernel
theorem BJ (h:Df K mg "_law_copy" OD U4) (T:Txt K mg):NA P w K mg base :=
 Qr Nk U4 MQ 0 h QaS (fun nd=>fun hr=>(by refine Ss (O1:=[1]) ?_ ?_;exact (ZJ 1 nd (Zb Dz Jr));refine Ss (O1:=[1]) ?_ ?_;refine Js rfl PassesOwn.never ?_ ?_ ?_;exact (ZI (Ql 0));exact J0 2 nd;refine So ?_;refine QN ?_ ?_ ?_;exact (dE hr (dx 2) (dr Q5));refine Ss (O1:=[1,3]) ?_ ?_;exact (ZJ 3 nd (Zb Dz Jr));refine Ss (O1:=[1,3]) ?_ ?_;exact (Js rfl PassesOwn.never (ZI (dy 2)) (J0 4 nd) (So (QN (dE hr (dx 4) (dr Q5)) (So (Jc 3 (by decide) (JF (Dk Q5 (Du (dy 4) (Dl (Zs (Rj rfl T.b_list boot_list (dx 4))) Dz))) Zg))) (So (Jc 3 (by decide) (Ql 4))))));exact (Y8 3 (So (Jc 1 (by decide) (JF (Dk Q5 (dn 3 Dz)) V2))));exact (So (QN (dE hr (dx 2) (dr Q5)) (So (Jc 1 (by decide) (JF (Dk Q5 (Dl (Zs (Rj rfl T.b_list boot_list (dx 2))) (Du (dy 2) Dz))) Zg))) (So (Jc 1 (by decide) (Ql 2)))));exact (Y8 1 (So (QI (Ql 1))))))
theorem Qa2:FnScope W9 W9 (Q7 OJ):=by constructor<;>first | rfl | decide +kernel
theorem BW (h:Df K mg "_law_tag" OJ W9) (T:Txt K mg):NL P w K mg base :=
 Qr W9 W9 Ma 0 h Qa2 (fun nd=>fun hr=>(Ss (O1:=[]) (QN (dE hr (dv 0) (dr Q5)) (So (QI Q5)) Sn) (So (QI (Ql 0)))))
theorem QaV:FnScope VP VP (Q7 SO):=by constructor<;>first | rfl | decide +kernel
theorem BO (h:Df K mg "_law_item_rows" SO VP) (T:Txt K mg):NF P w K mg base :=
 Qr VP VP MT 0 h QaV (fun nd=>fun hr=>(by refine Ss (O1:=[]) ?_ ?_;refine QN ?_ ?_ ?_;exact (dE hr (dx 0) (dr Q5));refine So ?_;refine QI ?_;refine Q6 QO ?_ ?_;exact (dr (Jg (Db (Q6 QO (dr Q5) (dx 0)) Dz) V1));refine dr ?_;refine Zs ?_;refine Ym rfl rfl (YR (show Zq (Q7 SO) VP _ 1 ["_law_row_here"] []=true by decide +kernel)) (by decide) ?_ ?_ ?_ ?_;exact (YV (ZI (dy 0)));exact fun _ _ _ _ _ _=>J0 0 (show List.Nodup (["_law_row_here"]:List Str) by decide +kernel);exact fun _ _ _ _ _ _=>YU;exact fun _ _ _ _ _ _=>(Q6 QO (dr Q5) (dv 0));exact Sn;refine Ss (O1:=[]) ?_ ?_;exact (QN (dE hr (dx 0) (dr Q5)) (So (QI (Jg (Db (Q6 QO (dr (Q6 QO (dr (Q6 QO (dr (Q6 QO (dr (Q6 QO (dr Q5) (dx 0))) (dr Q5))) (dx 0))) (dr Q5))) (dx 0)) Dz) V1))) Sn);exact (So (QI (Jg (Db (Q6 QO (dr (Q6 QO (dx 0) (dr Q5))) (dx 0)) Dz) V1)))))
theorem Qa1:FnScope RF UC (Q7 SR):=by constructor<;>first | rfl | decide +kernel
theorem BV (h:Df K mg "_law_rows" SR UC) (T:Txt K mg) (c_Litem_rows:NF P w K mg base) (c_Ltag:NL P w K mg base):NK P w K mg base :=
 Qr RF UC MZ 1 h Qa1 (fun nd=>fun hr=>(by refine Ss (O1:=[1]) ?_ ?_;exact (ZJ 1 nd (Zb Dz Jr));refine Ss (O1:=[1]) ?_ ?_;refine Js rfl PassesOwn.never ?_ ?_ ?_;exact (ZI (Ql 0));exact J0 2 nd;refine Ss (O1:=[1]) ?_ ?_;exact (QN (dE hr (dx 2) (dr Q5)) (So (Jc 1 (by decide) (Q6 QO (dr (Q6 QO (dr (Q6 QO (dr Q5) (dr (dc c_Ltag hr (Du (dy 2) Dz))))) (dr Q5))) (dx 2)))) Sn);refine Ss (O1:=[1]) ?_ ?_;exact (QN (dE hr (dx 2) (dr Q5)) (So (Jc 1 (by decide) (Lm (by decide) (dr (Jg (Dk Q5 (Dl (T9 LO rfl T.b_str boot_str (dx 2)) (Dl (dc c_Ltag hr (Du (dy 2) Dz)) (Du (dy 2) Dz)))) Yc))))) Sn);refine Ss (O1:=[1]) ?_ ?_;exact (QN (dE hr (dx 2) (dr Q5)) (So (Jc 1 (by decide) (Q6 QO (dr (Q6 QO (dr (Q6 QO (dr Q5) (dr (T9 LO rfl T.b_str boot_str (dx 2))))) (dr Q5))) (dr (dc c_Ltag hr (Du (dy 2) Dz)))))) Sn);refine Ss (O1:=[1]) ?_ ?_;refine QN ?_ ?_ ?_;exact (dE hr (dx 2) (dr Q5));refine Ss (O1:=[1]) ?_ ?_;exact (Jc 1 (by decide) (Q6 QO (dr Q5) (dr (dc c_Ltag hr (Du (dy 2) Dz)))));refine So ?_;refine ZJ 1 nd ?_;refine Le ?_ ?_;exact Vt 1;refine dr ?_;refine Zs ?_;refine Ym rfl rfl (YR (show Zq (Q7 SR) RF _ 1 ["_law_row_here"] []=true by decide +kernel)) (by decide) ?_ ?_ ?_ ?_;exact (YV (ZI (dy 2)));exact fun _ _ _ _ _ _=>J0 0 (show List.Nodup (["_law_row_here"]:List Str) by decide +kernel);exact fun _ _ _ _ _ _=>YU;exact fun _ _ _ _ _ _=>(Q6 QO (dr Q5) (dv 0));exact Sn;exact (So (QN (dE hr (dx 2) (dr Q5)) (Ss (O1:=[1]) (Jc 1 (by decide) Q5) (So (Js rfl PassesOwn.never (ZI (dy 2)) (J0 3 nd) (So (ZJ 1 nd (Le (Vt 1) (dr (dc c_Litem_rows hr (dn 3 Dz))))))))) Sn));exact (Y8 1 (So (QI (Ql 1))))))
theorem QaW:FnScope Nm U7 (Q7 OF):=by constructor<;>first | rfl | decide +kernel
theorem BP (h:Df K mg "_law_kind" OF U7) (T:Txt K mg):NG P w K mg base :=
 Qr Nm U7 MU 0 h QaW (fun nd=>fun hr=>(by refine Ss (O1:=[1]) ?_ ?_;exact (ZJ 1 nd (Zb Dz Jr));refine Ss (O1:=[1]) ?_ ?_;exact (QN (Qg (dr (Vq (c:=6) T.xr (by decide) T.y_NoRow rfl T.b_isinstance boot_isinstance rfl (dv 0)))) (So (Jc 1 (by decide) (EU T.xr (dv 0)))) Sn);refine Ss (O1:=[1]) ?_ ?_;refine QN ?_ ?_ ?_;refine PW.pt ?_;exact (Zc (Qg (dr (Vq (c:=0) T.xr (by decide) T.y_NoStyle rfl T.b_isinstance boot_isinstance rfl (dv 0)))) (Zc (Qg (dr (Vq (c:=1) T.xr (by decide) T.y_TooWide rfl T.b_isinstance boot_isinstance rfl (dv 0)))) (JO (Qg (dr (Vq (c:=2) T.xr (by decide) T.y_TooHigh rfl T.b_isinstance boot_isinstance rfl (dv 0)))))));exact (So (Jc 1 (by decide) Q5));exact Sn;refine Ss (O1:=[1]) ?_ ?_;refine QN ?_ ?_ ?_;refine PW.pt ?_;exact (Zc (Qg (dr (Vq (c:=3) T.xr (by decide) T.y_Twice rfl T.b_isinstance boot_isinstance rfl (dv 0)))) (Zc (Qg (dr (Vq (c:=4) T.xr (by decide) T.y_Loose rfl T.b_isinstance boot_isinstance rfl (dv 0)))) (JO (Qg (dr (Vq (c:=5) T.xr (by decide) T.y_NoLabel rfl T.b_isinstance boot_isinstance rfl (dv 0)))))));exact (So (Jc 1 (by decide) Q5));exact Sn;refine Ss (O1:=[1]) ?_ ?_;exact (QN (PW.pt (JS (Et (dv 0)) (JO (Vv (Qg (dr (EV T.xr rfl T.b_isinstance boot_isinstance rfl T.b_ValueError (dv 0)))))))) (So (Jc 1 (by decide) Q5)) Sn);exact (Ss (O1:=[1]) (QN (PW.pt (JS (dE hr (dr (JN JY rfl T.b_len boot_len (Vt 1))) dq) (JO (Qg (dr (Yo (Kj _) rfl T.b_isinstance boot_isinstance rfl T.b_bool boot_bool (dr (Qs (Vt 1) dq)))))))) (So (Jc 1 (by decide) Q5)) Sn) (Y8 1 (So (QI (Ql 1)))))))
theorem QaO:FnScope Ni U0 (Q7 OB):=by constructor<;>first | rfl | decide +kernel
theorem BE (h:Df K mg "_law_barred" OB U0) (T:Txt K mg):N6 P w K mg base :=
 Qr Ni U0 MM 0 h QaO (fun nd=>fun hr=>(by refine Ss (O1:=[]) ?_ ?_;exact (Js rfl PassesOwn.never (YT rfl T.b_range (dr (JN JY rfl T.b_len boot_len (dv 0)))) (J0 1 nd) (So (QN (PW.pt (JS (Qg (dr (JU Zh PySem.F.slot_str_startswith PySem.F.type_str_startswith (dr (Qs (dv 0) (dv 1))) (dr Q5)))) (JO (Z1 YE (dr (JU Tu PySem.F.slot_str_count PySem.F.type_str_count (dr (Qs (dv 0) (dv 1))) (dr Q5))) dq (J5 _))))) (So (QI (Ql 1))) Sn)));exact (So (QI (Yp dq)))))
theorem QaY:FnScope Nn U9 (Q7 OG):=by constructor<;>first | rfl | decide +kernel
theorem BR (h:Df K mg "_law_plain" OG U9) (T:Txt K mg):NI P w K mg base :=
 Qr Nn U9 MW 0 h QaY (fun nd=>fun hr=>(by refine Ss (O1:=[1]) ?_ ?_;exact (ZJ 1 nd (Zb Dz Jr));refine Ss (O1:=[1]) ?_ ?_;refine Js rfl PassesOwn.never ?_ ?_ ?_;exact (ZI (Ql 0));exact J0 2 nd;refine Ss (O1:=[1]) ?_ ?_;refine QN ?_ ?_ ?_;exact (dE hr (dx 2) (dr Q5));refine Ss (O1:=[1,3]) ?_ ?_;exact (ZJ 3 nd (Zb Dz Jr));refine Ss (O1:=[1,3]) ?_ ?_;refine Js rfl PassesOwn.never ?_ ?_ ?_;exact (ZI (dy 2));exact J0 4 nd;exact (Ss (O1:=[1,3]) (QN (dE hr (dx 4) (dr Q5)) (So (Qb 4 nd (JF (Dk Q5 (Du (dy 4) (Dl (Lo (i:=4) (by decide) (by decide) rfl (by first | exact Or.inl rfl | exact Or.inr (Or.inl rfl) | exact Or.inr (Or.inr rfl)) (by decide)) (Dl (Lo (i:=4) (by decide) (by decide) rfl (by first | exact Or.inl rfl | exact Or.inr (Or.inl rfl) | exact Or.inr (Or.inr rfl)) (by decide)) Dz)))) Yc))) Sn) (So (Jc 3 (by decide) (Ql 4))));exact (Y8 3 (So (Qb 2 nd (JF (Dk Q5 (dn 3 Dz)) V2))));exact Sn;exact (So (Jc 1 (by decide) (Ql 2)));exact (Y8 1 (So (QI (Ql 1))))))
theorem QaZ:FnScope Np UA (Q7 OH):=by constructor<;>first | rfl | decide +kernel
theorem BS (h:Df K mg "_law_refused" OH UA) (T:Txt K mg) (c_Lkind:NG P w K mg base) (c_written:Nf P w K mg base):NJ P w K mg base :=
 Qr Np UA MX 4 h QaZ (fun nd=>fun hr=>(by refine Ss (O1:=[]) ?_ ?_;exact (Qb 1 nd Yq);refine Ss (O1:=[]) ?_ ?_;refine En 1 2 nd T.xt rfl ?_;refine Qal c_written (hr.mono (by decide)) rfl ?_;exact (fun E=>(dn 0 Dz));exact (So (QI (dc c_Lkind hr (dn 1 Dz))))))
theorem sc_law:FnScope Nx IU (Q7 SY):=by constructor<;>first | rfl | decide +kernel
theorem Bs {f:Addr} {fd:FuncData} (h:Fun K "law" "law" SY f fd) (T:Txt K mg) (c_Lalike:N5 P w K mg base) (c_Lbarred:N6 P w K mg base) (c_Lbook:N8 P w K mg base) (c_Lcopy:NA P w K mg base) (c_Lplain:NI P w K mg base) (c_Lrefused:NJ P w K mg base) (c_Lrows:NK P w K mg base) (c_read:Nd P w K mg base) (c_writtenO:Nb P w K mg base):FnOk P w K mg base Qk 9 f fd ["_law_script"] (spD K Xn) :=
 have nd:=sc_law.nd
 B5 (b:=Mp) (k:=8) (N:=Nx) (ps:=IU) (O':=[]) (OL:=[]) h sc_law fun cdv A outer s H E hr=>(by refine Ss (O1:=[]) ?_ ?_;exact (Qb 1 nd (dc c_Lbook hr (dn 0 Dz)));refine Ss (O1:=[]) ?_ ?_;exact (Qb 2 nd (dc c_Lcopy hr (dn 1 Dz)));refine Ss (O1:=[]) ?_ ?_;exact (Qb 3 nd (dc c_Lbarred hr (Dl (dc c_Lrows hr (dn 1 Dz)) Dz)));refine Ss (O1:=[]) ?_ ?_;refine QN ?_ ?_ ?_;exact (Z1 AF (dv 3) dq (J5 _));exact (Ss (O1:=[]) (QN (PW.pt (Zc (dF hr (dr (dc c_Lrefused hr (dn 2 Dz))) (dr (Jg (dn 3 Dz) V1))) (JO (dF hr (dv 2) (dv 1))))) (So (QI Wl)) Sn) (Ss (O1:=[]) (Qb 1 nd (dc c_Lplain hr (dn 1 Dz))) (So (Qb 2 nd (dc c_Lcopy hr (dn 1 Dz))))));exact Sn;refine Ss (O1:=[]) ?_ ?_;exact (Qb 4 nd (dc c_Lrows hr (dn 1 Dz)));refine Ss (O1:=[]) ?_ ?_;exact (Qb 5 nd (Zs (Rj rfl T.b_list boot_list (dv 4))));refine Ss (O1:=[]) ?_ ?_;refine Js rfl PassesOwn.never ?_ ?_ ?_;exact (YT rfl T.b_range dq);exact J0 6 nd;refine Eo (i:=7) (j:=8) (l:=9) (by decide) (by decide) (by decide) (by decide) (by decide) (Jj (VY nd rfl (by first | exact Or.inl rfl | exact Or.inr rfl) (YF c_writtenO (hr.mono (by decide)) rfl ?_)) (Jj (VY nd rfl (by first | exact Or.inl rfl | exact Or.inr rfl) (YF c_read (hr.mono (by decide)) rfl ?_)) (Jj (Ye ?_ Px Yg) (Jj (Y0 (ZN PySem.F.plainAttrs_list PySem.F.slot_list_append PySem.F.type_list_append Zy (Qp (i:=7) rfl (by first | exact Or.inl rfl | exact Or.inr (Or.inl rfl) | exact Or.inr (Or.inr rfl))) (Qh VX Qt))) (Jj (Pw PassesOwn.never rfl (Ik (Qp (i:=8) rfl (by first | exact Or.inl rfl | exact Or.inr (Or.inl rfl) | exact Or.inr (Or.inr rfl)))) (Ij nd rfl (by first | exact Or.inl rfl | exact Or.inr rfl)) (Jw (Ye (SD IL (Zk Zf (Qp (i:=9) rfl (by first | exact Or.inl rfl | exact Or.inr (Or.inl rfl) | exact Or.inr (Or.inr rfl))) V6 (fun _ _=>rfl)) (SA (Qh VX (Qh VX Qt))) (by with_unfolding_all rfl)) (Jw (Y0 (ZN PySem.F.plainAttrs_list PySem.F.slot_list_append PySem.F.type_list_append Zy (Zk Zf (Qp (i:=9) rfl (by first | exact Or.inl rfl | exact Or.inr (Or.inl rfl) | exact Or.inr (Or.inr rfl))) V6 (fun _ _=>rfl)) (Qh VX Qt)))) Yg))) (Jw (Y0 (ZN PySem.F.plainAttrs_list PySem.F.slot_list_append PySem.F.type_list_append Zy (Qp (i:=8) rfl (by first | exact Or.inl rfl | exact Or.inr (Or.inl rfl) | exact Or.inr (Or.inr rfl))) (Qh (SA (Qh VX (Qh (WM Qt) Qt))) Qt)))))))));exact (dn 2 Dz);exact (dn 5 Dz);refine PW.pt ?_;exact (Zc (Vv (Qg (dr (dc c_Lalike hr (dn 7 (dn 4 Dz)))))) (Zc (Vv (Qg (dr (dc c_Lalike hr (dn 8 (dn 1 Dz)))))) (Zc (dF hr (dv 2) (dv 1)) (JO (dF hr (dv 5) (dv 4))))));exact (So (QI (Yn (dr (ZQ (Yd hr.units) (dv 2) (dv 1) (J5 _))) (YS (ZQ (Yd hr.units) (dv 5) (dv 4) (J5 _)))))))
end
end
open PySem PySem.Spec PyProof.Rows L2 Wd
theorem walk {l:PySem.W.OpenLaw} {q:Program} {loose:List Str} {XP:(Str->Option Value)->Heap->Prop} {YP:World->Heap->Prop} {d:DefRec} {K:Params->PySem.W.Frag} (hn:l.most=some 63) (hdf:d.params.defaults=[])
  (hY:∀ (w:World) (h:Heap),YP w h->(K w.params).In h)
  (F:∀ (w:World) (mg:Str->Option Value) (fa:Addr) (h:Heap),(K w.params).In h->h.Ns mainGlobals mg->mg d.name=some (.ref fa) ->
   ∃ fd:FuncData,(∀ (s:Shared) (u:Value),BindsTo s fd ⟨[u],[]⟩ [("_law_script",u)])/\∀ base:Heap,(K w.params).In base->base.Ns mainGlobals mg->FnOk l.prog w (K w.params) mg base Qk 9 fa fd ["_law_script"] (spD (K w.params) Xn)) :
  PySem.W.WalkO q loose XP YP l.row.toRowW d [] (fun f vs=>PySem.call f vs) :=
 L2.walk_of (n:=63) (k:=9) (x:="_law_script") (CX:=fun _=>Qk) (sp:=fun w=>spD (K w.params) Xn) hn (by decide) hdf ⟨rfl,by decide,by decide⟩ hY F (fun w H a ns _ _ hS=>CS (K w.params) Xn CT H a ns hS) fun _ _ _ _ _ z=>z
end My

namespace Hd
open PySem PySem.W PySem.Calls PyProof.Rows My L2
theorem Ey (t:Thread):(endAt 0 t).isSome=through t:=by
 obtain ⟨cur,code,pos,st⟩:=t
 cases st with
 | nil =>
  cases cur with
  | pure x=>cases x <;> rfl
  | _=>rfl
 | cons a b=>rfl
theorem Qbw {tb:String->Option Builtin} {p:Program} {w:World} {n₀:Nat} {ann:Option Value} {n:Nat} {s s':Shared} {t:Thread} {f:Flow} {c:Code} {q:Pos}
  (h:segRun tb p w n₀ ann 0 n s t=some (f,s',c,q)):topRun tb p w n₀ ann n s t=some s':=by
 induction n generalizing s t with
 | zero=>contradiction
 | succ n ih =>
  unfold segRun at h
  unfold topRun
  rw [<- Ey]
  cases he:endAt 0 t with
  | some g =>
   rw [he] at h
   exact congrArg (Option.map fun r:Flow × Shared × Code × Pos=>r.2.1) h
  | none =>
   rw [he] at h
   cases hk:stepOk n₀ ann t with
   | false=>rw [hk] at h;contradiction
   | true =>
    rw [hk] at h
    cases hs:step (denote tb) p w s t with
    | halt o s₂=>rw [hs] at h;contradiction
    | go s₂ t₂=>rw [hs] at h;exact ih h
noncomputable def T0 (P:Params):BT:=(boot_heap P).objs.toList.foldl (fun x o=>(x.1.ins x.2 o,x.2 + 1)) (BT.nil,0) |>.1
noncomputable def Va (w:World) (os:OsState):SharedT:=⟨T0 w.params,11,{},Array.mk [],boot_drawn,boot_toks,os⟩
theorem Hh (w:World) (os:OsState):(Va w os).abs=⟨boot_heap w.params,Array.mk [],boot_drawn,boot_toks,os⟩:=by kernel_rfl
noncomputable def runs (p:Program) (M:Nat) (w:World) (os:OsState):Option Shared:=(segRunT treeTable p w 11 (some (.ref 6)) 0 M (Va w os) (topStub p)).map fun r=>r.2.1.abs
noncomputable def chk (p:Program) (w:World) (s:Shared):Bool:=staticsOk (importedModules p.main.body) (boot_heap w.params) s.heap && namesBound p s.heap && gensDone s && laidKept (boot_heap w.params) s.heap
theorem left {p q:Program} {loose:List Str} {Xt:Shared->Bool} {α:Type} {Yf:Shared->α} {Ya:World->α} {N:Nat} {g0:Bool} {M:Nat}
  (e:opening p=plainProg p.main.scope.names) (f:∀ s,fenceModules? p s=some s) (hN:Nat.ble 600 N=true) (le:Nat.ble M N=true)
  (size:∀ w:World,((boot_heap w.params).isNs mainGlobals,(boot_heap w.params).objs.size,(boot_heap w.params).nsMap mainGlobals "__annotations__")=(true,11,some (.ref 6)))
  (ra:∀ (w:World) (os:OsState),(runs p M w os).map (chk p w)=some true)
  (rb:∀ (w:World) (os:OsState),(runs p M w os).map (openSeen q loose (importedModules p.main.body) Xt g0)=some (openGood q loose))
  (rc:∀ (w:World) (os:OsState),(runs p M w os).map Yf=some (Ya w)) :
  LeftO p q loose Xt Yf Ya N g0:=fun w=>by
 obtain ⟨u,e1,e2⟩:=Option.map_eq_some_iff.mp (boot_open e hN f w)
 obtain ⟨v,r1,l1⟩:=Option.map_eq_some_iff.mp (ra w u.os)
 obtain ⟨⟨_,v',_⟩,r2,r3⟩:=Option.map_eq_some_iff.mp r1
 have l2:=rb w u.os
 have l3:=rc w u.os
 rw [r1] at l2 l3
 have hu:u=(Va w u.os).abs:=by
  rw [Hh]
  cases u
  cases e2
  rfl
 have go:=topRun_mono (N - M) _ _ _ _ (Qbw (segRun_of r2))
 rw [Nat.add_sub_of_le (Nat.le_of_ble_eq_true le)] at go
 have t:topFrom treeTable p w N u=some v:=by
  have z:=size w
  simp only [Prod.mk.injEq] at z
  rw [hu]
  unfold topFrom
  rw [Hh] at go ⊢
  simp only [z.1,z.2.1,z.2.2,go]
  simp only [<- r3] at l1 ⊢
  unfold chk at l1
  simp [l1]
 simp only [openEnds,e1,Option.bind_some,t,Option.map_some]
 rw [Option.some.inj l2,Option.some.inj l3]
abbrev p:=PySem.Challenge.pw_leastbook_k27_written_and_read
noncomputable section
def Pj (s:Stmt):Str:=match s with
 | .FunctionDef n _ _ _ _ _ _ _ _ _=>n
 | _=>""
def Qac (s:Stmt):Pos:=match s with
 | .FunctionDef _ _ _ _ _ _ _ _ _ p=>p
 | _=>⟨0,0,0,0⟩
abbrev m0:Value:=.str "leastbook.books" 373
abbrev m1:Value:=.str "leastbook.texts" 389
abbrev m2:Value:=.str "law_leastbook_k27_written_and_read" 583
def tb:List (Nat×Nat×Nat×Nat×Nat×Value):=
 [(10,160,375,379,1),(11,167,382,386,1)].map (fun x=>(x.1,x.2.1,x.2.2.1,x.2.2.2.1,x.2.2.2.2,m0))
 ++ [(13,172,391,394,0),(14,179,397,405,1),(15,184,408,411,0),(16,191,414,422,1),(17,198,425,429,1),(18,203,432,435,0),(19,210,438,442,1),(20,217,445,449,1),(21,224,452,456,1),(22,231,459,463,1),(23,238,466,470,1),(24,245,473,478,1),(25,252,481,486,1),(26,259,489,494,1),(27,266,497,502,1),(28,273,505,509,1),(29,280,512,518,1),(30,287,521,526,1),(31,294,529,533,1),(32,301,536,541,1),(33,308,544,548,1),(34,315,551,556,1),(35,322,559,564,1),(36,327,567,570,0),(37,334,573,580,1)].map (fun x=>(x.1,x.2.1,x.2.2.1,x.2.2.2.1,x.2.2.2.2,m1))
 ++ [(39,341,585,596,1),(40,348,599,605,1),(41,355,608,616,1),(42,362,619,624,1),(43,369,627,632,1),(44,374,635,638,0),(45,379,641,644,0),(46,384,647,650,0),(47,391,653,661,1),(48,396,664,667,0),(49,403,670,678,1),(50,410,681,685,1),(51,415,688,691,0),(52,420,694,697,0),(53,427,700,705,1),(54,434,708,713,1),(55,441,716,724,1),(56,448,727,733,1),(57,455,736,749,1)].map (fun x=>(x.1,x.2.1,x.2.2.1,x.2.2.2.1,x.2.2.2.2,m2))
def en (P:Params) (x:Str) (t:Nat) (v:Value):DictEntry:=⟨PyData.keyHash P x,.str x t,v⟩
def ns (P:Params):List DictEntry:=
 ([en P "__name__" 165 (.str "law_leastbook_k27_written_and_read" 583),en P "__doc__" 166 (.none),en P "__package__" 167 (.none),en P "__loader__" 168 (.builtin "__main__.__loader__#opaque"),en P "__spec__" 169 (.none),en P "__annotations__" 170 (.ref 6),en P "__builtins__" 171 (.ref 4),en P "__file__" 173 (.str "/claim/cut.py" 172),en P "__cached__" 174 (.none),en P "BookError" 206 (.ref 24),en P "NoStyle" 222 (.ref 37),en P "TooWide" 247 (.ref 56),en P "TooHigh" 272 (.ref 75),en P "Twice" 297 (.ref 94),en P "Loose" 322 (.ref 113),en P "NoLabel" 347 (.ref 132),en P "NoRow" 372 (.ref 151)])
 ++ (((tb.drop 0).take 46).map fun r=>en P (Pj (QZ r.1)) (r.2.2.2.1+2) (.ref r.2.1))
def ob (r:Nat×Nat×Nat×Nat×Nat×Value):List (Nat×Obj):=let (i,f,t,u,b,m):=r
 let s:=QZ i
 let x:=Pj s
 let l:Value:=.int (Qac s).line 0
 let c:Str:="/claim/cut.py"
 let n:Value:=.int 0 0
 [(f-1,⟨.type "code",none,.fields #[.str x t,.str x (t+1),.str c (t+2),l,.int (ZH s).args.length 0,n,n,.int 3 0,.ref (if b=1 then f-6 else f-4),.bool true,.int 181 0,.ref (if b=1 then f-5 else f-3),.none,if b=1 then .ref (f-4) else .none,if b=1 then .ref (f-3) else .none,.ref (f-2),.int u 0,l,.str c (u+1)],#[]⟩),
  (f,⟨.type "function",none,.func (fnOf x x (ZH s) (J9 s) (Q7 s) .none .none .none m none (.ref (f-1)) .none),#[]⟩)]
def xk (P:Params):List (Nat×Obj):=[
 (2,⟨.none,none,.dict #[] 0,#[]⟩),
 (24,⟨.type "type",none,.cls {name:="BookError",bases:=[.type "ValueError"],mro:=[.ref 24,.type "ValueError",.type "Exception",.type "BaseException",.type "object"],ns:=23,qualname:="BookError",hasDict:=true,slotNames:=[],subclasses:=[.ref 37,.ref 56,.ref 75,.ref 94,.ref 113,.ref 132,.ref 151],abstract:=false,collection:=none,hasDel:=false},#[some (.ref 15),none,some (.str "BookError" 189),some (.str "BookError" 197),some (.builtin "ValueError.__new__"),some (.bool true)]⟩),
 (23,⟨.type "dict",none,.dict #[en P "__module__" 196 (.str "leastbook.errors" 187),en P "__firstlineno__" 200 (.int 2 199),en P "__static_attributes__" 201 (.ref 22),en P "__weakref__" 203 (.ref 25),en P "__doc__" 204 (.none)] 3,#[]⟩),
 (37,⟨.type "type",none,.cls {name:="NoStyle",bases:=[.ref 24],mro:=[.ref 37,.ref 24,.type "ValueError",.type "Exception",.type "BaseException",.type "object"],ns:=36,qualname:="NoStyle",hasDict:=true,slotNames:=[],subclasses:=[],abstract:=false,collection:=none,hasDel:=false},#[some (.ref 28),none,some (.str "NoStyle" 207),some (.str "NoStyle" 215),some (.builtin "ValueError.__new__"),some (.bool true)]⟩),
 (36,⟨.type "dict",none,.dict #[en P "__module__" 214 (.str "leastbook.errors" 187),en P "__firstlineno__" 218 (.int 4 217),en P "__static_attributes__" 219 (.ref 35),en P "__doc__" 220 (.none)] 2,#[]⟩),
 (56,⟨.type "type",none,.cls {name:="TooWide",bases:=[.ref 24],mro:=[.ref 56,.ref 24,.type "ValueError",.type "Exception",.type "BaseException",.type "object"],ns:=55,qualname:="TooWide",hasDict:=true,slotNames:=[],subclasses:=[],abstract:=false,collection:=none,hasDel:=false},#[some (.ref 40),none,some (.str "TooWide" 223),some (.str "TooWide" 231),some (.builtin "ValueError.__new__"),some (.bool true)]⟩),
 (55,⟨.type "dict",none,.dict #[en P "__module__" 230 (.str "leastbook.errors" 187),en P "__firstlineno__" 234 (.int 6 233),en P "__init__" 242 (.ref 53),en P "__static_attributes__" 244 (.ref 54),en P "__doc__" 245 (.none)] 2,#[]⟩),
 (75,⟨.type "type",none,.cls {name:="TooHigh",bases:=[.ref 24],mro:=[.ref 75,.ref 24,.type "ValueError",.type "Exception",.type "BaseException",.type "object"],ns:=74,qualname:="TooHigh",hasDict:=true,slotNames:=[],subclasses:=[],abstract:=false,collection:=none,hasDel:=false},#[some (.ref 59),none,some (.str "TooHigh" 248),some (.str "TooHigh" 256),some (.builtin "ValueError.__new__"),some (.bool true)]⟩),
 (74,⟨.type "dict",none,.dict #[en P "__module__" 255 (.str "leastbook.errors" 187),en P "__firstlineno__" 259 (.int 11 258),en P "__init__" 267 (.ref 72),en P "__static_attributes__" 269 (.ref 73),en P "__doc__" 270 (.none)] 2,#[]⟩),
 (94,⟨.type "type",none,.cls {name:="Twice",bases:=[.ref 24],mro:=[.ref 94,.ref 24,.type "ValueError",.type "Exception",.type "BaseException",.type "object"],ns:=93,qualname:="Twice",hasDict:=true,slotNames:=[],subclasses:=[],abstract:=false,collection:=none,hasDel:=false},#[some (.ref 78),none,some (.str "Twice" 273),some (.str "Twice" 281),some (.builtin "ValueError.__new__"),some (.bool true)]⟩),
 (93,⟨.type "dict",none,.dict #[en P "__module__" 280 (.str "leastbook.errors" 187),en P "__firstlineno__" 284 (.int 16 283),en P "__init__" 292 (.ref 91),en P "__static_attributes__" 294 (.ref 92),en P "__doc__" 295 (.none)] 2,#[]⟩),
 (113,⟨.type "type",none,.cls {name:="Loose",bases:=[.ref 24],mro:=[.ref 113,.ref 24,.type "ValueError",.type "Exception",.type "BaseException",.type "object"],ns:=112,qualname:="Loose",hasDict:=true,slotNames:=[],subclasses:=[],abstract:=false,collection:=none,hasDel:=false},#[some (.ref 97),none,some (.str "Loose" 298),some (.str "Loose" 306),some (.builtin "ValueError.__new__"),some (.bool true)]⟩),
 (112,⟨.type "dict",none,.dict #[en P "__module__" 305 (.str "leastbook.errors" 187),en P "__firstlineno__" 309 (.int 21 308),en P "__init__" 317 (.ref 110),en P "__static_attributes__" 319 (.ref 111),en P "__doc__" 320 (.none)] 2,#[]⟩),
 (132,⟨.type "type",none,.cls {name:="NoLabel",bases:=[.ref 24],mro:=[.ref 132,.ref 24,.type "ValueError",.type "Exception",.type "BaseException",.type "object"],ns:=131,qualname:="NoLabel",hasDict:=true,slotNames:=[],subclasses:=[],abstract:=false,collection:=none,hasDel:=false},#[some (.ref 116),none,some (.str "NoLabel" 323),some (.str "NoLabel" 331),some (.builtin "ValueError.__new__"),some (.bool true)]⟩),
 (131,⟨.type "dict",none,.dict #[en P "__module__" 330 (.str "leastbook.errors" 187),en P "__firstlineno__" 334 (.int 26 333),en P "__init__" 342 (.ref 129),en P "__static_attributes__" 344 (.ref 130),en P "__doc__" 345 (.none)] 2,#[]⟩),
 (151,⟨.type "type",none,.cls {name:="NoRow",bases:=[.ref 24],mro:=[.ref 151,.ref 24,.type "ValueError",.type "Exception",.type "BaseException",.type "object"],ns:=150,qualname:="NoRow",hasDict:=true,slotNames:=[],subclasses:=[],abstract:=false,collection:=none,hasDel:=false},#[some (.ref 135),none,some (.str "NoRow" 348),some (.str "NoRow" 356),some (.builtin "ValueError.__new__"),some (.bool true)]⟩),
 (150,⟨.type "dict",none,.dict #[en P "__module__" 355 (.str "leastbook.errors" 187),en P "__firstlineno__" 359 (.int 31 358),en P "__init__" 367 (.ref 148),en P "__static_attributes__" 369 (.ref 149),en P "__doc__" 370 (.none)] 2,#[]⟩),
 (148,⟨.type "function",none,.func (fnOf "__init__" "NoRow.__init__" (ZH Ua) (J9 Ua) (Q7 Ua) .none .none .none (.str "leastbook.errors" 187) none (.ref 147) .none),#[]⟩),
 (147,⟨.type "code",none,.fields #[.str "__init__" 360,.str "NoRow.__init__" 361,.str "/claim/cut.py" 362,.int 33 0,.int 2 0,.int 0 0,.int 0 0,.int 3 0,.ref 142,.bool true,.int 181 0,.ref 143,.none,.ref 144,.ref 145,.ref 146,.int 365 0,.int 33 0,.str "/claim/cut.py" 366],#[]⟩)]
def K (P:Params):List (Nat×Obj):=(3,⟨.type "dict",none,.dict (ns P).toArray 63,#[]⟩)::(xk P++tb.flatMap ob)
def as:List Nat:=3::([2,24,23,37,36,56,55,75,74,94,93,113,112,132,131,151,150,148,147]++tb.flatMap (fun r=>[r.2.1-1,r.2.1]))
theorem GV (P:Params):as=(K P).map (·.1):=by kernel_rfl
abbrev rw_:=PySem.Challenge.rw_leastbook_k27_written_and_read.row
def vw:Program:=view p [57]
def ls:List Str:=(["BookError","NoStyle","TooWide","TooHigh","Twice","Loose","NoLabel","NoRow"]:List Str)++tb.dropLast.map fun r=>Pj (QZ r.1)
def Xt (s:Shared):Bool:=xlAt vw [] s&&recOk (RowW.records rw_.toRowW) s
abbrev rn:=Hd.runs p 6566
def ha (w:World) (os:OsState):=(rn w os).map (Hd.chk p w)
def hb (w:World) (os:OsState):=(rn w os).map (openSeen vw ls (importedModules p.main.body) Xt true)
def hc (w:World) (os:OsState):=(rn w os).map fun s=>as.map s.heap.get?
def wb:=some (openGood vw ls)
def wc (w:World):=some ((K w.params).map fun p=>some p.2)
theorem ha_r:ha=ha:=rfl
theorem hb_r:hb=hb:=rfl
theorem hc_r:hc=hc:=rfl
theorem wb_r:wb=wb:=rfl
theorem wc_r:wc=wc:=rfl
end
section
variable {P:Params} {h:Heap} {mg:Str->Option Value} {x:Str} {st:Stmt} {ps:List Str} {y:Str} {fa:Addr}
abbrev fx (P:Params) (x:Str) (f:Nat):=(nsIn (K P) mainGlobals x,List.lookup f (K P),codeIn (K P) (.ref (f-1)) x,keepIn (K P) (.ref f))
abbrev fw (x:Str) (st:Stmt) (f:Nat) (m:Value):Option (Option Value)×Option Obj×Bool×Bool:=(some (some (.ref f)),some ⟨.type "function",none,.func (fnOf x x (ZH st) (J9 st) (Q7 st) .none .none .none m none (.ref (f-1)) .none),#[]⟩,true,true)
theorem dk (f:Nat) (m:Value) (X:Frag.In (K P) h) (G:h.Ns mainGlobals mg) (hb:∀ (kV doc pm:Value) (an:Option Addr) (cdv ct:Value) (us:List Value),us.length=ps.length->bindArgs (fnOf x x (ZH st) (J9 st) (Q7 st) .none kV doc pm an cdv ct) ⟨us,[]⟩=pure (ps.zip us):=by intro _ _ _ _ _ _ us hl;rcases us with _|⟨_,_|⟨_,_|⟨_,_|⟨_,_|⟨_,_|⟨_,_⟩⟩⟩⟩⟩⟩<;>first | (exfalso;simp at hl;done) | rfl)
  (e:fx P x f=fw x st f m:=by kernel_rfl):Wd.Df (K P) mg x st ps:=by
 obtain ⟨a,l,c,k⟩:_/\_/\_/\_:=by simpa only [Prod.mk.injEq] using e
 exact Wd.df_mk X G hb a l c k
variable (X:Frag.In (K P) h) (G:h.Ns mainGlobals mg)
include X G
theorem ED:Wd.Df (K P) mg "label_of" OV WG:=dk 160 m0 X G
theorem Lg:Wd.Df (K P) mg "items_of" SX VS:=dk 167 m0 X G
theorem EC:Wd.Df (K P) mg "item_rows" SW VR:=dk 172 m1 X G
theorem E5:Wd.Df (K P) mg "first_row" OP UH:=dk 179 m1 X G
theorem E4:Wd.Df (K P) mg "block_rows" SU UG:=dk 184 m1 X G
theorem Li:Wd.Df (K P) mg "written" Sb WK:=dk 191 m1 X G
theorem E9:Wd.Df (K P) mg "is_sign" OS WC:=dk 198 m1 X G
theorem E7:Wd.Df (K P) mg "is_label" SV VQ:=dk 203 m1 X G
theorem E6:Wd.Df (K P) mg "is_block_label" OQ WA:=dk 210 m1 X G
theorem EB:Wd.Df (K P) mg "is_word" OU WE:=dk 217 m1 X G
theorem EA:Wd.Df (K P) mg "is_title" OT WD:=dk 224 m1 X G
theorem E8:Wd.Df (K P) mg "is_number" OR WB:=dk 231 m1 X G
theorem EM:Wd.Df (K P) mg "read_label" Od WJ:=dk 238 m1 X G
theorem EJ:Wd.Df (K P) mg "read_chapter" Oa UI:=dk 245 m1 X G
theorem EK:Wd.Df (K P) mg "read_heading" Ob UJ:=dk 252 m1 X G
theorem ER:Wd.Df (K P) mg "read_table" Og UN:=dk 259 m1 X G
theorem EN:Wd.Df (K P) mg "read_plates" Oe UL:=dk 266 m1 X G
theorem EI:Wd.Df (K P) mg "read_block" OZ WI:=dk 273 m1 X G
theorem EO:Wd.Df (K P) mg "read_ref" Of UM:=dk 280 m1 X G
theorem EL:Wd.Df (K P) mg "read_item" Oc UK:=dk 287 m1 X G
theorem Lh:Wd.Df (K P) mg "rows_of_last" Sa VT:=dk 294 m1 X G
theorem EG:Wd.Df (K P) mg "notes_of_last" OX Pr:=dk 301 m1 X G
theorem EE:Wd.Df (K P) mg "lacks_row" OW WH:=dk 308 m1 X G
theorem E2:Wd.Df (K P) mg "add_text" OO S7:=dk 315 m1 X G
theorem Fy:Wd.Df (K P) mg "add_item" ON S5:=dk 322 m1 X G
theorem E1:Wd.Df (K P) mg "add_row" SS S6:=dk 327 m1 X G
theorem EH:Wd.Df (K P) mg "read" OY S8:=dk 334 m1 X G
theorem Fi:Wd.Df (K P) mg "_law_draws" OE U5:=dk 341 m2 X G
theorem FW:Wd.Df (K P) mg "_law_alike" OA Xz:=dk 348 m2 X G
theorem Fw:Wd.Df (K P) mg "_law_text" OK UD:=dk 355 m2 X G
theorem Ft:Wd.Df (K P) mg "_law_row" OI UB:=dk 362 m2 X G
theorem Fx:Wd.Df (K P) mg "_law_title" OM UE:=dk 369 m2 X G
theorem Fo:Wd.Df (K P) mg "_law_label" SQ U8:=dk 374 m2 X G
theorem FY:Wd.Df (K P) mg "_law_block" SK U1:=dk 379 m2 X G
theorem Fj:Wd.Df (K P) mg "_law_item" SN U6:=dk 384 m2 X G
theorem Ff:Wd.Df (K P) mg "_law_closed" OC U3:=dk 391 m2 X G
theorem FZ:Wd.Df (K P) mg "_law_book" SM U2:=dk 396 m2 X G
theorem Fh:Wd.Df (K P) mg "_law_copy" OD U4:=dk 403 m2 X G
theorem Fv:Wd.Df (K P) mg "_law_tag" OJ W9:=dk 410 m2 X G
theorem Fm:Wd.Df (K P) mg "_law_item_rows" SO VP:=dk 415 m2 X G
theorem Fu:Wd.Df (K P) mg "_law_rows" SR UC:=dk 420 m2 X G
theorem Fn:Wd.Df (K P) mg "_law_kind" OF U7:=dk 427 m2 X G
theorem FX:Wd.Df (K P) mg "_law_barred" OB U0:=dk 434 m2 X G
theorem Fp:Wd.Df (K P) mg "_law_plain" OG U9:=dk 441 m2 X G
theorem Fs:Wd.Df (K P) mg "_law_refused" OH UA:=dk 448 m2 X G
theorem EF (hm:mg "law"=some (.ref fa)):∃ fd,(∀ (s:Shared) (u:Value),BindsTo s fd ⟨[u],[]⟩ [("_law_script",u)])/\L2.Fun (K P) "law" "law" SY fa fd:=by
 have e:fx P "law" 455=fw "law" SY 455 m2:=by kernel_rfl
 obtain ⟨a,l,c,k⟩:_/\_/\_/\_:=by simpa only [Prod.mk.injEq] using e
 exact Wd.law_mk X G hm (fun _ _ _ _ _ _ u=>rfl) a l c k
theorem Qcr:∃ C CB f fd,Wd.XDf (K P) mg "NoRow" "NoRow.__init__" 6 Ua C CB f fd:=Wd.XDf.of (C:=151) (CB:=24) (f:=148) (oc:=.type "function") (od:=none) (kV:=.none) (dc:=.none) (pm:=.str "leastbook.errors" 187) (an:=none) (cd:=.ref 147) (ct:=.none) (osl:=#[]) X G (fun us hl=>by obtain ⟨_,_,rfl⟩:=Wd.two hl;rfl) (by kernel_rfl) (by kernel_rfl) (by kernel_rfl)
theorem txt:Txt (K P) mg:=⟨mg_none_of X G (by kernel_rfl),mg_none_of X G (by kernel_rfl),mg_none_of X G (by kernel_rfl),mg_none_of X G (by kernel_rfl),mg_none_of X G (by kernel_rfl),mg_none_of X G (by kernel_rfl),mg_none_of X G (by kernel_rfl),mg_none_of X G (by kernel_rfl),mg_none_of X G (by kernel_rfl),mg_none_of X G (by kernel_rfl),mg_none_of X G (by kernel_rfl),mg_none_of X G (by kernel_rfl),mg_none_of X G (by kernel_rfl),mg_of X G (by kernel_rfl),mg_of X G (by kernel_rfl),mg_of X G (by kernel_rfl),mg_of X G (by kernel_rfl),mg_of X G (by kernel_rfl),mg_of X G (by kernel_rfl),mg_of X G (by kernel_rfl),Wd.xt_of (CB:=24) (mg_of X G (by kernel_rfl)) (by kernel_rfl),Wd.xr_of (by kernel_rfl),trivial⟩
end
end Hd
open PySem PySem.W PyProof.Rows
name_quick haQ for Hd.ha by Hd.ha_r
name_quick hbQ for Hd.hb by Hd.hb_r
name_quick hcQ for Hd.hc by Hd.hc_r
name_quick wbQ for Hd.wb by Hd.wb_r
name_quick wcQ for Hd.wc by Hd.wc_r

namespace Hd
theorem oa (w:World) (os:OsState):Fast.haQ w os=some true:=by kernel_rfl
theorem oz (w:World) (os:OsState):Fast.hbQ w os=Fast.wbQ:=by kernel_rfl
theorem oc (w:World) (os:OsState):Fast.hcQ w os=Fast.wcQ w:=by kernel_rfl
theorem pa (w:World) (os:OsState):ha w os=some true:=by rw [Fast.haQ_eq];exact oa w os
theorem pb (w:World) (os:OsState):hb w os=wb:=by rw [Fast.hbQ_eq,Fast.wbQ_eq];exact oz w os
theorem pc (w:World) (os:OsState):hc w os=wc w:=by rw [Fast.hcQ_eq,Fast.wcQ_eq];exact oc w os
theorem hl:LeftO p vw ls Xt (fun s=>as.map s.heap.get?) (fun w=>(K w.params).map fun p=>some p.2) 6566:=
 left (M:=6566) (by kernel_rfl) (fun s=>by kernel_rfl) rfl rfl (fun w=>by kernel_rfl) pa pb pc
end Hd
open Hd My
set_option maxRecDepth 100000 in
set_option maxHeartbeats 0 in
theorem PySem.Challenge.cw_leastbook_k27_written_and_read_holds : PySem.Challenge.rw_leastbook_k27_written_and_read.Holds := by
 w_on;o_law
 refine holds_open (q:=vw) (loose:=ls) (Xt:=Hd.Xt) (XP:=XL vw []) (YP:=InK K) hl (InK.of GV) InK.keeps (fun s e=>xl_of s (Bool.and_eq_true_iff.mp e).1) XL.keeps rfl rfl rfl
  (fun s e=>recFacts_of (Bool.and_eq_true_iff.mp e).2) rfl ‹_› (by decide +kernel) ⟨rfl,rfl,rfl,rfl,rfl,by decide +kernel⟩ ?hw ?hc
 case hw=>w_witness2
 refine My.walk (l:=PySem.Challenge.rw_leastbook_k27_written_and_read) rfl rfl (fun w h Y=>Y) ?F
 intro w mg fa h X G hmg
 have T:=txt X G
 obtain ⟨fd,hb,F⟩:=EF X G hmg
 refine ⟨fd,hb,fun b kb nb=>?_⟩
 have c_NoRow:=BZ (P:=p) (w:=w) (base:=b) (Qcr X G)
 have c_label_of:=Bq (P:=p) (w:=w) (base:=b) (ED X G) T
 have c_items_of:=Bn (P:=p) (w:=w) (base:=b) (Lg X G) T
 have c_items_ofA:=Bp (P:=p) (w:=w) (base:=b) (Lg X G) T
 have c_item_rows:=Bm (P:=p) (w:=w) (base:=b) (EC X G) T
 have c_first_row:=Be (P:=p) (w:=w) (base:=b) (E5 X G) T c_label_of
 have c_block_rows:=Bd (P:=p) (w:=w) (base:=b) (E4 X G) T c_first_row c_item_rows c_items_of
 have c_written:=A5 (P:=p) (w:=w) (base:=b) (Li X G) T c_NoRow c_block_rows
 have c_writtenO:=A6 (P:=p) (w:=w) (base:=b) (Li X G) T c_block_rows
 have c_is_sign:=Bi (P:=p) (w:=w) (base:=b) (E9 X G) T
 have c_is_label:=Bg (P:=p) (w:=w) (base:=b) (E7 X G) T
 have c_is_block_label:=Bf (P:=p) (w:=w) (base:=b) (E6 X G) T c_is_label
 have c_is_word:=Bl (P:=p) (w:=w) (base:=b) (EB X G) T
 have c_is_title:=Bj (P:=p) (w:=w) (base:=b) (EA X G) T
 have c_is_number:=Bh (P:=p) (w:=w) (base:=b) (E8 X G) T
 have c_read_label:=Bz (P:=p) (w:=w) (base:=b) (EM X G) T
 have c_read_chapter:=Bw (P:=p) (w:=w) (base:=b) (EJ X G) T c_is_block_label c_is_title c_read_label
 have c_read_heading:=Bx (P:=p) (w:=w) (base:=b) (EK X G) T c_is_block_label c_is_number c_is_title c_read_label
 have c_read_table:=A2 (P:=p) (w:=w) (base:=b) (ER X G) T c_is_block_label c_read_label
 have c_read_plates:=A0 (P:=p) (w:=w) (base:=b) (EN X G) T c_is_block_label c_is_number c_read_label
 have c_read_block:=Bv (P:=p) (w:=w) (base:=b) (EI X G) T c_read_chapter c_read_heading c_read_plates c_read_table
 have c_read_ref:=A1 (P:=p) (w:=w) (base:=b) (EO X G) T c_is_label
 have c_read_item:=By (P:=p) (w:=w) (base:=b) (EL X G) T c_is_label c_is_word c_read_ref
 have c_rows_of_last:=A3 (P:=p) (w:=w) (base:=b) (Lh X G) T
 have c_rows_of_lastA:=A4 (P:=p) (w:=w) (base:=b) (Lh X G) T
 have c_notes_of_last:=Bt (P:=p) (w:=w) (base:=b) (EG X G) T c_items_ofA
 have c_lacks_row:=Br (P:=p) (w:=w) (base:=b) (EE X G) T c_rows_of_last
 have c_add_text:=Bc (P:=p) (w:=w) (base:=b) (E2 X G) T
 have c_add_item:=Ba (P:=p) (w:=w) (base:=b) (Fy X G) T
 have c_add_row:=Bb (P:=p) (w:=w) (base:=b) (E1 X G) T c_add_item c_add_text c_is_sign c_lacks_row c_notes_of_last c_read_block c_read_item c_rows_of_lastA
 have c_read:=Bu (P:=p) (w:=w) (base:=b) (EH X G) T c_add_row c_lacks_row
 have c_Ldraws:=BK (P:=p) (w:=w) (base:=b) (Fi X G) T
 have c_Lalike:=BD (P:=p) (w:=w) (base:=b) (FW X G) T
 have c_Ltext:=BX (P:=p) (w:=w) (base:=b) (Fw X G) T
 have c_Lrow:=BU (P:=p) (w:=w) (base:=b) (Ft X G) T c_Ltext
 have c_Ltitle:=BY (P:=p) (w:=w) (base:=b) (Fx X G) T c_Ltext
 have c_Llabel:=BQ (P:=p) (w:=w) (base:=b) (Fo X G) T
 have c_Lblock:=BF (P:=p) (w:=w) (base:=b) (FY X G) T c_Lrow c_Ltitle
 have c_Litem:=BN (P:=p) (w:=w) (base:=b) (Fj X G) T c_Lrow c_Ltext
 have c_Lclosed:=BI (P:=p) (w:=w) (base:=b) (Ff X G) T c_Ltext
 have c_Lbook:=BG (P:=p) (w:=w) (base:=b) (FZ X G) T c_Lblock c_Lclosed c_Ldraws c_Litem c_Llabel
 have c_Lcopy:=BJ (P:=p) (w:=w) (base:=b) (Fh X G) T
 have c_Ltag:=BW (P:=p) (w:=w) (base:=b) (Fv X G) T
 have c_Litem_rows:=BO (P:=p) (w:=w) (base:=b) (Fm X G) T
 have c_Lrows:=BV (P:=p) (w:=w) (base:=b) (Fu X G) T c_Litem_rows c_Ltag
 have c_Lkind:=BP (P:=p) (w:=w) (base:=b) (Fn X G) T
 have c_Lbarred:=BE (P:=p) (w:=w) (base:=b) (FX X G) T
 have c_Lplain:=BR (P:=p) (w:=w) (base:=b) (Fp X G) T
 have c_Lrefused:=BS (P:=p) (w:=w) (base:=b) (Fs X G) T c_Lkind c_written
 exact Bs F T c_Lalike c_Lbarred c_Lbook c_Lcopy c_Lplain c_Lrefused c_Lrows c_read c_writtenO
#print axioms PySem.Challenge.cw_leastbook_k27_written_and_read_holds
