import PyProof.Rows.All
import Wide.All
import OpenK.AllK
import Wide.FinOn
import Lean
import PyProof.EqAt
import PyProof.EqKinds
import PyProof.TupleCall
import PyProof.NeKinds
import PyProof.ZipIter
import KE.KDictList
import KE.KItemsList
import PyProof.ExcClass2
import PyProof.ExcInit
import PyProof.ExcBaseAll.ValueError
import PyProof.ExcAttrAll.ValueError
import OpenK.KOwn
import PySem.Challenge.RW_leastbook_k12_most_pages
set_option maxHeartbeats 4000000
set_option Elab.async false
set_option linter.all false
set_option maxRecDepth 100000
open List(filterMap_cons mem_cons_self mem_cons_of_mem getElem?_set_self getElem?_set_ne mem_append_right append_nil of_mem_zip length_take getElem?_append_right getElem?_replicate getElem?_append_left getElem?_map length_append length_map length_replicate size_toArray length_drop map_nil map_cons all_cons any_cons replicate_succ flatten_cons append_assoc foldl_cons length_singleton nil_append find?_cons length_cons length_nil filter_cons all_map getElem?_eq_getElem mem_cons length_set getElem?_eq_none drop_zero drop_eq_nil_of_le getElem?_cons_succ lookup_cons length_range take_length getD_eq_getElem?_getD getElem_mem all_eq_true mem_singleton set_set foldl_append map_map map_append zipIdx_cons flatMap_cons take_succ_eq_append_getElem flatMap_append length_filter_le getElem?_cons_zero not_mem_nil sum_cons any_map)
open Nat(lt_of_lt_of_le lt_irrefl ne_of_lt le_trans le_of_lt ne_of_gt le_refl lt_trans zero_le succ_le_succ lt_or_ge le_succ lt_succ_of_lt le_add_left)
open Int(emod_nonneg emod_lt_of_pos zero_add one_mul)
open Array(length_toList)
open Bool(and_eq_true)
open Option(getD_none isSome_map map_some bind_some join_some)
noncomputable section
namespace L2
open PySem PySem.Spec PyProof.Rows
abbrev Key:=Sum Int Str
noncomputable def Qei:Key->Value->Bool|.inl k,v=>Value.isInt k v|.inr x,v=>Value.isStrOf x v
noncomputable def QtY(w:World):Key->Int|.inl k=>hashInt k|.inr x=>hashStr w x
theorem Zp:∀{k:Key}{v:Value},Qei k v=true->(∃i t,k=Sum.inl i/\v=Value.int i t)\/∃x t,k=Sum.inr x/\v=Value.str x t|.inl i,v,h=>by obtain⟨t,e⟩:=Value.isInt_shape (k:=i) (v:=v) h;exact .inl ⟨i,t,rfl,e⟩|.inr x,v,h=>by obtain⟨t,e⟩:=Value.isStrOf_shape (x:=x) (v:=v) h;exact .inr ⟨x,t,rfl,e⟩
theorem Qnk(i:Int)(t:Tok):Qei (.inl i) (.int i t)=true:=by simp[Qei,Value.isInt]
theorem Qnj(x:Str)(t:Tok):Qei (.inr x) (.str x t)=true:=by simp[Qei,Value.isStrOf]
theorem Qsl(a b:Int):decide ((Sum.inl a:Key)=Sum.inl b)=(a==b):=by
 by_cases e:a=b;·subst e;simp
 ·have h:¬(Sum.inl a:Key)=Sum.inl b:=λq=>e (Sum.inl.inj q);rw[decide_eq_false h];exact(beq_eq_false_iff_ne.mpr e).symm
theorem Qsi(a b:Str):decide ((Sum.inr a:Key)=Sum.inr b)=decide (a=b):=by
 by_cases e:a=b;·subst e;simp
 ·have h:¬(Sum.inr a:Key)=Sum.inr b:=λq=>e (Sum.inr.inj q);rw[decide_eq_false h,decide_eq_false e]
theorem Qsk(a:Int)(b:Str):decide ((Sum.inl a:Key)=Sum.inr b)=false:=decide_eq_false λq=>nomatch q
theorem Qsj(a:Str)(b:Int):decide ((Sum.inr a:Key)=Sum.inl b)=false:=decide_eq_false λq=>nomatch q
def ZP(prog:Program)(w:World):PySem.KeyKind prog w Key where
 is:=Qei
 hash:=QtY w
 inj:=λv a b ha hb=>by
  rcases Zp ha with⟨i,t,rfl,rfl⟩|⟨x,t,rfl,rfl⟩
  ·rcases Zp hb with⟨j,u,rfl,e⟩|⟨y,u,rfl,e⟩;·injection e with e1 _;rw[e1]
   ·exact nomatch e
  ·rcases Zp hb with⟨j,u,rfl,e⟩|⟨y,u,rfl,e⟩;·exact nomatch e
   ·injection e with e1 _;rw[e1]
 byValue:=λk v h=>by rcases Zp h with⟨i,t,rfl,rfl⟩|⟨x,t,rfl,rfl⟩<;>rfl
 pyHash:=λhv h=>by
  rcases Zp hv with⟨i,t,rfl,rfl⟩|⟨x,t,rfl,rfl⟩;·exact wpAny_pyHash_int h
  ·exact wpAny_pyHash_str h
 eqBool:=λhu hv h=>by
  rcases Zp hu with⟨i,t,rfl,rfl⟩|⟨x,t,rfl,rfl⟩
  ·rcases Zp hv with⟨j,u,rfl,rfl⟩|⟨y,u,rfl,rfl⟩;·rw[Qsl]at h;exact wpAny_eqBool_int h
   ·rw[Qsk]at h;exact SeqAt.EqAt.int_str i t y u _ _ _ _ h
  ·rcases Zp hv with⟨j,u,rfl,rfl⟩|⟨y,u,rfl,rfl⟩;·rw[Qsj]at h;exact SeqAt.EqAt.str_int x t j u _ _ _ _ h
   ·rw[Qsi]at h;exact wpAny_eqBool_str h
 «strs»:=λk x t v h=>by
  rcases Zp h with⟨i,u,rfl,e⟩|⟨y,u,rfl,e⟩;·exact nomatch e
  ·injection e with e1 _;subst e1;cases v<;>rfl
theorem QjT(prog:Program)(w:World)(i:Int)(t:Tok):(ZP prog w).is (.inl i) (.int i t)=true:=Qnk i t
theorem QjS(prog:Program)(w:World)(x:Str)(t:Tok):(ZP prog w).is (.inr x) (.str x t)=true:=Qnj x t
inductive V where|non|bl(b:Bool)|int(i:Int)|str(x:Str)|byt(b:Array UInt8)|flt(b:UInt64)|ref(a:Addr)|ty(n:String)deriving DecidableEq
noncomputable def RelV:V->Value->Prop|.non,u=>u=Value.none|.bl b,u=>u=Value.bool b|.int i,u=>∃t,u=Value.int i t|.str x,u=>∃t,u=Value.str x t|.byt b,u=>∃t,u=Value.bytes b t|.flt b,u=>∃t,u=Value.float b t|.ref a,u=>u=Value.ref a|.ty n,u=>u=Value.type n
abbrev Vals:List V->List Value->Prop:=Paired RelV
theorem Vals.length{xs:List V}{us:List Value}(r:Vals xs us):xs.length=us.length:=Paired.length r
theorem Vals.get:∀{xs:List V}{us:List Value}{i:Nat}{x:V},Vals xs us->xs[i]?=some x->∃u,us[i]?=some u/\RelV x u|_,_,_,_,.nil,e=>by simp at e|_,_,0,_,.cons r _,e=>by simp at e;subst e;exact⟨_,rfl,r⟩|_,_,i+1,x,.cons _ t,e=>by obtain⟨u,h1,h2⟩:=Vals.get (i:=i) (x:=x) t (by simpa using e);exact⟨u,by simpa using h1,h2⟩
theorem Vals.set{x:V}{u:Value}(r:RelV x u):∀{xs:List V}{us:List Value}(i:Nat),Vals xs us->Vals (xs.set i x) (us.set i u)|_,_,_,.nil=>.nil|_,_,0,.cons _ t=>.cons r t|_,_,i+1,.cons q t=>.cons q (Vals.set r i t)
theorem Vals.append:∀{xs ys:List V}{us ws:List Value},Vals xs us->Vals ys ws->Vals (xs++ys) (us++ws)|_,_,_,_,.nil,s=>s|_,_,_,_,.cons r t,s=>.cons r (Vals.append t s)
theorem Vals.take:∀{xs:List V}{us:List Value}(n:Nat),Vals xs us->Vals (xs.take n) (us.take n)|_,_,0,_=>.nil|_,_,_+1,.nil=>.nil|_,_,n+1,.cons r t=>.cons r (Vals.take n t)
theorem Vals.drop:∀{xs:List V}{us:List Value}(n:Nat),Vals xs us->Vals (xs.drop n) (us.drop n)|_,_,0,r=>r|_,_,_+1,.nil=>.nil|_,_,n+1,.cons _ t=>Vals.drop n t
def RelO:Option V->Option Value->Prop|some v,some u=>RelV v u|none,none=>True|_,_=>False
def KV{κ:Type}:List (κ×V)->List (κ×Value)->Prop:=Paired λ(p:κ×V)(q:κ×Value)=>p.1=q.1/\RelV p.2 q.2
noncomputable def kV:Key->V|.inl i=>.int i|.inr x=>.str x
inductive HO where|lst(xs:List V)|tup(xs:List V)|dK(aj:List (Key×V))|dT(aj:List (List Key×V))|set(S:Int->Bool)(n:Nat)|ins(C dx:Addr)(fs:List (Str×V))|own(x:Addr)|xd(fs:List (Str×V))|met(f x:Addr)|rng(lo hi:Int)|frz(o:Obj)(u:HO)|tbl(ps:Array Value)|ext(φ:Heap->Prop)
abbrev Hp:=Addr->Option HO
noncomputable def upd(H:Hp)(a:Addr)(o:HO):Hp:=λb=>if b=a then some o else H b
theorem QB{H:Hp}{a:Addr}{o:HO}:upd H a o a=some o:=by unfold upd;rw[if_pos rfl]
theorem Qt{H:Hp}{a b:Addr}{o:HO}(h:b≠a):upd H a o b=H b:=by unfold upd;rw[if_neg h]
theorem QpW{H:Hp}{a:Addr}{o u:HO}:upd (upd H a o) a u=upd H a u:=by funext b;unfold upd;split<;>rfl
theorem Qte{H:Hp}{a b:Addr}{o u:HO}(h:H a=some o)(h':H b=some u)(d:o≠u):a≠b:=by intro e;subst e;rw[h]at h';exact d (Option.some.inj h')
theorem JF{H:Hp}{a b:Addr}{o:HO}(h:H a=some o)(h':H b=none):a≠b:=by intro e;subst e;rw[h]at h';cases h'
section
variable(P:Program)(w:World)
def ObjOk(H:Hp)(h:Heap)(a:Addr):HO->Prop|.lst xs=>xs.length<=sizeLine/\∃(its:List Value)(n:Nat),Vals xs its/\h.get? a=some {cls:=.type "list",data:=.seq its.toArray n}|.tup xs=>xs.length<=sizeLine/\∃its:List Value,Vals xs its/\IsTup h a its.toArray|.dK aj=>aj.length<=sizeLine/\(a==sysModules)=false/\∃vs,KV aj vs/\h.DictOf (ZP P w) a vs|.dT aj=>aj.length<=sizeLine/\(a==sysModules)=false/\∃xs:List (List Key×Addr×Value),Paired (λ(p:List Key×V)(q:List Key×Addr×Value)=>p.1=q.1/\H q.2.1=some (.tup (p.1.map kV))/\RelV p.2 q.2.2) aj xs/\∃o es ep,h.get? a=some o/\o.ExactDict/\o.data=.dict es ep/\es.toList=xs.map (entryOfKey (tupleKind (ZP P w)))/\(xs.map (·.1)).Nodup|.set S n=>h.SetOf (intKind P w) a S n|.ins C dx fs=>H dx=some (.own a)/\fs.length<=1000/\dx≠a/\h.get? a=some (W.instObj C dx)/\∃mA,h.Ns1 dx mA/\(∀f,RelO (fs.lookup f) (mA f))/\PySem.Within mA (fs.map (·.1))|.own _=>∃o,h.get? a=some o|.xd fs=>∃mA,h.Ns1 a mA/\∀f,RelO (fs.lookup f) (mA f)|.rng lo hi=>∃t u v,h.get? a=some {cls:=.type "range",data:=.fields #[.int lo t,.int hi u,.int 1 v]}|.frz o u=>h.get? a=some o/\ObjOk H h a u|.tbl ps=>h.get? a=some {cls:=.none,data:=.fields ps}|.met f x=>h.get? a=some (W.methodObj (.ref f) (.ref x))|.ext φ=>φ h/\(∃o,h.get? a=some o)/\∀h1 h2:Heap,φ h1->(∀o,h1.get? a=some o->h2.get? a=some o)->φ h2
def HOk(H:Hp)(h:Heap):Prop:=∀a o,H a=some o->ObjOk P w H h a o
end
section
variable{P:Program}{w:World}{H H':Hp}{h h':Heap}{a:Addr}{o:HO}
theorem ObjOk.lt(x:ObjOk P w H h a o):a<h.objs.size:=by cases o with|lst xs=>obtain⟨_,_,_,_,e⟩:=x;exact Heap.lt_size e|tup xs=>obtain⟨_,_,_,p⟩:=x;exact p.lt|dK aj=>obtain⟨_,_,_,_,o,_,_,e,_⟩:=x;exact Heap.lt_size e|dT aj=>obtain⟨_,_,_,_,o,_,_,e,_⟩:=x;exact Heap.lt_size e|set S n=>obtain⟨o,_,_,_,e,_⟩:=x;exact Heap.lt_size e|ins C dx fs=>obtain⟨_,_,_,e,_⟩:=x;exact Heap.lt_size e|own y=>obtain⟨_,e⟩:=x;exact Heap.lt_size e|xd fs=>obtain⟨_,⟨_,_,_,e,_⟩,_⟩:=x;exact Heap.lt_size e|rng lo hi=>obtain⟨_,_,_,e⟩:=x;exact Heap.lt_size e|frz ob u=>obtain⟨e,_⟩:=x;exact Heap.lt_size e|tbl ps=>exact Heap.lt_size (show h.get? a=some _ from x)|met f y=>exact Heap.lt_size (show h.get? a=some _ from x)|ext φ=>obtain⟨_,⟨_,e⟩,_⟩:=x;exact Heap.lt_size e
theorem Paired.mapP{α β:Type}{F G:α->β->Prop}:∀{l₁:List α}{l₂:List β},Paired F l₁ l₂->(∀a b,F a b->G a b)->Paired G l₁ l₂|_,_,.nil,_=>.nil|_,_,.cons r t,f=>.cons (f _ _ r) (Paired.mapP t f)
theorem ObjOk.stay(x:ObjOk P w H h a o)(k:∀b u,(b=a\/H b=some (.own a))->h.get? b=some u->h'.get? b=some u)(ho:∀b,H b=some (.own a)->H' b=some (.own a))(ht:∀b xs,H b=some (.tup xs)->H' b=some (.tup xs)):ObjOk P w H' h' a o:=by induction o with|lst xs=>obtain⟨z,its,n,r,e⟩:=x;exact⟨z,its,n,r,k _ _ (.inl rfl) e⟩|tup xs=>obtain⟨z,its,r,ob,e,c⟩:=x;exact⟨z,its,r,ob,k _ _ (.inl rfl) e,c⟩|dK aj=>obtain⟨z,y,vs,r,ob,es,ep,e,c⟩:=x;exact⟨z,y,vs,r,ob,es,ep,k _ _ (.inl rfl) e,c⟩|dT aj=>obtain⟨z,y,xs,r,ob,es,ep,e,c⟩:=x;exact⟨z,y,xs,Paired.mapP r λp q z=>⟨z.1,ht _ _ z.2.1,z.2.2⟩,ob,es,ep,k _ _ (.inl rfl) e,c⟩|set S n=>obtain⟨ob,es,ep,t,e,c⟩:=x;exact⟨ob,es,ep,t,k _ _ (.inl rfl) e,c⟩|ins C dx fs=>obtain⟨d,z,ne,e,mA,⟨od,es,ep,e2,c⟩,r⟩:=x;exact⟨ho _ d,z,ne,k _ _ (.inl rfl) e,mA,⟨od,es,ep,k _ _ (.inr d) e2,c⟩,r⟩|own y=>obtain⟨ob,e⟩:=x;exact⟨ob,k _ _ (.inl rfl) e⟩|xd fs=>obtain⟨mA,⟨od,es,ep,e,c⟩,r⟩:=x;exact⟨mA,⟨od,es,ep,k _ _ (.inl rfl) e,c⟩,r⟩|rng lo hi=>obtain⟨t,u,v,e⟩:=x;exact⟨t,u,v,k _ _ (.inl rfl) e⟩|frz ob u ih=>obtain⟨e,q⟩:=x;exact⟨k _ _ (.inl rfl) e,ih q⟩|tbl ps=>have e:h.get? a=some {cls:=.none,data:=.fields ps}:=x;show h'.get? a=some {cls:=.none,data:=.fields ps};exact k a _ (.inl rfl) e|met f y=>have e:h.get? a=some (W.methodObj (.ref f) (.ref y)):=x;show h'.get? a=some (W.methodObj (.ref f) (.ref y));exact k a _ (.inl rfl) e|ext φ=>obtain⟨p,⟨o,e⟩,st⟩:=x;exact⟨st _ _ p λo q=>k _ _ (.inl rfl) q,⟨o,k _ _ (.inl rfl) e⟩,st⟩
theorem HOk.lt(x:HOk P w H h)(e:H a=some o):a<h.objs.size:=(x a o e).lt
theorem HOk.fresh(x:HOk P w H h)(e:h.objs.size<=a):H a=none:=by cases q:H a with|none=>rfl|some u=>exact absurd (lt_of_lt_of_le (x.lt q) e) (lt_irrefl _)
theorem HOk.kept(x:HOk P w H h)(k:∀b u,h.get? b=some u->h'.get? b=some u):HOk P w H h':=λa o e=>(x a o e).stay (λb u _ q=>k b u q) (λ_ q=>q) λ_ _ q=>q
theorem HOk.laid(x:HOk P w H h)(k:∀b u,h.get? b=some u->h'.get? b=some u)(hp:h.objs.size<=a)(new:ObjOk P w (upd H a o) h' a o):HOk P w (upd H a o) h':=λb u e=>by
 have hn:=x.fresh hp;by_cases hb:b=a;·subst hb;rw[QB]at e;cases e;exact new
 ·rw[Qt hb]at e;exact(x b u e).stay (λc v _ q=>k c v q) (λc q=>by rw[Qt (JF q hn)];exact q) λc xs q=>by rw[Qt (JF q hn)];exact q
end
def Rd(H:Hp)(a:Addr)(u:HO):Prop:=H a=some u\/∃o,H a=some (.frz o u)
theorem Rd.of{H:Hp}{a:Addr}{u:HO}(h:H a=some u):Rd H a u:=.inl h
theorem Rd.ok{P:Program}{w:World}{H:Hp}{h:Heap}{a:Addr}{u:HO}(r:Rd H a u)(x:HOk P w H h):ObjOk P w H h a u:=by
 rcases r with r|⟨o,r⟩;·exact x a u r
 ·obtain⟨_,q⟩:=x a _ r;exact q
noncomputable def Mut:Option HO->Prop|some (.lst _)=>True|some (.dK _)=>True|some (.dT _)=>True|some (.set _ _)=>True|some (.ins _ _ _)=>True|some (.ext _)=>True|_=>False
section
variable{P:Program}{w:World}{H:Hp}{h h':Heap}{x e:Addr}{o':HO}
theorem HOk.write(ok:HOk P w H h)(mu:Mut (H x))(he:e=x\/H e=some (.own x))(k:∀b u,b≠e->h.get? b=some u->h'.get? b=some u)(fc:∃u,h'.get? e=some u)(new:ObjOk P w (upd H x o') h' x o'):HOk P w (upd H x o') h':=λb u q=>by
 have f6:∀c y,H c=some (.own y)->c≠x:=λc y r z=>by subst z;rw[r]at mu;exact mu
 have i5:∀c xs,H c=some (.tup xs)->c≠x:=λc xs r z=>by subst z;rw[r]at mu;exact mu
 by_cases hb:b=x;·subst hb;rw[QB]at q;cases q;exact new
 ·rw[Qt hb]at q;by_cases b3:b=e
  ·have q':H b=some (.own x):=by
    rcases he with z|z;·exact absurd (b3.trans z) hb
    ·rw[b3];exact z
   rw[q]at q';cases q';obtain⟨v,hv⟩:=fc;exact⟨v,by rw[b3];exact hv⟩
  ·refine(ok b u q).stay (λc v hc r=>k c v ?_ r) (λc r=>by rw[Qt (f6 c b r)];exact r) λc xs r=>by rw[Qt (i5 c xs r)];exact r
   rcases hc with rfl|hc;·exact b3
   ·rintro rfl;rcases he with z|z;·exact f6 c b hc z
    ·rw[hc]at z;cases z;exact hb rfl
end
structure Un(fs ex:List Addr)(H H':Hp)(h h':Heap):Prop where
 keep:∀b o,h.get? b=some o->H b=none->b∉fs->b∉ex->h'.get? b=some o
 slot:∀b o,h.get? b=some o->H b=none->b∈fs->b∉ex->∃sl,h'.get? b=some {o with slots:=sl}free:∀b o,h.get? b=some o->H b=none->b∉ex->H' b=none
 there:∀b o,h.get? b=some o->b∉ex->∃o',h'.get? b=some o'
 tups:∀b xs,H b=some (.tup xs)->H' b=some (.tup xs)frzs:∀b o u,H b=some (.frz o u)->H' b=some (.frz o u)tbls:∀b ps,H b=some (.tbl ps)->∃more,H' b=some (.tbl (ps++more))
section
variable{fs iN ex jT:List Addr}{H H1 H2:Hp}{h h1 h2 h':Heap}{a x e:Addr}{o:HO}
theorem Un.any(u:Un fs ex H H1 h h1){b:Addr}{ob:Obj}(q:h.get? b=some ob)(n:H b=none)(hx:b∉ex):∃sl,h1.get? b=some {ob with slots:=sl}:=by
 by_cases hb:b∈fs;·exact u.slot b ob q n hb hx
 ·exact⟨ob.slots,u.keep b ob q n hb hx⟩
theorem Un.trans(a:Un fs ex H H1 h h1)(b:Un fs ex H1 H2 h1 h2):Un fs ex H H2 h h2 where
 keep:=λc ob q n hc hx=>b.keep c ob (a.keep c ob q n hc hx) (a.free c ob q n hx) hc hx
 slot:=λc ob q n hc hx=>by
  obtain⟨sl,e1⟩:=a.slot c ob q n hc hx;obtain⟨d8,e2⟩:=b.slot c _ e1 (a.free c ob q n hx) hc hx;exact⟨d8,e2⟩
 free:=λc ob q n hx=>by obtain⟨o',e1⟩:=a.there c ob q hx;exact b.free c o' e1 (a.free c ob q n hx) hx
 there:=λc ob q hx=>by
  obtain⟨o',e1⟩:=a.there c ob q hx;exact b.there c o' e1 hx
 tups:=λc xs q=>b.tups c xs (a.tups c xs q)
 frzs:=λc ob xs q=>b.frzs c ob xs (a.frzs c ob xs q)
 tbls:=λc ps q=>by
  obtain⟨m1,e1⟩:=a.tbls c ps q;obtain⟨m2,e2⟩:=b.tbls c _ e1;exact⟨m1++m2,by rw[e2,Array.append_assoc]⟩
theorem Un.kept(k:∀b u,h.get? b=some u->h'.get? b=some u):Un fs ex H H h h':=⟨λb ob q _ _ _=>k b ob q,λb ob q _ _ _=>⟨ob.slots,k b ob q⟩,λ_ _ _ n _=>n,λb ob q _=>⟨ob,k b ob q⟩,λ_ _ q=>q,λ_ _ _ q=>q,λ_ ps q=>⟨#[],by rw[q];simp⟩⟩
theorem Un.refl:Un fs ex H H h h:=Un.kept λ_ _ q=>q
theorem Un.laid(k:∀b u,h.get? b=some u->h'.get? b=some u)(hp:h.objs.size<=a)(hn:H a=none):Un fs ex H (upd H a o) h h' where
 keep:=λb u q _ _ _=>k b u q
 slot:=λb u q _ _ _=>⟨u.slots,k b u q⟩
 free:=λb u q n _=>by rw[Qt (ne_of_lt (lt_of_lt_of_le (Heap.lt_size q) hp))];exact n
 there:=λb u q _=>⟨u,k b u q⟩
 tups:=λb xs q=>by rw[Qt (JF q hn)];exact q
 frzs:=λb u xs q=>by rw[Qt (JF q hn)];exact q
 tbls:=λb ps q=>⟨#[],by rw[Qt (JF q hn),q];simp⟩
theorem Un.write(mu:Mut (H x))(he:e=x\/H e=some (.own x))(k:∀b u,b≠e->h.get? b=some u->h'.get? b=some u)(fc:∃u,h'.get? e=some u):Un fs ex H (upd H x o) h h':=by
 have hx:∀b,H b=none->b≠x:=λb n z=>by subst z;rw[n]at mu;exact mu
 have hb:∀b,H b=none->b≠e:=λb n z=>by
  subst z;rcases he with r|r;·exact hx b n r
  ·rw[n]at r;cases r
 have hm:∀b u,H b=some u->¬Mut (some u)->b≠x:=λb u q nm z=>by subst z;rw[q]at mu;exact nm mu
 refine⟨λb u q n _ _=>k b u (hb b n) q,λb u q n _ _=>⟨u.slots,k b u (hb b n) q⟩,λb u q n _=>by rw[Qt (hx b n)];exact n,λb u q _=>?_,λb xs q=>by rw[Qt (hm b _ q λz=>z)];exact q,λb u xs q=>by rw[Qt (hm b _ q λz=>z)];exact q,λb ps q=>⟨#[],by rw[Qt (hm b _ q λz=>z),q];simp⟩⟩;by_cases b3:b=e;·subst b3;exact fc
 ·exact⟨u,k b u b3 q⟩
theorem Un.mono(u:Un fs ex H H1 h h1)(hs:∀b∈fs,b∈iN)(hx:∀b∈ex,b∈jT):Un iN jT H H1 h h1:=⟨λb ob q n hb he=>u.keep b ob q n (λz=>hb (hs b z)) λz=>he (hx b z),λ_ _ q n _ he=>u.any q n λz=>he (hx _ z),λb ob q n he=>u.free b ob q n λz=>he (hx b z),λb ob q he=>u.there b ob q λz=>he (hx b z),u.tups,u.frzs,u.tbls⟩
end
noncomputable def trk(h:Heap)(H:Hp):List Addr:=(List.range h.objs.size).filter λa=>(H a).isSome
def Qc0(h:Heap)(H:Hp):Heap:=W.hideAll h (trk h H)
theorem Qnn(h:Heap)(H:Hp):(Qc0 h H).objs.size=h.objs.size:=W.hideAll_size _ _
theorem Qo9{h:Heap}{H:Hp}{b:Addr}{o:Obj}(e:h.get? b=some o)(n:H b=none):(Qc0 h H).get? b=some o:=W.hideAll_get _ e λhm=>by have q:(H b).isSome=true:=(List.mem_filter.mp hm).2;rw[n]at q;simp at q
theorem Qqv{h:Heap}{H:Hp}{b:Addr}{o:Obj}(e:(Qc0 h H).get? b=some o):h.get? b=some o/\H b=none:=by have e':h.get? b=some o:=W.of_hideAll (trk h H) e;refine⟨e',?_⟩;cases q:H b with|none=>rfl|some x=>have hm:b∈trk h H:=List.mem_filter.mpr ⟨List.mem_range.mpr (Heap.lt_size e'),by simp[q]⟩;have z:(Qc0 h H).get? b=none:=W.hideAll_none (trk h H) hm;rw[z]at e;cases e
noncomputable def Qre(g h:Heap)(L:Addr):List (Addr×Obj):=(List.range h.objs.size).filterMap λa=>if a=L\/(g.get? a).isSome=true then none else(h.get? a).map λo=>(a,o)
def rest(g h:Heap)(L d:Addr):List (Addr×Obj):=(Qre g h L).filter λp=>decide (p.1≠d)
structure Mod(K:W.Frag)(mg:Str->Option Value)(ae:Heap):Prop where
 kin:K.In ae
 glob:ae.Ns mainGlobals mg
 blt:∃mb,ae.Ns builtinsNs mb/\∀x:Str,x≠"__name__"->mb x=bootBuiltins x
 nolimit:ae.NoLimit
structure Cx where
 prog:Program
 w:World
 K:W.Frag
 mg:Str->Option Value
 ae:Heap
 A:Around
 N:List Str
 s₀:Shared
 H₀:Hp
 env:Env
 ag:List Env
 stack:List Env
 ex:List Addr
 fn:Str->Bool
 calm:Bool
 pn:List (Addr×Obj)xe:Value->Shared->Prop
noncomputable def frs(l:List Env):List Addr:=l.filterMap (·.frame)
abbrev Cx.fs(X:Cx):List Addr:=frs X.ag
def Vis(sc:Scope)(x:Str):Prop:=sc.names.lookup x=some .local\/sc.names.lookup x=some .cell\/sc.names.lookup x=some .free
def Loc(sc:Scope)(x:Str):Prop:=sc.names.lookup x=some .local\/sc.names.lookup x=some .cell
def Qt8(env:Env)(h:Heap)(m:Str->Option Value)(x:Str)(u:Value):Prop:=env.kindOf x=some .local/\m x=some u\/(env.kindOf x=some .cell\/env.kindOf x=some .free)/\∃c,env.cells.lookup x=some c/\h.IsCell c (some u)
structure Cx.Ok(X:Cx):Prop where
 mod:Mod X.K X.mg X.ae
 kind:X.env.scope.kind=.function
 glob:X.env.globals=mainGlobals
 blt:X.env.builtins=builtinsNs
 above:X.s₀.heap.objs.size<=X.env.locals
 inj:∀x y c,X.env.cells.lookup x=some c->X.env.cells.lookup y=some c->x=y
 has:∀x,X.env.kindOf x=some .cell\/X.env.kindOf x=some .free->∃c,X.env.cells.lookup x=some c
 cab:∀x c,X.fn x=true->X.env.cells.lookup x=some c->X.s₀.heap.objs.size<=c
 hd:X.calm=true->X.A.handled=none
 frames:X.A.frames=some X.stack
 stk:X.stack=X.ag\/(X.stack=X.env::X.ag/\X.env.frame=some X.env.locals)exf:∀b∈X.ex,b≠X.env.locals/\∀x c,X.env.cells.lookup x=some c->c≠b
 bs:∀b o,X.ae.get? b=some o->X.s₀.heap.get? b=some o/\X.H₀ b=none
 bsz:X.ae.objs.size<=X.s₀.heap.objs.size
 noex:∀b o,X.ae.get? b=some o->b∉X.ex
 exfs:∀b∈X.ex,b∉X.fs
 funs:X.s₀.heap.FunFrames X.ae X.ag
 frf:∀b∈X.fs,X.H₀ b=none
structure Inv(X:Cx)(aa:List (Addr×Obj))(σ:List (Option V))(H:Hp)(s:Shared):Prop where
 ok:X.Ok
 os:s.os=X.s₀.os
 bare:AllBare s.gens
 ae:Un X.fs X.ex X.H₀ H X.s₀.heap s.heap
 loc:∃m,s.heap.Ns X.env.locals m/\∀(i:Nat)(x:Str)(v:V),X.N[i]?=some x->σ[i]?=some (some v)->Vis X.env.scope x->∃u,RelV v u/\Qt8 X.env s.heap m x u
 cell:∀x c,X.env.cells.lookup x=some c->∃v,s.heap.IsCell c v
 free:H X.env.locals=none
 freeC:∀x c,X.env.cells.lookup x=some c->H c=none
 pin:∀p∈X.pn++aa,s.heap.get? p.1=some p.2/\H p.1=none/\p.1≠X.env.locals/\p.1∉X.fs/\∀v,p.2.data≠.cell v
 hok:HOk X.prog X.w H s.heap
 len:σ.length=X.N.length
section
variable{X:Cx}{aa:List (Addr×Obj)}{σ:List (Option V)}{H H':Hp}{s:Shared}{h':Heap}
theorem Cx.Ok.nofr(ok:X.Ok){b:Addr}{o:Obj}(e:X.ae.get? b=some o):b∉X.fs:=λhb=>by have:=(ok.funs.mem hb).1;rw[e]at this;cases this
theorem Inv.bs(I:Inv X aa σ H s):∀b o,X.ae.get? b=some o->s.heap.get? b=some o/\H b=none:=λb o e=>⟨I.ae.keep b o (I.ok.bs b o e).1 (I.ok.bs b o e).2 (I.ok.nofr e) (I.ok.noex b o e),I.ae.free b o (I.ok.bs b o e).1 (I.ok.bs b o e).2 (I.ok.noex b o e)⟩
theorem Inv.bk(I:Inv X aa σ H s):∀b o,X.ae.get? b=some o->s.heap.get? b=some o:=λb o e=>(I.bs b o e).1
theorem Inv.mod(I:Inv X aa σ H s):Mod X.K X.mg X.ae:=I.ok.mod
theorem Inv.kIn(I:Inv X aa σ H s):X.K.In s.heap:=I.ok.mod.kin.keeps I.bk
theorem Inv.nolimit(I:Inv X aa σ H s):s.heap.NoLimit:=I.ok.mod.nolimit.keeps I.bk
theorem Inv.fr(I:Inv X aa σ H s):∃m,Fr X.ae X.env.locals s.heap m:=let⟨m,hn,_⟩:=I.loc
 ⟨m,hn,I.bk,le_trans I.ok.bsz I.ok.above⟩
theorem Inv.lt(I:Inv X aa σ H s):X.env.locals<s.heap.objs.size:=let⟨_,hn,_⟩:=I.loc;hn.lt
theorem Inv.sz(I:Inv X aa σ H s):X.s₀.heap.objs.size<=s.heap.objs.size:=le_trans I.ok.above (le_of_lt I.lt)
theorem Inv.nofs(I:Inv X aa σ H s){a:Addr}(h:s.heap.objs.size<=a):a∉X.fs:=λhb=>by obtain⟨_,o,ho,_⟩:=I.ok.funs.mem hb;exact absurd (lt_of_lt_of_le (Heap.lt_size ho) (le_trans I.sz h)) (lt_irrefl _)
theorem Inv.cne(I:Inv X aa σ H s):∀x c,X.env.cells.lookup x=some c->c≠X.env.locals:=λx c e z=>by obtain⟨v,o,ho,hd⟩:=I.cell x c e;obtain⟨m,⟨o',es,ep,cq,de,_⟩,_⟩:=I.loc;rw[z,cq]at ho;cases ho;rw[de]at hd;cases hd
theorem Inv.funs(I:Inv X aa σ H s):s.heap.FunFrames X.ae X.ag:=by
 have all:∀(l:List Env),(∀b∈frs l,b∈X.fs)->X.s₀.heap.FunFrames X.ae l->s.heap.FunFrames X.ae l:=by intro l;induction l with|nil=>intro _ _;trivial|cons env r ih=>
   intro hs hl;obtain⟨hk,⟨L,o,hf,hn,ho,hd⟩,hr⟩:=hl;have hL:L∈X.fs:=hs L (by unfold frs;rw[filterMap_cons,hf];exact mem_cons_self);obtain⟨sl,e⟩:=I.ae.slot L o ho (I.ok.frf L hL) hL λz=>I.ok.exfs L z hL;exact⟨hk,⟨L,_,hf,hn,e,hd⟩,ih (λb hb=>hs b (by unfold frs;rw[filterMap_cons,hf];exact mem_cons_of_mem _ hb)) hr⟩
 exact all X.ag (λ_ hb=>hb) I.ok.funs
theorem Inv.stack(I:Inv X aa σ H s):s.heap.FunFrames X.ae X.stack:=by
 rcases I.ok.stk with e|⟨e,hf⟩;·rw[e];exact I.funs
 ·rw[e];obtain⟨m,hn,_⟩:=I.loc;refine .cons (by rw[I.ok.kind];decide) hf hn ?_ I.funs;exact Heap.get?_none_of_le (le_trans I.ok.bsz I.ok.above)
theorem Inv.stkSub(I:Inv X aa σ H s):∀b∈frs X.stack,b∈X.env.locals::X.fs:=λb hb=>by
 rcases I.ok.stk with e|⟨e,hf⟩;·rw[e]at hb;exact mem_cons_of_mem _ hb
 ·rw[e]at hb;unfold frs at hb;rw[filterMap_cons,hf]at hb;exact hb
theorem Inv.stkFree(I:Inv X aa σ H s):∀b∈frs X.stack,H b=none:=λb hb=>by
 rcases List.mem_cons.mp (I.stkSub b hb)with e|hb;·rw[e];exact I.free
 ·obtain⟨_,o,ho,_⟩:=I.ok.funs.mem hb;exact I.ae.free b o ho (I.ok.frf b hb) λz=>I.ok.exfs b z hb
theorem Inv.step{g':Array GenState}{t':Nat}{d':Drawn}{ch:List Addr}(I:Inv X aa σ H s)(cG:∀b∈ch,(b∈X.ex\/X.s₀.heap.objs.size<=b)/\b≠X.env.locals/\(∀x c,X.env.cells.lookup x=some c->c≠b)/\∀p∈X.pn++aa,p.1≠b)(keep:∀b o,b≠X.env.locals->b∉X.fs->b∉ch->s.heap.get? b=some o->H b=none->h'.get? b=some o)(slot:∀b o,b≠X.env.locals->b∈X.fs->b∉ch->s.heap.get? b=some o->H b=none->∃sl,h'.get? b=some {o with slots:=sl})(free:∀b o,b∉ch->s.heap.get? b=some o->H b=none->H' b=none)(there:∀b o,b∉ch->s.heap.get? b=some o->∃o',h'.get? b=some o')(tups:∀b xs,H b=some (.tup xs)->H' b=some (.tup xs))(frzs:∀b o u,H b=some (.frz o u)->H' b=some (.frz o u))(tbls:∀b ps,H b=some (.tbl ps)->∃more,H' b=some (.tbl (ps++more)))(ns:∀m,s.heap.Ns X.env.locals m->h'.Ns X.env.locals m)(hok:HOk X.prog X.w H' h')(hg:AllBare g'):Inv X aa σ H' {s with heap:=h',gens:=g',drawn:=d',toks:=t'}:=by
 have jy:∀b o,X.s₀.heap.get? b=some o->b≠X.env.locals:=λb o e=>ne_of_lt (lt_of_lt_of_le (Heap.lt_size e) I.ok.above);have gE:∀b o,X.s₀.heap.get? b=some o->b∉X.ex->b∉ch:=λb o e hx hb=>by
  rcases(cG b hb).1 with z|z;·exact hx z
  ·exact absurd (lt_of_lt_of_le (Heap.lt_size e) z) (lt_irrefl _)
 have cellK:∀x c,X.env.cells.lookup x=some c->∀v,s.heap.IsCell c v->h'.IsCell c v:=λx c e v⟨o,ho,hd⟩=>by
  have fB:c∉ch:=λz=>(cG c z).2.2.1 x c e rfl;by_cases hc:c∈X.fs;·obtain⟨sl,q⟩:=slot c o (I.cne x c e) hc fB ho (I.freeC x c e);exact⟨_,q,hd⟩
  ·exact⟨o,keep c o (I.cne x c e) hc fB ho (I.freeC x c e),hd⟩
 refine⟨I.ok,I.os,hg,⟨λb o e n hb hx=>?_,λb o e n hb hx=>?_,λb o e n hx=>?_,λb o e hx=>?_,λb xs e=>tups b xs (I.ae.tups b xs e),λb o xs e=>frzs b o xs (I.ae.frzs b o xs e),λb ps e=>?_⟩,?_,λx c e=>?_,?_,λx c e=>?_,λp hp=>?_,hok,I.len⟩;·exact keep b o (jy b o e) hb (gE b o e hx) (I.ae.keep b o e n hb hx) (I.ae.free b o e n hx)
 ·obtain⟨sl,e1⟩:=I.ae.slot b o e n hb hx;obtain⟨d8,e2⟩:=slot b _ (jy b o e) hb (gE b o e hx) e1 (I.ae.free b o e n hx);exact⟨d8,e2⟩
 ·obtain⟨o',e1⟩:=I.ae.there b o e hx;exact free b o' (gE b o e hx) e1 (I.ae.free b o e n hx)
 ·obtain⟨o',e1⟩:=I.ae.there b o e hx;exact there b o' (gE b o e hx) e1
 ·obtain⟨m1,e1⟩:=I.ae.tbls b ps e;obtain⟨m2,e2⟩:=tbls b _ e1;exact⟨m1++m2,by rw[e2,Array.append_assoc]⟩
 ·obtain⟨m,hn,hl⟩:=I.loc;refine⟨m,ns m hn,λi x v e1 e2 e3=>?_⟩;obtain⟨u,r,l⟩:=hl i x v e1 e2 e3;refine⟨u,r,?_⟩;rcases l with l|⟨k,c,e,z⟩;·exact .inl l
  ·exact .inr ⟨k,c,e,cellK x c e _ z⟩
 ·obtain⟨v,z⟩:=I.cell x c e;exact⟨v,cellK x c e v z⟩
 ·obtain⟨m,⟨o,_,_,ho,_⟩,_⟩:=I.loc;exact free _ o (λz=>(cG _ z).2.1 rfl) ho I.free
 ·obtain⟨v,o,ho,hd⟩:=I.cell x c e;exact free c o (λz=>(cG c z).2.2.1 x c e rfl) ho (I.freeC x c e)
 ·obtain⟨e,n,ne,nf,d⟩:=I.pin p hp;have fB:p.1∉ch:=λz=>(cG p.1 z).2.2.2 p hp rfl;exact⟨keep p.1 p.2 ne nf fB e n,free p.1 p.2 fB e n,ne,nf,d⟩
theorem Inv.un{t':Nat}(I:Inv X aa σ H s)(u:Un X.fs [] H H' s.heap h')(hok:HOk X.prog X.w H' h'):Inv X aa σ H' {s with heap:=h',toks:=t'}:=by obtain⟨m,⟨o,es,ep,ho,r⟩,_⟩:=id I.loc;obtain⟨sl,hL⟩:=u.any ho I.free (by simp);exact I.step (g':=s.gens) (d':=s.drawn) (ch:=[]) (λ_ z=>nomatch z) (λb o _ hb _ e n=>u.keep b o e n hb (by simp)) (λb o _ hb _ e n=>u.slot b o e n hb (by simp)) (λb o _ e n=>u.free b o e n (by simp)) (λb o _ e=>u.there b o e (by simp)) u.tups u.frzs u.tbls (λm' hm=>by obtain⟨o',b9,iR,cq,r'⟩:=hm;rw[ho]at cq;cases cq;exact⟨_,b9,iR,hL,r'⟩) hok I.bare
theorem Inv.call{g':Array GenState}{t':Nat}{d':Drawn}{ch:List Addr}(I:Inv X aa σ H s)(u:Un (frs X.stack) ch H H' s.heap h')(hok:HOk X.prog X.w H' h')(hg:AllBare g')(cG:∀b∈ch,(b∈X.ex\/X.s₀.heap.objs.size<=b)/\b≠X.env.locals/\(∀x c,X.env.cells.lookup x=some c->c≠b)/\∀p∈X.pn++aa,p.1≠b):Inv X aa σ H' {s with heap:=h',gens:=g',drawn:=d',toks:=t'}:=by obtain⟨m,⟨o,es,ep,ho,r⟩,_⟩:=id I.loc;obtain⟨sl,hL⟩:=u.any ho I.free λz=>(cG _ z).2.1 rfl;exact I.step (ch:=ch) cG (λb o hL hb hc e n=>u.keep b o e n (λz=>(List.mem_cons.mp (I.stkSub b z)).elim hL hb) hc) (λb o _ _ hc e n=>u.any e n hc) (λb o hc e n=>u.free b o e n hc) (λb o hc e=>u.there b o e hc) u.tups u.frzs u.tbls (λm' hm=>by obtain⟨o',b9,iR,cq,r'⟩:=hm;rw[ho]at cq;cases cq;exact⟨_,b9,iR,hL,r'⟩) hok hg
theorem Inv.turned{t':Nat}{it:Addr}(I:Inv X aa σ H s)(k:∀b o,b≠it->s.heap.get? b=some o->h'.get? b=some o)(hn:H it=none)(hL:it≠X.env.locals)(h1:it∈X.ex\/X.s₀.heap.objs.size<=it)(h2:∀x c,X.env.cells.lookup x=some c->c≠it)(h3:∀p∈X.pn++aa,p.1≠it):Inv X aa σ H {s with heap:=h',toks:=t'}:=by
 have dD:∀b u,H b=some u->b≠it:=λb u e z=>by rw[z,hn]at e;cases e
 refine I.step (g':=s.gens) (d':=s.drawn) (ch:=[it]) (λb hb=>?_) (λb o _ _ hc e _=>k b o (λz=>hc (by simp[z])) e) (λb o _ _ hc e _=>⟨o.slots,k b o (λz=>hc (by simp[z])) e⟩) (λ_ _ _ _ n=>n) (λb o hc e=>⟨o,k b o (λz=>hc (by simp[z])) e⟩) (λ_ _ e=>e) (λ_ _ _ e=>e) (λb ps e=>⟨#[],by rw[e];simp⟩) (λm hm=>?_) (λb u e=>?_) I.bare
 ·have e:b=it:=by simpa using hb
  subst e;exact⟨h1,hL,h2,h3⟩
 ·obtain⟨o,es,ep,ho,r⟩:=hm;exact⟨o,es,ep,k _ o (Ne.symm hL) ho,r⟩
 ·refine(I.hok b u e).stay (λc v hc q=>k c v ?_ q) (λ_ q=>q) λ_ _ q=>q;rcases hc with z|z;·rw[z];exact dD b u e
  ·exact dD c _ z
theorem Inv.tok(I:Inv X aa σ H s)(t:Nat):Inv X aa σ H {s with toks:=t}:=I.un (h':=s.heap) (t':=t) Un.refl I.hok
theorem Inv.kept{t':Nat}(I:Inv X aa σ H s)(k:∀b u,s.heap.get? b=some u->h'.get? b=some u):Inv X aa σ H {s with heap:=h',toks:=t'}:=I.un (Un.kept k) (I.hok.kept k)
theorem Inv.laid{a:Addr}{o:HO}{t':Nat}(I:Inv X aa σ H s)(k:∀b u,s.heap.get? b=some u->h'.get? b=some u)(hp:s.heap.objs.size<=a)(new:ObjOk X.prog X.w (upd H a o) h' a o):Inv X aa σ (upd H a o) {s with heap:=h',toks:=t'}:=I.un (Un.laid k hp (I.hok.fresh hp)) (I.hok.laid k hp new)
theorem Inv.write{x e:Addr}{o:HO}{t':Nat}(I:Inv X aa σ H s)(mu:Mut (H x))(he:e=x\/H e=some (.own x))(k:∀b u,b≠e->s.heap.get? b=some u->h'.get? b=some u)(fc:∃u,h'.get? e=some u)(new:ObjOk X.prog X.w (upd H x o) h' x o):Inv X aa σ (upd H x o) {s with heap:=h',toks:=t'}:=I.un (Un.write mu he k fc) (I.hok.write mu he k fc new)
theorem Inv.pins_of{dS:List (Addr×Obj)}(I:Inv X aa σ H s)(h:∀p∈dS,s.heap.get? p.1=some p.2/\H p.1=none/\p.1≠X.env.locals/\p.1∉X.fs/\∀v,p.2.data≠.cell v):Inv X dS σ H s:=⟨I.ok,I.os,I.bare,I.ae,I.loc,I.cell,I.free,I.freeC,λp hp=>(List.mem_append.mp hp).elim (λz=>I.pin p (List.mem_append_left _ z)) (h p),I.hok,I.len⟩
theorem QeO{N:List Str}(hN:N.Nodup){i j:Nat}{x:Str}(a:N[i]?=some x)(b:N[j]?=some x):i=j:=by obtain⟨h1,e1⟩:=List.getElem?_eq_some_iff.mp a;obtain⟨h2,e2⟩:=List.getElem?_eq_some_iff.mp b;exact(List.getElem_inj hN).mp (e1.trans e2.symm)
theorem QgN{M:Model}{A:Around}{E:Value->Shared->Prop}{i:Nat}{x:Str}{v:V}{u:Value}{Q:Unit->Shared->Prop}(I:Inv X aa σ H s)(hN:X.N.Nodup)(hi:X.N[i]?=some x)(hx:Loc X.env.scope x)(r:RelV v u)(h:∀s',Inv X aa (σ.set i (some v)) H s'->(∃a,Heap.SameBut a s.heap s'.heap/\(a=X.env.locals\/X.env.cells.lookup x=some a))->Q () s')(hf:X.fn x=true\/X.env.scope.names.lookup x=some .local:=by first|exact .inl rfl|exact .inr rfl|assumption):wpAny M A (storeName X.env x u) Q E s:=by
 obtain⟨m,hn,hl⟩:=id I.loc;have cP:(X.env.scope.kind==.class||(X.env.scope.kind==.module&&X.env.locals !=X.env.globals))=false:=by rw[I.ok.kind];rfl
 have dw:i<σ.length:=by rw[I.len];exact(List.getElem?_eq_some_iff.mp hi).1
 have cne:=I.cne;have tracked:∀{a:Addr}{h':Heap},(∃o,s.heap.get? a=some o/\H a=none)->Heap.SameBut a s.heap h'->HOk X.prog X.w H h':=λ{a h'}ha hs b ob e=>by
  obtain⟨_,_,b6⟩:=ha;refine(I.hok b ob e).stay (λc w' hc q=>(hs.2 c ?_).trans q) (λ_ q=>q) λ_ _ q=>q;rintro rfl;rcases hc with rfl|hc;·rw[b6]at e;cases e
  ·rw[b6]at hc;cases hc
 rcases hx with hk|hk
 ·refine wpAny_storeName_local hk hn (λh' fJ hs=>?_) cP;obtain⟨oL,_,_,ig,_⟩:=id hn;refine h _ ⟨I.ok,I.os,I.bare,⟨λb o e n hb hx=>?_,λb o e n hb hx=>?_,I.ae.free,λb o e hx=>?_,I.ae.tups,I.ae.frzs,I.ae.tbls⟩,⟨_,fJ,λj y v' e1 e2 e3=>?_⟩,λy c e=>?_,I.free,I.freeC,λp hp=>?_,tracked ⟨oL,ig,I.free⟩ hs,by simpa using I.len⟩ ⟨_,hs,.inl rfl⟩;·exact(hs.2 b (ne_of_lt (lt_of_lt_of_le (Heap.lt_size e) I.ok.above))).trans (I.ae.keep b o e n hb hx)
  ·obtain⟨sl,e1⟩:=I.ae.slot b o e n hb hx;exact⟨sl,(hs.2 b (ne_of_lt (lt_of_lt_of_le (Heap.lt_size e) I.ok.above))).trans e1⟩
  ·obtain⟨o',e1⟩:=I.ae.there b o e hx;exact⟨o',(hs.2 b (ne_of_lt (lt_of_lt_of_le (Heap.lt_size e) I.ok.above))).trans e1⟩
  ·by_cases hj:j=i
   ·subst hj;rw[hi]at e1;cases e1;rw[getElem?_set_self dw]at e2;cases e2;exact⟨u,r,.inl ⟨hk,by simp⟩⟩
   ·rw[getElem?_set_ne (Ne.symm hj)]at e2;obtain⟨u',r',q⟩:=hl j y v' e1 e2 e3;refine⟨u',r',?_⟩;rcases q with⟨k,e⟩|⟨k,c,e,z⟩
    ·refine .inl ⟨k,?_⟩;have:y≠x:=λe=>hj (QeO hN e1 (e▸hi));simp[this,e]
    ·exact .inr ⟨k,c,e,z.sameBut hs (cne y c e)⟩
  ·obtain⟨w',z⟩:=I.cell y c e;exact⟨w',z.sameBut hs (cne y c e)⟩
  ·obtain⟨e,n,ne,nf,d⟩:=I.pin p hp;exact⟨(hs.2 p.1 ne).trans e,n,ne,nf,d⟩
 ·have ez:X.fn x=true:=by
   rcases hf with z|z;·exact z
   ·rw[z]at hk;cases hk
  obtain⟨c,hc⟩:=I.ok.has x (.inl hk);obtain⟨w',z⟩:=I.cell x c hc;refine wpAny_storeName_cell I.ok.kind hk hc z (λh' fQ hs=>?_);obtain⟨oc,gK,jd⟩:=id z;refine h {s with heap:=h'} ⟨I.ok,I.os,I.bare,⟨λb o e n hb hx=>?_,λb o e n hb hx=>?_,I.ae.free,λb o e hx=>?_,I.ae.tups,I.ae.frzs,I.ae.tbls⟩,⟨m,hn.sameBut hs (Ne.symm (cne x c hc)),λj y v' e1 e2 e3=>?_⟩,λy c' e=>?_,I.free,I.freeC,λp hp=>?_,tracked ⟨oc,gK,I.freeC x c hc⟩ hs,by simpa using I.len⟩ ⟨c,hs,.inr hc⟩;·exact(hs.2 b (ne_of_lt (lt_of_lt_of_le (Heap.lt_size e) (I.ok.cab x c ez hc)))).trans (I.ae.keep b o e n hb hx)
  ·obtain⟨sl,e1⟩:=I.ae.slot b o e n hb hx;exact⟨sl,(hs.2 b (ne_of_lt (lt_of_lt_of_le (Heap.lt_size e) (I.ok.cab x c ez hc)))).trans e1⟩
  ·obtain⟨o',e1⟩:=I.ae.there b o e hx;exact⟨o',(hs.2 b (ne_of_lt (lt_of_lt_of_le (Heap.lt_size e) (I.ok.cab x c ez hc)))).trans e1⟩
  ·by_cases hj:j=i
   ·subst hj;rw[hi]at e1;cases e1;rw[getElem?_set_self dw]at e2;cases e2;exact⟨u,r,.inr ⟨.inl hk,c,hc,fQ⟩⟩
   ·rw[getElem?_set_ne (Ne.symm hj)]at e2;obtain⟨u',r',q⟩:=hl j y v' e1 e2 e3;refine⟨u',r',?_⟩;rcases q with q|⟨k,c',e,z'⟩;·exact .inl q
    ·refine .inr ⟨k,c',e,z'.sameBut hs ?_⟩;rintro rfl;exact hj (QeO hN e1 (I.ok.inj _ _ _ e hc▸hi))
  ·by_cases jQ:c'=c;·subst jQ;exact⟨_,fQ⟩
   ·obtain⟨w2,z2⟩:=I.cell y c' e;exact⟨w2,z2.sameBut hs jQ⟩
  ·obtain⟨e,n,ne,nf,d⟩:=I.pin p hp;refine⟨(hs.2 p.1 ?_).trans e,n,ne,nf,d⟩;intro q;rw[q,gK]at e;have q':oc=p.2:=Option.some.inj e;exact d w' (by rw[<-q'];exact jd)
theorem Qas{M:Model}{A:Around}{E:Value->Shared->Prop}{i:Nat}{x:Str}{v:V}{u:Value}{Q:Unit->Shared->Prop}(I:Inv X aa σ H s)(hN:X.N.Nodup)(hi:X.N[i]?=some x)(hx:Loc X.env.scope x)(r:RelV v u)(h:∀s',Inv X aa (σ.set i (some v)) H s'->Q () s')(hf:X.fn x=true\/X.env.scope.names.lookup x=some .local:=by first|exact .inl rfl|exact .inr rfl|assumption):wpAny M A (storeName X.env x u) Q E s:=QgN I hN hi hx r (λs' I' _=>h s' I') hf
theorem Inv.call'{s':Shared}{ch:List Addr}(I:Inv X aa σ H s)(ho:s'.os=s.os)(u:Un (frs X.stack) ch H H' s.heap s'.heap)(hok:HOk X.prog X.w H' s'.heap)(hg:AllBare s'.gens)(cG:∀b∈ch,(b∈X.ex\/X.s₀.heap.objs.size<=b)/\b≠X.env.locals/\(∀x c,X.env.cells.lookup x=some c->c≠b)/\∀p∈X.pn++aa,p.1≠b):Inv X aa σ H' s':=by obtain⟨h',g',d',t',o'⟩:=s';have e:o'=s.os:=ho;subst e;exact I.call (g':=g') (t':=t') (d':=d') u hok hg cG
end
abbrev XK:=Value->Option Addr->Hp->Prop
abbrev St:=List (Option V)
abbrev VK:=V->Hp->Prop
abbrev TE:=St->Hp->VK->Prop
noncomputable abbrev TT:=St->Hp->(Bool->Hp->Prop)->Prop
noncomputable abbrev TA:=St->Hp->(List V->Hp->Prop)->Prop
structure Ends where
 nx:St->Hp->Prop
 rt:VK
 bk:St->Hp->Prop:=λ_ _=>False
 ct:St->Hp->Prop:=λ_ _=>False
abbrev TS:=Ends->St->Hp->Prop
def EP(X:Cx)(aa:List (Addr×Obj))(σ:St)(Q:VK)(u:Value)(s':Shared):Prop:=∃v H',Inv X aa σ H' s'/\RelV v u/\Q v H'
def TP(X:Cx)(aa:List (Addr×Obj))(σ:St)(Q:Bool->Hp->Prop)(b:Bool)(s':Shared):Prop:=∃H',Inv X aa σ H' s'/\Q b H'
def AP(X:Cx)(aa:List (Addr×Obj))(σ:St)(Q:List V->Hp->Prop)(us:List Value)(s':Shared):Prop:=∃vs H',Inv X aa σ H' s'/\Vals vs us/\Q vs H'
def SP(X:Cx)(aa:List (Addr×Obj))(D:Ends)(f:Flow)(s':Shared):Prop:=match f with|.next=>∃σ' H',Inv X aa σ' H' s'/\D.nx σ' H'|.brk=>∃σ' H',Inv X aa σ' H' s'/\D.bk σ' H'|.cont=>∃σ' H',Inv X aa σ' H' s'/\D.ct σ' H'|.ret u=>∃v σ' H',Inv X aa σ' H' s'/\RelV v u/\D.rt v H'
def PE(X:Cx)(e:Expr)(t:TE):Prop:=∀(aa:List (Addr×Obj))(s:Shared)(σ:St)(H:Hp)(Q:VK),Inv X aa σ H s->t σ H Q->wpAny (model X.prog X.w) X.A (eval e X.env) (EP X aa σ Q) X.xe s
def PT(X:Cx)(e:Expr)(t:TT):Prop:=∀(aa:List (Addr×Obj))(s:Shared)(σ:St)(H:Hp)(Q:Bool->Hp->Prop),Inv X aa σ H s->t σ H Q->wpAny (model X.prog X.w) X.A (isTrue e X.env (eval e X.env)) (TP X aa σ Q) X.xe s
def PW(X:Cx)(e:Expr)(t:TT):Prop:=∀(whole:Sem Value)(aa:List (Addr×Obj))(s:Shared)(σ:St)(H:Hp)(Q:Bool->Hp->Prop),Inv X aa σ H s->t σ H Q->wpAny (model X.prog X.w) X.A (isTrue e X.env whole) (TP X aa σ Q) X.xe s
theorem PW.pt{X:Cx}{e:Expr}{t:TT}(h:PW X e t):PT X e t:=h _
def PA(X:Cx)(es:List Expr)(t:TA):Prop:=∀(pos:Pos)(aa:List (Addr×Obj))(s:Shared)(σ:St)(H:Hp)(Q:List V->Hp->Prop),Inv X aa σ H s->t σ H Q->wpAny (model X.prog X.w) X.A (spliced (backTo pos (starEach es X.env))) (AP X aa σ Q) X.xe s
def PS(X:Cx)(st:Stmt)(t:TS):Prop:=∀(aa:List (Addr×Obj))(s:Shared)(σ:St)(H:Hp)(D:Ends),Inv X aa σ H s->t D σ H->wpAny (model X.prog X.w) X.A (exec st X.env) (SP X aa D) X.xe s
def PSs(X:Cx)(st:List Stmt)(t:TS):Prop:=∀(aa:List (Addr×Obj))(s:Shared)(σ:St)(H:Hp)(D:Ends),Inv X aa σ H s->t D σ H->wpAny (model X.prog X.w) X.A (execs st X.env) (SP X aa D) X.xe s
theorem thn{α:Type}{t:Sem α}{Q Q':α->Shared->Prop}{M:Model}{A:Around}{E:Value->Shared->Prop}{s:Shared}(h:wpAny M A t Q E s)(hQ:∀a s,Q a s->Q' a s):wpAny M A t Q' E s:=wpAny_mono h hQ λ_ _ x=>x
section
variable{X:Cx}
noncomputable def QhM(i:Nat):TE:=λσ H Q=>∃v,σ[i]?=some (some v)/\Q v H
def tC(v:V):TE:=λ_ H Q=>Q v H
theorem Ji{i:Nat}{x:Str}{pos:Pos}(hN:X.N[i]?=some x)(hv:Vis X.env.scope x)(hd:(x==("__debug__":Str))=false:=by decide)(bC:(x==("__classdict__":Str))=false:=by decide):PE X (.Name x pos) (QhM i):=by
 intro aa s σ H Q I h;obtain⟨v,e,h⟩:=h;obtain⟨m,hn,hl⟩:=I.loc;obtain⟨u,r,l⟩:=hl i x v hN e hv;have fin:EP X aa σ Q u s:=⟨v,H,I,r,h⟩;rcases l with⟨hk,hm⟩|⟨hk,c,hc,bO⟩;·exact wpAny_Name (wpAny_loadName_local I.ok.kind hk hn hm fin) hd
 ·rcases hk with hk|hk;·exact wpAny_Name (wpAny_loadName_cell I.ok.kind hk hc bO fin) hd
  ·exact wpAny_Name (wpAny_loadName_free I.ok.kind hk hc bO fin bC) hd
theorem QrX{i j pos}:PE X (.Constant (.int i) j pos) (tC (.int i)):=λ_ _ _ H _ I h=>wpAny_Constant_int ⟨.int i,H,I.tok _,⟨_,rfl⟩,h⟩
theorem Qta{b j pos}:PE X (.Constant (.bool b) j pos) (tC (.bl b)):=λ_ _ _ H _ I h=>Constant_bool ⟨.bl b,H,I,rfl,h⟩
theorem Qmc{j pos}:PE X (.Constant .none j pos) (tC .non):=λ_ _ _ H _ I h=>Constant_none ⟨.non,H,I,rfl,h⟩
theorem Qmb{x j pos}:PE X (.Constant (.str x) j pos) (tC (.str x)):=λ_ _ _ H _ I h=>Calls.Constant_str ⟨.str x,H,I.tok _,⟨_,rfl⟩,h⟩
def Gl(X:Cx)(x:Str):Prop:=X.env.kindOf x=some .globalImplicit
theorem Qaq{E:Value->Shared->Prop}{aa:List (Addr×Obj)}{s:Shared}{σ:St}{H:Hp}{x:Str}{u:Value}{pos:Pos}{Q:Value->Shared->Prop}(I:Inv X aa σ H s)(hg:Gl X x)(hm:X.mg x=some u)(h:Q u s)(hd:(x==("__debug__":Str))=false:=by decide):wpAny (model X.prog X.w) X.A (eval (.Name x pos) X.env) Q E s:=Calls.Name_function_global I.ok.kind hg (Calls.loadGlobal_global (by rw[I.ok.glob];exact I.mod.glob.keeps I.bk) hm h) hd
theorem QdS{E:Value->Shared->Prop}{aa:List (Addr×Obj)}{s:Shared}{σ:St}{H:Hp}{x:Str}{u:Value}{pos:Pos}{Q:Value->Shared->Prop}(I:Inv X aa σ H s)(hg:Gl X x)(hm:X.mg x=none)(hv:bootBuiltins x=some u)(h:Q u s)(hn:x≠"__name__":=by decide)(hd:(x==("__debug__":Str))=false:=by decide):wpAny (model X.prog X.w) X.A (eval (.Name x pos) X.env) Q E s:=by obtain⟨mb,h1,h2⟩:=I.mod.blt;exact Calls.Name_function_global I.ok.kind hg (Calls.loadGlobal_builtin (by rw[I.ok.glob];exact I.mod.glob.keeps I.bk) hm (by rw[I.ok.blt];exact h1.keeps I.bk) ((h2 x hn).trans hv) h) hd
theorem Qqk{x:Str}{v:V}{u:Value}{pos:Pos}(hg:Gl X x)(hm:X.mg x=some u)(r:RelV v u)(hd:(x==("__debug__":Str))=false:=by decide):PE X (.Name x pos) (tC v):=λ_ _ _ H _ I h=>Qaq I hg hm ⟨v,H,I,r,h⟩ hd
theorem Qkh{x:Str}{v:V}{u:Value}{pos:Pos}(hg:Gl X x)(hm:X.mg x=none)(hv:bootBuiltins x=some u)(r:RelV v u)(hn:x≠"__name__":=by decide)(hd:(x==("__debug__":Str))=false:=by decide):PE X (.Name x pos) (tC v):=λ_ _ _ H _ I h=>QdS I hg hm hv ⟨v,H,I,r,h⟩ hn hd
variable{a b:Expr}{ta tb:TE}{pos:Pos}
def PC(X:Cx)(op:CmpOp)(a b:Expr)(t:TE):Prop:=∀(aa:List (Addr×Obj))(s:Shared)(σ:St)(H:Hp)(Q:VK),Inv X aa σ H s->t σ H Q->wpAny (model X.prog X.w) X.A (eval a X.env) (λv s₁=>wpAny (model X.prog X.w) X.A (eval b X.env) (λu s₂=>wpAny (model X.prog X.w) X.A (compareOp op v u) (EP X aa σ Q) X.xe s₂) X.xe s₁) X.xe s
theorem QoM(b:Expr){op:CmpOp}(h:op≠.In)(h2:op≠.NotIn):behindInMarks op b=false:=by
 have e1:(op==CmpOp.In)=false:=by cases op<;>first|rfl|exact absurd rfl h
 have e2:(op==CmpOp.NotIn)=false:=by cases op<;>first|rfl|exact absurd rfl h2
 cases b<;>simp[behindInMarks,e1,e2]
def tB(t:TE):TT:=λσ H Q=>t σ H λx H1=>∃c,x=.bl c/\Q c H1
theorem Ql8{op:CmpOp}{t:TE}(h:PC X op a b t)(h1:behindInMarks op b=false:=by first|exact QoM _ (by decide) (by decide)|rfl):PT X (.Compare a [op] [b] pos) (tB t):=by intro aa s σ H Q I hw;refine wpAny_isTrue_Compare1 (thn (h aa s σ H _ I hw) λv s1 h1=>thn h1 λu s2 h2=>thn h2 λc s3⟨x,H1,I1,r1,q1⟩=>?_) h1;obtain⟨d,rfl,q⟩:=q1;cases r1;exact wpAny_truthy_bool ⟨H1,I1,q⟩
theorem QrP{e:Expr}{t:TE}(h:PE X e t)(he:∀whole,isTrue e X.env whole=(do let v<-whole;standAt e.pos;holding [v] (truthy v)):=by intro _;rfl):PT X e (tB t):=by intro aa s σ H Q I hw;refine isTrue_plain (thn (h aa s σ H _ I hw) λv s1⟨x,H1,I1,r1,q1⟩=>?_) (he _);obtain⟨d,rfl,q⟩:=q1;cases r1;exact wpAny_truthy_bool ⟨H1,I1,q⟩
variable{tA gy:TT}{rest:List Expr}
def Qrh(t u:TT):TT:=λσ H Q=>t σ H λc H1=>if c=true then u σ H1 Q else Q false H1
def tOr(t u:TT):TT:=λσ H Q=>t σ H λc H1=>if c=true then Q true H1 else u σ H1 Q
def QtL(t:TT):TT:=λσ H Q=>t σ H λc H1=>Q (!c) H1
theorem Qqb(ha:PT X a tA):PW X (.BoolOp .And [a] pos) tA:=by intro wh aa s σ H Q I h;refine isTrue_and (thn (ha aa s σ H Q I h) λc s1 e=>?_);cases c with|true=>exact isTrue_and_nil e|false=>exact e
theorem QrN(ha:PT X a tA):PW X (.BoolOp .Or [a] pos) tA:=by intro wh aa s σ H Q I h;refine isTrue_or (thn (ha aa s σ H Q I h) λc s1 e=>?_);cases c with|false=>exact isTrue_or_nil e|true=>exact e
theorem QrO(ha:PT X a tA)(hb:PW X (.BoolOp .And (b::rest) pos) gy):PW X (.BoolOp .And (a::b::rest) pos) (Qrh tA gy):=by intro wh aa s σ H Q I h;refine isTrue_and (thn (ha aa s σ H _ I h) λc s1⟨H1,I1,q1⟩=>?_);cases c with|true=>exact hb wh aa s1 σ H1 Q I1 q1|false=>exact⟨H1,I1,q1⟩
theorem Qs4(ha:PT X a tA)(hb:PW X (.BoolOp .Or (b::rest) pos) gy):PW X (.BoolOp .Or (a::b::rest) pos) (tOr tA gy):=by intro wh aa s σ H Q I h;refine isTrue_or (thn (ha aa s σ H _ I h) λc s1⟨H1,I1,q1⟩=>?_);cases c with|true=>exact⟨H1,I1,q1⟩|false=>exact hb wh aa s1 σ H1 Q I1 q1
theorem QrR(ha:PT X a tA):PT X (.UnaryOp .Not a pos) (QtL tA):=by intro aa s σ H Q I h;exact isTrue_not (ha aa s σ H (λc H1=>Q (!c) H1) I h)
noncomputable def QsZ(ta tb:TE):TE:=λσ H Q=>ta σ H λx H1=>∃c,x=.bl c/\if c=true then tb σ H1 Q else Q (.bl false) H1
theorem QrW{op}{t:TE}(h:PE X a t):PE X (.BoolOp op [a] pos) t:=λaa s σ H Q I hw=>BoolOp_one (h aa s σ H Q I hw)
theorem QrZ(ha:PE X a ta)(hb:PE X (.BoolOp .And (b::rest) pos) tb):PE X (.BoolOp .And (a::b::rest) pos) (QsZ ta tb):=by intro aa s σ H Q I h;refine BoolOp_and (thn (ha aa s σ H _ I h) λv s1⟨x,H1,I1,r1,q1⟩=>?_);obtain⟨c,rfl,q1⟩:=q1;cases r1;refine wpAny_truthy_bool ?_;cases c with|true=>exact hb aa s1 σ H1 Q I1 q1|false=>exact⟨.bl false,H1,I1,rfl,q1⟩
def tIf(t:TT)(ta tb:TE):TE:=λσ H Q=>t σ H λc H1=>if c=true then ta σ H1 Q else tb σ H1 Q
theorem Qoy{c:Expr}(hc:PT X c tA)(ha:PE X a ta)(hb:PE X b tb):PE X (.IfExp c a b pos) (tIf tA ta tb):=by intro aa s σ H Q I h;refine wpAny_IfExp (thn (hc aa s σ H _ I h) λd s1⟨H1,I1,q1⟩=>?_);cases d with|true=>exact ha aa s1 σ H1 Q I1 q1|false=>exact hb aa s1 σ H1 Q I1 q1
end
def SqL(K:W.Frag)(H:Hp)(a:Addr)(xs:List V):Prop:=Rd H a (.lst xs)\/∃(o:Obj)(its:Array Value)(n:Nat),K.lookup a=some o/\o.cls=.type "list"/\o.dict=none/\o.data=.seq its n/\its.size<=sizeLine/\Vals xs its.toList
def SqT(K:W.Frag)(H:Hp)(a:Addr)(xs:List V):Prop:=Rd H a (.tup xs)\/∃(o:Obj)(its:Array Value)(n:Nat),K.lookup a=some o/\o.cls=.type "tuple"/\o.data=.seq its n/\its.size<=sizeLine/\Vals xs its.toList
noncomputable def Qt6:Value->Option V|.none=>some .non|.bool b=>some (.bl b)|.int i _=>some (.int i)|.str x _=>some (.str x)|.bytes b _=>some (.byt b)|.float b _=>some (.flt b)|.ref a=>some (.ref a)|.type n=>some (.ty n)|_=>none
theorem RelV.abs{x:V}{u:Value}(r:RelV x u):Qt6 u=some x:=by cases x with|non=>cases r;rfl|bl _=>cases r;rfl|int _=>obtain⟨t,rfl⟩:=r;rfl|str _=>obtain⟨t,rfl⟩:=r;rfl|byt _=>obtain⟨t,rfl⟩:=r;rfl|flt _=>obtain⟨t,rfl⟩:=r;rfl|ref _=>cases r;rfl|ty _=>cases r;rfl
theorem RelV.inj{x y:V}{u:Value}(r:RelV x u)(q:RelV y u):x=y:=Option.some.inj (r.abs.symm.trans q.abs)
theorem Vals.inj:∀{xs ys:List V}{us:List Value},Vals xs us->Vals ys us->xs=ys|_,_,_,.nil,.nil=>rfl|_,_,_,.cons r t,.cons r' t'=>by rw[r.inj r',Vals.inj t t']
section
variable{X:Cx}{aa:List (Addr×Obj)}{σ:St}{H:Hp}{s:Shared}{a:Addr}{xs ys:List V}
theorem SqL.of{K:W.Frag}(h:H a=some (.lst xs)):SqL K H a xs:=.inl (.inl h)
theorem SqT.of{K:W.Frag}(h:H a=some (.tup xs)):SqT K H a xs:=.inl (.inl h)
theorem Inv.list(I:Inv X aa σ H s)(h:SqL X.K H a xs):∃its:List Value,Vals xs its/\PlainL s.heap a its.toArray/\xs.length<=sizeLine:=by
 rcases h with h|⟨o,its,n,hk,hc,hd,hs,hz,r⟩
 ·obtain⟨z,its,n,r,e⟩:=h.ok I.hok;exact⟨its,r,⟨_,n,e,rfl,rfl,rfl⟩,z⟩
 ·refine⟨its.toList,r,⟨o,n,I.kIn a o hk,hc,hd,by simpa using hs⟩,?_⟩;have e:=r.length;simp only[length_toList]at e;omega
theorem Inv.tuple(I:Inv X aa σ H s)(h:SqT X.K H a xs):∃its:List Value,Vals xs its/\IsTup s.heap a its.toArray/\xs.length<=sizeLine:=by
 rcases h with h|⟨o,its,n,hk,hc,hs,hz,r⟩
 ·obtain⟨z,its,r,p⟩:=h.ok I.hok;exact⟨its,r,p,z⟩
 ·refine⟨its.toList,r,⟨o,I.kIn a o hk,hc,n,by simpa using hs⟩,?_⟩;have e:=r.length;simp only[length_toList]at e;omega
theorem Inv.list_inj(I:Inv X aa σ H s)(h:SqL X.K H a xs)(h':SqL X.K H a ys):xs=ys:=by
 obtain⟨its,r,⟨o,n,e,_,_,d⟩,_⟩:=I.list h;obtain⟨its',r',⟨o',n',e',_,_,d'⟩,_⟩:=I.list h';rw[e]at e';cases e';rw[d]at d';injection d' with d1 _;have:its=its':=by simpa using congrArg Array.toList d1
 subst this;exact r.inj r'
end
noncomputable abbrev Cx.wish(X:Cx)(E:Value->Shared->Prop):Cx:={X with xe:=E}
abbrev Cx.nox(X:Cx):Cx:=X.wish λ_ _=>False
theorem Cx.Ok.wish{X:Cx}(ok:X.Ok)(E:Value->Shared->Prop):(X.wish E).Ok:=⟨ok.mod,ok.kind,ok.glob,ok.blt,ok.above,ok.inj,ok.has,ok.cab,ok.hd,ok.frames,ok.stk,ok.exf,ok.bs,ok.bsz,ok.noex,ok.exfs,ok.funs,ok.frf⟩
theorem Cx.Ok.unwish{X:Cx}{E:Value->Shared->Prop}(ok:(X.wish E).Ok):X.Ok:=⟨ok.mod,ok.kind,ok.glob,ok.blt,ok.above,ok.inj,ok.has,ok.cab,ok.hd,ok.frames,ok.stk,ok.exf,ok.bs,ok.bsz,ok.noex,ok.exfs,ok.funs,ok.frf⟩
section
variable{X:Cx}{aa:List (Addr×Obj)}{σ:St}{H:Hp}{s:Shared}{E:Value->Shared->Prop}
theorem Inv.wish(I:Inv X aa σ H s)(E:Value->Shared->Prop):Inv (X.wish E) aa σ H s:=⟨I.ok.wish E,I.os,I.bare,I.ae,I.loc,I.cell,I.free,I.freeC,I.pin,I.hok,I.len⟩
theorem Inv.unwish(I:Inv (X.wish E) aa σ H s):Inv X aa σ H s:=⟨I.ok.unwish,I.os,I.bare,I.ae,I.loc,I.cell,I.free,I.freeC,I.pin,I.hok,I.len⟩
theorem SP.unwish{D:Ends}{f:Flow}{s':Shared}(h:SP (X.wish E) aa D f s'):SP X aa D f s':=by cases f with|next=>obtain⟨σ',H',I,q⟩:=h;exact⟨σ',H',I.unwish,q⟩|brk=>obtain⟨σ',H',I,q⟩:=h;exact⟨σ',H',I.unwish,q⟩|cont=>obtain⟨σ',H',I,q⟩:=h;exact⟨σ',H',I.unwish,q⟩|ret u=>obtain⟨v,σ',H',I,r,q⟩:=h;exact⟨v,σ',H',I.unwish,r,q⟩
theorem PE.nox{e:Expr}{t:TE}(h:PE X.nox e t):PE X e t:=λaa s σ H Q I hw=>wpAny_mono (h aa s σ H Q (I.wish _) hw) (λ_ _⟨v,H',I',r,q⟩=>⟨v,H',I'.unwish,r,q⟩) λ_ _ z=>False.elim z
theorem PT.nox{e:Expr}{t:TT}(h:PT X.nox e t):PT X e t:=λaa s σ H Q I hw=>wpAny_mono (h aa s σ H Q (I.wish _) hw) (λ_ _⟨H',I',q⟩=>⟨H',I'.unwish,q⟩) λ_ _ z=>False.elim z
theorem PSs.nox{st:List Stmt}{t:TS}(h:PSs X.nox st t):PSs X st t:=λaa s σ H D I hw=>wpAny_mono (h aa s σ H D (I.wish _) hw) (λ_ _ q=>q.unwish) λ_ _ z=>False.elim z
end
section
variable{X:Cx}{st:Stmt}{rest:List Stmt}{t u:TS}{e:Expr}{te:TE}{pos:Pos}
def QsV:TS:=λD σ H=>D.nx σ H
noncomputable def QtI(t u:TS):TS:=λD σ H=>t {D with nx:=u D} σ H
theorem Qqd:PSs X [] QsV:=λ_ _ σ H _ I h=>wpAny_execs_nil ⟨σ,H,I,h⟩
theorem Qil(h1:PS X st t)(h2:PSs X rest u):PSs X (st::rest) (QtI t u):=by intro aa s σ H D I h;refine wpAny_execs_cons (thn (h1 aa s σ H {D with nx:=u D} I h) λf s1 q=>?_);cases f with|next=>obtain⟨σ',H',I',q⟩:=q;exact h2 aa s1 σ' H' D I' q|ret v=>exact q|brk=>exact q|cont=>exact q
theorem Qkf(h1:PS X st t):PSs X [st] t:=by intro aa s σ H D I h;refine wpAny_execs_cons (thn (h1 aa s σ H D I h) λf s1 q=>?_);cases f with|next=>exact wpAny_execs_nil q|ret v=>exact q|brk=>exact q|cont=>exact q
def QsX:TS:=λD σ H=>D.ct σ H
theorem QjI:PS X (.Continue pos) QsX:=λ_ _ σ H _ I h=>wpAny_Continue ⟨σ,H,I,h⟩
theorem Inv.quiet{aa:List (Addr×Obj)}{σ:St}{H:Hp}{s:Shared}(I:Inv X aa σ H s):interactive X.env=false:=by simp[interactive,I.ok.kind]
noncomputable def QsW(te:TE):TS:=λD σ H=>te σ H λ_ H1=>D.nx σ H1
theorem Qeo(he:PE X e te)(hs:swapsWith e none pos.line X.env=pure false:=by rfl):PS X (.Expr e pos) (QsW te):=by intro aa s σ H D I h;exact wpAny_Expr_any (thn (he aa s σ H _ I h) λv s1⟨x,H1,I1,r1,q1⟩=>⟨σ,H1,I1,q1⟩) I.quiet hs
noncomputable def QtJ(te:TE):TS:=λD σ H=>te σ H D.rt
theorem QhX(he:PE X e te):PS X (.Return (some e) pos) (QtJ te):=by intro aa s σ H D I h;exact wpAny_Return_some (thn (he aa s σ H _ I h) λv s1⟨x,H1,I1,r1,q1⟩=>⟨x,σ,H1,I1,r1,q1⟩)
def QtN(c:TT)(t u:TS):TS:=λD σ H=>c σ H λb H1=>if b=true then t D σ H1 else u D σ H1
theorem Qs5{c:Expr}{a b:List Stmt}{tc:TT}(hc:PT X c tc)(ha:PSs X a t)(hb:PSs X b u):PS X (.If c a b pos) (QtN tc t u):=by intro aa s σ H D I h;refine wpAny_If (thn (hc aa s σ H _ I h) λd s1⟨H1,I1,q1⟩=>?_);cases d with|true=>exact ha aa s1 σ H1 D I1 q1|false=>exact hb aa s1 σ H1 D I1 q1
end
noncomputable abbrev TG:=V->St->Hp->(St->Hp->Prop)->Prop
noncomputable abbrev TGs:=List V->St->Hp->(St->Hp->Prop)->Prop
def PG(X:Cx)(target:Expr)(t:TG):Prop:=∀(aa:List (Addr×Obj))(s:Shared)(σ:St)(H:Hp)(v:V)(u:Value)(Q:St->Hp->Prop),Inv X aa σ H s->RelV v u->t v σ H Q->wpAny (model X.prog X.w) X.A (assign target X.env u) (λ_ s'=>∃σ' H',Inv X aa σ' H' s'/\Q σ' H') X.xe s
def PGs(X:Cx)(ts:List Expr)(t:TGs):Prop:=∀(aa:List (Addr×Obj))(s:Shared)(σ:St)(H:Hp)(vs:List V)(us:List Value)(Q:St->Hp->Prop),Inv X aa σ H s->Vals vs us->t vs σ H Q->wpAny (model X.prog X.w) X.A (assignInOrder ((assignEach ts X.env).map (·.2)) us) (λ_ s'=>∃σ' H',Inv X aa σ' H' s'/\Q σ' H') X.xe s
abbrev TIp:=V->V->Hp->VK->Prop
def PIp(X:Cx)(op:Operator)(t:TIp):Prop:=∀(aa:List (Addr×Obj))(s:Shared)(σ:St)(H:Hp)(x y:V)(v u:Value)(Q:VK),Inv X aa σ H s->RelV x v->RelV y u->t x y H Q->wpAny (model X.prog X.w) X.A (inplaceOp op v u) (EP X aa σ Q) X.xe s
section
variable{X:Cx}{pos:Pos}
def QpK(i:Nat):TG:=λv σ H Q=>Q (σ.set i (some v)) H
theorem Qqj{i:Nat}{x:Str}(hN:X.N.Nodup)(hi:X.N[i]?=some x)(hx:Loc X.env.scope x)(hf:X.fn x=true\/X.env.scope.names.lookup x=some .local:=by first|exact .inl rfl|exact .inr rfl|assumption):PG X (.Name x pos) (QpK i):=by intro aa s σ H v u Q I r h;exact wpAny_assign_Name (Qas I hN hi hx r (λs' I'=>⟨_,H,I',h⟩) hf)
def Qt0:TGs:=λvs σ H Q=>vs=[]/\Q σ H
def Qtm(t:TG)(u:TGs):TGs:=λvs σ H Q=>∃v r,vs=v::r/\t v σ H λσ' H'=>u r σ' H' Q
theorem Qqi:PGs X [] Qt0:=by intro aa s σ H vs us Q I r h;obtain⟨e,h⟩:=h;subst e;cases r;exact assignInOrder_nil ⟨σ,H,I,h⟩
theorem Qow{e:Expr}{es:List Expr}{t:TG}{u:TGs}(h1:PG X e t)(h2:PGs X es u)(hs:(assignEach (e::es) X.env).map (·.2)=assign e X.env::(assignEach es X.env).map (·.2):=by rfl):PGs X (e::es) (Qtm t u):=by intro aa s σ H vs us Q I r h;obtain⟨v,vr,e1,h⟩:=h;subst e1;cases r with|cons r rr=>rw[hs];refine assignInOrder_cons (thn (h1 aa s σ H _ _ _ I r h) λ_ s1⟨σ1,H1,I1,q1⟩=>?_);exact h2 aa s1 σ1 H1 _ _ Q I1 rr q1
def QtZ(K:W.Frag)(n:Nat)(t:TGs):TG:=λv σ H Q=>∃a xs,v=.ref a/\SqT K H a xs/\xs.length=n/\t xs σ H Q
theorem QrU{es:List Expr}{k:Nat}{t:TGs}{n:Nat}(hc:X.calm=true)(h:PGs X es t)(hn:(assignEach es X.env).length=n:=by rfl)(b5:(assignEach es X.env).findIdx? (·.1)=none:=by rfl):PG X (.Tuple es k pos) (QtZ X.K n t):=by intro aa s σ H v u Q I r hw;obtain⟨a,xs,e1,hq,hl,hw⟩:=hw;subst e1;cases r;obtain⟨its,rv,ht,hz⟩:=I.tuple hq;refine assign_Tuple_tuple (I.ok.hd hc) ht (by simp[hn,<-hl,rv.length]) b5 λh' hx=>?_;have I1:Inv X aa σ H {s with heap:=h'}:=I.kept (t':=s.toks) λb o e=>hx b o (ne_of_lt (Heap.lt_size e)) e;exact h aa _ σ H xs _ Q I1 (by simpa using rv) hw
def QnV(te:TE)(g:TG):TS:=λD σ H=>te σ H λx H1=>g x σ H1 D.nx
theorem Qma{tg e:Expr}{te:TE}{g:TG}(he:PE X e te)(hg:PG X tg g)(hs:swapsWithSole [tg] e pos.line X.env=pure false:=by rfl)(hw:swappedStores [tg] e X.env=pure none:=by rfl)(h1:(assignEach [tg] X.env).map (·.2)=[assign tg X.env]:=by rfl):PS X (.Assign [tg] e pos) (QnV te g):=by intro aa s σ H D I h;refine wpAny_Assign_stores (thn (he aa s σ H _ I h) λv s1⟨x,H1,I1,r1,q1⟩=>?_) hs hw;rw[h1];exact thn (hg aa s1 σ H1 x v _ I1 r1 q1) λ_ s2 q=>q
theorem Ql9{i:Nat}{x:Str}{e:Expr}{te:TE}{pos':Pos}(hN:X.N.Nodup)(hi:X.N[i]?=some x)(hx:Loc X.env.scope x)(he:PE X e te)(hs:swapsWith e (some (.Name x pos')) pos.line X.env=pure false:=by rfl)(hf:X.fn x=true\/X.env.scope.names.lookup x=some .local:=by first|exact .inl rfl|exact .inr rfl|assumption):PS X (.Assign [.Name x pos'] e pos) (QnV te (QpK i)):=by intro aa s σ H D I h;refine wpAny_Assign_Name (thn (he aa s σ H _ I h) λv s1⟨y,H1,I1,r1,q1⟩=>?_) hs;exact Qas I1 hN hi hx r1 (λs2 I2=>⟨_,H1,I2,q1⟩) hf
noncomputable def QtR(i:Nat)(te:TE)(ti:TIp):TS:=λD σ H=>∃x,σ[i]?=some (some x)/\te σ H λy H1=>ti x y H1 λz H2=>D.nx (σ.set i (some z)) H2
theorem QrT{i:Nat}{x:Str}{e:Expr}{te:TE}{op:Operator}{ti:TIp}{pos':Pos}(hN:X.N.Nodup)(hi:X.N[i]?=some x)(hx:Loc X.env.scope x)(he:PE X e te)(ho:PIp X op ti)(hf:X.fn x=true\/X.env.scope.names.lookup x=some .local:=by first|exact .inl rfl|exact .inr rfl|assumption):PS X (.AugAssign (.Name x pos') op e pos) (QtR i te ti):=by
 intro aa s σ H D I h;obtain⟨v,e1,h⟩:=h;obtain⟨m,hn,hl⟩:=I.loc;have j5:Vis X.env.scope x:=by rcases hx with k|k;exact .inl k;exact .inr (.inl k)
 obtain⟨u,r,l⟩:=hl i x v hi e1 j5;refine wpAny_AugAssign_Name ?_;have go:wpAny (model X.prog X.w) X.A (eval e X.env) (λw s₂=>wpAny (model X.prog X.w) X.A (inplaceOp op u w) (λr s₃=>wpAny (model X.prog X.w) X.A (storeName X.env x r) (λ_=>SP X aa D .next) X.xe s₃) X.xe s₂) X.xe s:=by
  refine thn (he aa s σ H _ I h) λw s1⟨y,H1,I1,r1,q1⟩=>?_;refine thn (ho aa s1 σ H1 v y u w _ I1 r r1 q1) λz s2⟨zv,H2,I2,r2,q2⟩=>?_;exact Qas I2 hN hi hx r2 (λs3 I3=>⟨_,H2,I3,q2⟩) hf
 rcases l with⟨hk,hm⟩|⟨hk,c,hc,bO⟩;·exact wpAny_loadName_local I.ok.kind hk hn hm go
 ·rcases hk with hk|hk;·exact wpAny_loadName_cell I.ok.kind hk hc bO go
  ·rcases hx with k|k;·have:X.env.scope.names.lookup x=some .free:=hk;rw[k]at this;cases this
   ·have:X.env.scope.names.lookup x=some .free:=hk;rw[k]at this;cases this
end
structure It where
 go:Nat->Hp->Prop
 yld:Nat->Hp->V->Hp->Prop
 stop:Nat->Hp->Prop
def VR(X:Cx)(aa:List (Addr×Obj))(H:Hp)(b:Addr):Prop:=H b=none/\b≠X.env.locals/\b∉X.fs/\(b∈X.ex\/X.s₀.heap.objs.size<=b)/\(∀x c,X.env.cells.lookup x=some c->c≠b)/\∀p∈X.pn++aa,p.1≠b
theorem Inv.fpOk{X:Cx}{aa:List (Addr×Obj)}{σ:St}{H H':Hp}{s:Shared}{b:Addr}(I:Inv X aa σ H s)(hb:s.heap.objs.size<=b)(hn:H' b=none):VR X aa H' b:=by
 refine⟨hn,ne_of_gt (lt_of_lt_of_le I.lt hb),I.nofs hb,.inr (le_trans I.sz hb),λx c e z=>?_,λp hp z=>?_⟩
 ·obtain⟨v,q⟩:=I.cell x c e;exact absurd (lt_of_lt_of_le q.lt (by rw[z];exact hb)) (lt_irrefl _)
 ·exact absurd (lt_of_lt_of_le (Heap.lt_size (I.pin p hp).1) (by rw[z];exact hb)) (lt_irrefl _)
structure Turn(P:Program)(w:World)(K:W.Frag)(tg:Expr)(J:It)(fp:List Addr)(it:Addr)(tn:Nat->Heap->Prop):Prop where
 mem:it∈fp
 obj:∀i h,tn i h->∀b∈fp,∃o,h.get? b=some o/\∀v,o.data≠.cell v
 keep:∀i h h',tn i h->(∀b∈fp,∀o,h.get? b=some o->h'.get? b=some o)->tn i h'
 item:∀(X:Cx),X.prog=P->X.w=w->X.K=K->X.calm=true->∀(i:Nat)(aa:List (Addr×Obj))(s:Shared)(σ:St)(H:Hp)(E:Value->Shared->Prop),Inv X aa σ H s->(∀b∈fp,VR X aa H b)->tn i s.heap->J.go i H->wpAny (model P w) X.A (pyNext (.ref it)) (λr s1=>∃u,r=some u/\wpAny (model P w) X.A (letOwnedTupleGo tg (.ref it) u) (λ_ s2=>∃x H',Inv X aa σ H' s2/\RelV x u/\J.yld i H x H'/\tn (i+1) s2.heap/\∀b∈fp,H' b=none) E s1) E s
 done:∀(X:Cx),X.prog=P->X.w=w->X.K=K->X.calm=true->∀(i:Nat)(aa:List (Addr×Obj))(s:Shared)(σ:St)(H:Hp)(E:Value->Shared->Prop),Inv X aa σ H s->(∀b∈fp,VR X aa H b)->tn i s.heap->J.stop i H->wpAny (model P w) X.A (pyNext (.ref it)) (λr s1=>r=none/\Inv X aa σ H s1) E s
 self:∀(A:Around)(i:Nat)(s:Shared)(Q:Value->Shared->Prop)(E:Value->Shared->Prop),tn i s.heap->Q (.ref it) s->wpAny (model P w) A (pyIter (.ref it)) Q E s
abbrev TI:=St->Hp->(It->Hp->Prop)->Prop
def PIE(X:Cx)(aa:List (Addr×Obj))(σ:St)(tg:Expr)(R:It->Hp->Prop)(hG:Value)(s2:Shared):Prop:=∃(it:Addr)(fp:List Addr)(tn:Nat->Heap->Prop)(J:It)(H':Hp),hG=.ref it/\Inv X aa σ H' s2/\Turn X.prog X.w X.K tg J fp it tn/\tn 0 s2.heap/\(∀b∈fp,VR X aa H' b)/\R J H'
def PI(X:Cx)(tg iter:Expr)(wi:TI):Prop:=∀(aa:List (Addr×Obj))(s:Shared)(σ:St)(H:Hp)(R:It->Hp->Prop),Inv X aa σ H s->wi σ H R->wpAny (model X.prog X.w) X.A (eval iter X.env) (λv s1=>wpAny (model X.prog X.w) X.A (pyIter v) (PIE X aa σ tg R) X.xe s1) X.xe s
theorem QpJ{M:Model}{A:Around}{E:Value->Shared->Prop}{s:Shared}{tg:Expr}{it:Addr}{u:Value}{o:Obj}{n:String}{vs:Array Value}{Q:Unit->Shared->Prop}(ho:s.heap.get? it=some o)(hc:o.cls=.type n)(hd:o.data=.fields vs)(hn:["enumerate","zip","dict_itemiterator","dict_reverseitemiterator","odict_iterator","itertools.zip_longest","itertools.pairwise"].contains n=false)(hQ:Q () s):wpAny M A (letOwnedTupleGo tg (.ref it) u) Q E s:=by unfold letOwnedTupleGo;cases tg<;>first|exact wpAny_pure hQ|(cases u<;>first|exact wpAny_pure hQ|(refine wpAny_bind (wpAny_load ho ?_);rw[hc,hd];show wpAny M A (if(["enumerate","zip","dict_itemiterator","dict_reverseitemiterator","odict_iterator","itertools.zip_longest","itertools.pairwise"].contains n&&vs[0]?==some (rawInt _))=true then _ else _) Q E s;rw[if_neg (by intro h;rw[hn,Bool.false_and]at h;cases h)];exact wpAny_pure hQ))
def Itl(K:W.Frag)(a:Addr):It:=⟨λi H=>∃xs x,SqL K H a xs/\xs[i]?=some x,λi H x H'=>H'=H/\∀xs,SqL K H a xs->xs[i]?=some x,λi H=>∃xs,SqL K H a xs/\xs.length<=i⟩
noncomputable def Itr(lo:Int)(n:Nat):It:=⟨λi _=>i<n,λi H x H'=>H'=H/\x=.int (lo+i),λi _=>n<=i⟩
theorem QmJ{P:Program}{w:World}{K:W.Frag}{tg:Expr}(a it:Addr):Turn P w K tg (Itl K a) [it] it (λi h=>h.IsListIter it a i)where
 mem:=by simp
 obj:=λi h st b hb=>by
  have e:b=it:=by simpa using hb
  subst e;obtain⟨o,e,c,d⟩:=st;exact⟨o,e,λv z=>by rw[d]at z;cases z⟩
 keep:=λi h h' st k=>st.at λo e=>k it (by simp) o e
 item:=by
  intro X hP hw hK hc i aa s σ H E I hf st hg;subst hP hw hK;obtain⟨xs,x,hq,hx⟩:=hg;obtain⟨its,rv,p,hz⟩:=I.list hq;obtain⟨u,hu,ru⟩:=rv.get hx;obtain⟨f0,f1,f2,f3,f4,f5⟩:=hf it (by simp);refine wpAny_pyNext_list_item st p.isList (x:=u) (by simpa using hu) λh' ft sb=>?_;have I1:Inv X aa σ H {s with heap:=h'}:=I.turned (t':=s.toks) (λb o hb e=>(sb.2 b hb).trans e) f0 f1 f3 f4 f5;obtain⟨o,e,c,d⟩:=id ft;exact⟨u,rfl,QpJ (s:={s with heap:=h'}) e c d (by decide) ⟨x,H,I1,ru,⟨rfl,λys hy=>by rw[I.list_inj hy hq];exact hx⟩,ft,λb hb=>(hf b hb).1⟩⟩
 done:=by
  intro X hP hw hK hc i aa s σ H E I hf st hg;subst hP hw hK;obtain⟨xs,hq,hx⟩:=hg;obtain⟨its,rv,p,hz⟩:=I.list hq;obtain⟨f0,f1,f2,f3,f4,f5⟩:=hf it (by simp);have hl:=rv.length;exact wpAny_pyNext_list_end (I.ok.hd hc) st p.isList (by simp;omega) λh' eb=>⟨rfl,I.turned (t':=s.toks) (λb o hb e=>eb b o hb e) f0 f1 f3 f4 f5⟩
 self:=λ_ _ _ _ _ st h=>wpAny_pyIter_listiter st h
theorem Qlj{P:Program}{w:World}{K:W.Frag}{tg:Expr}(it:Addr)(lo:Int)(n:Nat):Turn P w K tg (Itr lo n) [it] it (λi h=>IsRangeIter h it (lo+(i:Nat)*1) ((n:Int)-(i:Nat)) 1)where
 mem:=by simp
 obj:=λi h st b hb=>by
  have e:b=it:=by simpa using hb
  subst e;exact⟨_,st,λv z=>by have z':Data.fields _=Data.cell v:=z;cases z'⟩
 keep:=λi h h' st k=>k it (by simp) _ st
 item:=by
  intro X hP hw hK hc i aa s σ H E I hf st hg;subst hP hw hK;obtain⟨f0,f1,f2,f3,f4,f5⟩:=hf it (by simp);have W:=Walks.range (prog:=X.prog) (w:=X.w) (I.ok.hd hc) it lo 1 n;refine W.item i s _ _ hg st λv h' tk hv ft kk=>?_;obtain⟨t,rfl⟩:=hv;have I1:Inv X aa σ H {s with heap:=h',toks:=tk}:=I.turned (λb o hb e=>kk b o (by simpa using hb) e) f0 f1 f3 f4 f5;refine⟨_,rfl,QpJ (s:={s with heap:=h',toks:=tk}) (n:="range_iterator") ft rfl rfl (by decide) ⟨.int (lo+i),H,I1,⟨t,?_⟩,⟨rfl,rfl⟩,ft,λb hb=>(hf b hb).1⟩⟩;rw[Int.mul_one]
 done:=by
  intro X hP hw hK hc i aa s σ H E I hf st hg;subst hP hw hK;obtain⟨f0,f1,f2,f3,f4,f5⟩:=hf it (by simp);exact wpAny_pyNext_range_end (I.ok.hd hc) st (by have:n<=i:=hg;omega) λh' eb=>⟨rfl,I.turned (t':=s.toks) (λb o hb e=>eb b o hb e) f0 f1 f3 f4 f5⟩
 self:=λ_ _ _ _ _ st h=>wpAny_pyIter_rangeiter st h
section
variable{X:Cx}{tg:Expr}
def Qtk(K:W.Frag)(tl:TE):TI:=λσ H R=>tl σ H λx H1=>∃a,x=.ref a/\(∃xs,SqL K H1 a xs)/\R (Itl K a) H1
theorem Qkg{l:Expr}{tl:TE}(hl:PE X l tl):PI X tg l (Qtk X.K tl):=by
 intro aa s σ H R I h;refine thn (hl aa s σ H _ I h) λv s1⟨x,H1,I1,r1,q1⟩=>?_;obtain⟨a,e,⟨xs,hq⟩,q⟩:=q1;subst e;cases r1;obtain⟨its,rv,p,hz⟩:=I1.list hq;refine wpAny_pyIter_list p.isList ?_;refine⟨s1.heap.objs.size,[s1.heap.objs.size],_,_,H1,rfl,I1.kept (t':=s1.toks) λb o e=>Heap.get?_push_of_some _ e,QmJ a _,⟨_,Heap.get?_push_size _ rfl,rfl,rfl⟩,λb hb=>?_,q⟩;have e:b=s1.heap.objs.size:=by simpa using hb
 subst e;exact I1.fpOk (le_refl _) (I1.hok.fresh (le_refl _))
theorem Qou{aa:List (Addr×Obj)}{σ:St}{H:Hp}{s:Shared}{R:It->Hp->Prop}{E:Value->Shared->Prop}{lo hi:Int}{t u v:Tok}{tk:Nat}(I:Inv X aa σ H s)(h1:-2^62<=lo)(h2:lo<2^62)(h3:-2^62<=hi)(h4:hi<2^62)(q:R (Itr lo (hi-lo).toNat) H):wpAny (model X.prog X.w) X.A (pyIter (.ref s.heap.objs.size)) (PIE X aa σ tg R) E {s with heap:=s.heap.push {cls:=.type "range",data:=.fields #[.int lo t,.int hi u,.int 1 v]},toks:=tk}:=by
 refine wpAny_pyIter_range (IsRange.new ..) (small_one h1 h2 h3 h4) ? _;have I1:Inv X aa σ H {s with heap:=s.heap.push {cls:=.type "range",data:=.fields #[.int lo t,.int hi u,.int 1 v]},toks:=tk}:=I.kept λb o e=>Heap.get?_push_of_some _ e;refine⟨(s.heap.push {cls:=.type "range",data:=.fields #[.int lo t,.int hi u,.int 1 v]}).objs.size,[(s.heap.push {cls:=.type "range",data:=.fields #[.int lo t,.int hi u,.int 1 v]}).objs.size],_,_,H,rfl,I1.kept (t':=tk) λb o e=>Heap.get?_push_of_some _ e,Qlj _ lo (hi-lo).toNat,? _,λb hb=>? _,q⟩
 ·have e1:lo+((0:Nat):Int)*1=lo:=by simp
  have e2:(((hi-lo).toNat:Nat):Int)-((0:Nat):Int)=Builtin.Range.rangeSize lo hi 1:=by rw[rangeSize_one];split<;>omega
  show IsRangeIter _ _ (lo+((0:Nat):Int)*1) ((((hi-lo).toNat:Nat):Int)-((0:Nat):Int)) 1;rw[e1,e2];exact Heap.get?_push_size _ rfl
 ·have e:b=(s.heap.push {cls:=.type "range",data:=.fields #[.int lo t,.int hi u,.int 1 v]}).objs.size:=by simpa using hb
  subst e;exact I1.fpOk (le_refl _) (I1.hok.fresh (le_refl _))
def Qtj(ta:TA):TI:=λσ H R=>ta σ H λvs H1=>∃j:Int,vs=[.int j]/\-2^62<=j/\j<2^62/\R (Itr 0 j.toNat) H1
theorem QmZ{a:Expr}{ta:TA}{p pos:Pos}(hg:Gl X "range")(hm:X.mg "range"=none)(ha:PA X [a] ta)(hs:starEach [a] X.env=[(false,eval a X.env)]:=by rfl):PI X tg (.Call (.Name "range" p) [a] [] pos) (Qtj ta):=by intro aa s σ H R I h;refine Call_ (QdS I hg hm boot_range (PyProof.Rows.callWith_type1 (thn (ha pos aa s σ H _ I h) λus s1⟨vs,H1,I1,r1,q1⟩=>?_) hs rfl));obtain⟨j,e,q1,q2,q⟩:=q1;subst e;cases r1 with|cons r rr=>cases rr;obtain⟨t,rfl⟩:=r;exact call_range_1 (Qou I1 (by omega) (by omega) q1 q2 (by simpa using q))
def QtO(wi:TI)(g:TG)(tb:TS):TS:=λD σ H=>wi σ H λJ H1=>∃W:Nat->Nat->St->Hp->Prop,(∃m,W 0 m σ H1)/\∀i m σ H,W i m σ H->J.stop i H/\D.nx σ H\/J.go i H/\∃N:St->Hp->Prop,(∀σ' H',N σ' H'->∃m',m'<m/\W (i+1) m' σ' H')/\∀x H',J.yld i H x H'->g x σ H' λσ2 H2=>tb {D with nx:=N,ct:=N,bk:=D.nx} σ2 H2
noncomputable def QdL(fp:List Addr)(h:Heap):List (Addr×Obj):=fp.filterMap λb=>(h.get? b).map λo=>(b,o)
theorem Qbc{fp:List Addr}{h:Heap}{b:Addr}{o:Obj}(hb:b∈fp)(e:h.get? b=some o):(b,o)∈QdL fp h:=List.mem_filterMap.mpr ⟨b,hb,by rw[e];rfl⟩
theorem Qm9{fp:List Addr}{h:Heap}{p:Addr×Obj}(hp:p∈QdL fp h):p.1∈fp/\h.get? p.1=some p.2:=by obtain⟨b,hb,e⟩:=List.mem_filterMap.mp hp;cases q:h.get? b with|none=>rw[q]at e;cases e|some o=>rw[q]at e;have e':(b,o)=p:=Option.some.inj e;subst e';exact⟨hb,q⟩
theorem Inv.pinned{aa:List (Addr×Obj)}{σ:St}{H:Hp}{s:Shared}{fp:List Addr}(I:Inv X aa σ H s)(hf:∀b∈fp,VR X aa H b)(ho:∀b∈fp,∃o,s.heap.get? b=some o/\∀v,o.data≠.cell v):Inv X (aa++QdL fp s.heap) σ H s:=I.pins_of λp hp=>(List.mem_append.mp hp).elim (λz=>I.pin p (mem_append_right _ z)) λz=>by obtain⟨hb,e⟩:=Qm9 z;obtain⟨f0,f1,f2,_⟩:=hf p.1 hb;obtain⟨o,e',d⟩:=ho p.1 hb;rw[e]at e';cases e';exact⟨e,f0,f1,f2,d⟩
theorem Inv.unpinned{aa pl:List (Addr×Obj)}{σ:St}{H:Hp}{s:Shared}(I:Inv X (aa++pl) σ H s):Inv X aa σ H s:=I.pins_of λp hp=>I.pin p (mem_append_right _ (List.mem_append_left _ hp))
theorem QrS{iter:Expr}{body:List Stmt}{wi:TI}{g:TG}{tb:TS}{pos:Pos}(hp:PassesOwn (model X.prog X.w) X.A X.env X.xe)(hc:X.calm=true)(hi:PI X tg iter wi)(hg:PG X tg g)(hb:PSs X body tb)(hs:∀x,foldedSetIterable iter X.env x=pure x:=by intro _;rfl):PS X (.For tg iter body [] pos) (QtO wi g tb):=by
 intro aa s σ H D I h;refine wpAny_For (thn (hi aa s σ H _ I h) λv s1 h1=>thn h1 λhG s2 h2=>?_) hs;obtain⟨it,fp,tn,J,H2,e,I2,T,dB,f2,W,⟨m0,w0⟩,turn⟩:=h2;subst e;have stat:∀{H':Hp},(∀b∈fp,H' b=none)->∀b∈fp,VR X aa H' b:=λhn b hb=>⟨hn b hb,(f2 b hb).2⟩;refine codeAny_forLoop_any (λn s'=>∃i σ' H',Inv X aa σ' H' s'/\tn i s'.heap/\(∀b∈fp,H' b=none)/\W i n σ' H') ?_ m0 ⟨0,σ,H2,I2,dB,λb hb=>(f2 b hb).1,w0⟩;rintro n s3⟨i,σ3,H3,I3,d7,fV,w3⟩;rcases turn i n σ3 H3 w3 with⟨stop,qn⟩|⟨go,N,hN,step⟩
 ·refine wpAny_passesOwn hp (thn (T.done X rfl rfl rfl hc i aa s3 σ3 H3 X.xe I3 (stat fV) d7 stop) λr s4⟨hr,I4⟩=>?_);subst hr;exact wpAny_execs_nil ⟨σ3,H3,I4,qn⟩
 ·refine wpAny_passesOwn hp (thn (T.item X rfl rfl rfl hc i aa s3 σ3 H3 X.xe I3 (stat fV) d7 go) λr s4⟨u,hr,h4⟩=>?_);subst hr;refine wpAny_passesOwn hp (thn h4 λ_ s5⟨x,H5,I5,r5,y5,d6,iP⟩=>?_);have iW:=I5.pinned (stat iP) (T.obj _ _ d6);refine wpAny_passesOwn hp (thn (hg _ s5 σ3 H5 x u _ iW r5 (step x H5 y5)) λ_ s6⟨σ6,H6,I6,q6⟩=>?_);refine wpAny_passesOwn hp (thn (hb _ s6 σ6 H6 _ I6 q6) λf s7 q7=>?_);have again:∀{σ7:St}{H7:Hp},Inv X (aa++QdL fp s5.heap) σ7 H7 s7->N σ7 H7->∃m,m<n/\∃i σ' H',Inv X aa σ' H' s7/\tn i s7.heap/\(∀b∈fp,H' b=none)/\W i m σ' H':=λ{σ7 H7}I7 n7=>by
   obtain⟨m',hm,w7⟩:=hN σ7 H7 n7;refine⟨m',hm,i+1,σ7,H7,I7.unpinned,T.keep _ _ _ d6 λb hb o e=>(I7.pin (b,o) (mem_append_right _ (mem_append_right _ (Qbc hb e)))).1,λb hb=>?_,w7⟩;obtain⟨o,e,d⟩:=T.obj _ _ d6 b hb;exact(I7.pin (b,o) (mem_append_right _ (mem_append_right _ (Qbc hb e)))).2.1
  cases f with
  |next=>obtain⟨σ7,H7,I7,n7⟩:=q7;exact again I7 n7|cont=>obtain⟨σ7,H7,I7,n7⟩:=q7;exact again I7 n7|brk=>obtain⟨σ7,H7,I7,q7⟩:=q7;exact⟨σ7,H7,I7.unpinned,q7⟩|ret v=>obtain⟨x7,σ7,H7,I7,r7,q7⟩:=q7;exact⟨x7,σ7,H7,I7.unpinned,r7,q7⟩
end
abbrev R2:=V->V->Hp->VK->Prop
def OpR(X:Cx)(f:Value->Value->Sem Value)(r:R2):Prop:=∀(aa:List (Addr×Obj))(s:Shared)(σ:St)(H:Hp)(x y:V)(v u:Value)(Q:VK),Inv X aa σ H s->RelV x v->RelV y u->r x y H Q->wpAny (model X.prog X.w) X.A (f v u) (EP X aa σ Q) X.xe s
def UnR(X:Cx)(f:Value->Sem Value)(r:V->Hp->VK->Prop):Prop:=∀(aa:List (Addr×Obj))(s:Shared)(σ:St)(H:Hp)(x:V)(v:Value)(Q:VK),Inv X aa σ H s->RelV x v->r x H Q->wpAny (model X.prog X.w) X.A (f v) (EP X aa σ Q) X.xe s
def CallR(X:Cx)(f:Value)(r:List V->Hp->VK->Prop):Prop:=∀(aa:List (Addr×Obj))(s:Shared)(σ:St)(H:Hp)(xs:List V)(us:List Value)(Q:VK),Inv X aa σ H s->Vals xs us->r xs H Q->wpAny (model X.prog X.w) X.A (call f us) (EP X aa σ Q) X.xe s
noncomputable def tOp(r:R2)(ta tb:TE):TE:=λσ H Q=>ta σ H λx H1=>tb σ H1 λy H2=>r x y H2 Q
noncomputable def tUn(r:V->Hp->VK->Prop)(ta:TE):TE:=λσ H Q=>ta σ H λx H1=>r x H1 Q
noncomputable def rI(C:Int->Int->Prop)(g:Int->Int->V):R2:=λx y H Q=>∃i j,x=.int i/\y=.int j/\C i j/\Q (g i j) H
noncomputable def rI0(g:Int->Int->V):R2:=λx y H Q=>∃i j,x=.int i/\y=.int j/\Q (g i j) H
noncomputable def rU(g:Int->V):V->Hp->VK->Prop:=λx H Q=>∃i,x=.int i/\Q (g i) H
section
variable{X:Cx}{a b c:Expr}{ta tb tc:TE}{pos:Pos}
theorem Qn6(ha:PE X a ta)(hb:PE X b tb){aa:List (Addr×Obj)}{s:Shared}{σ:St}{H:Hp}{R:V->V->Hp->Prop}(I:Inv X aa σ H s)(h:ta σ H λx H1=>tb σ H1 λy H2=>R x y H2){Q:Value->Shared->Prop}{f:Value->Value->Sem Value}(hf:∀v u s2 x y H2,Inv X aa σ H2 s2->RelV x v->RelV y u->R x y H2->wpAny (model X.prog X.w) X.A (f v u) Q X.xe s2):wpAny (model X.prog X.w) X.A (eval a X.env) (λv s₁=>wpAny (model X.prog X.w) X.A (eval b X.env) (λu s₂=>wpAny (model X.prog X.w) X.A (f v u) Q X.xe s₂) X.xe s₁) X.xe s:=by refine thn (ha aa s σ H _ I h) λv s1⟨x,H1,I1,r1,q1⟩=>?_;refine thn (hb aa s1 σ H1 _ I1 q1) λu s2⟨y,H2,I2,r2,q2⟩=>?_;exact hf v u s2 x y H2 I2 r1 r2 q2
theorem Qpw{op:Operator}{r:R2}(ho:OpR X (binaryOp op) r)(ha:PE X a ta)(hb:PE X b tb):PE X (.BinOp a op b pos) (tOp r ta tb):=by intro aa s σ H Q I h;exact wpAny_BinOp (Qn6 ha hb I h λv u s2 x y H2 I2 rx ry q=>ho aa s2 σ H2 x y v u Q I2 rx ry q)
theorem Qs7{op:UnaryOp}{r:V->Hp->VK->Prop}(ho:UnR X (unaryOp op) r)(ha:PE X a ta):PE X (.UnaryOp op a pos) (tUn r ta):=by intro aa s σ H Q I h;exact UnaryOp_ (thn (ha aa s σ H _ I h) λv s1⟨x,H1,I1,r1,q1⟩=>ho aa s1 σ H1 x v Q I1 r1 q1)
theorem opI{f:Value->Value->Sem Value}{C:Int->Int->Prop}{g:Int->Int->Int}(rule:∀(i j:Int)(t u:Tok)(s:Shared)(Q:Value->Shared->Prop)(E:Value->Shared->Prop),C i j->Q (.int (g i j) s.toks) {s with toks:=s.toks+1}->wpAny (model X.prog X.w) X.A (f (.int i t) (.int j u)) Q E s):OpR X f (rI C λi j=>.int (g i j)):=by intro aa s σ H x y v u Q I rx ry h;obtain⟨i,j,rfl,rfl,hc,q⟩:=h;obtain⟨t,rfl⟩:=rx;obtain⟨t',rfl⟩:=ry;exact rule i j t t' s _ _ hc ⟨.int (g i j),H,I.tok _,⟨_,rfl⟩,q⟩
theorem Qn0{f:Value->Value->Sem Value}{g:Int->Int->Int}(rule:∀(i j:Int)(t u:Tok)(s:Shared)(Q:Value->Shared->Prop)(E:Value->Shared->Prop),Q (.int (g i j) s.toks) {s with toks:=s.toks+1}->wpAny (model X.prog X.w) X.A (f (.int i t) (.int j u)) Q E s):OpR X f (rI0 λi j=>.int (g i j)):=by intro aa s σ H x y v u Q I rx ry h;obtain⟨i,j,rfl,rfl,q⟩:=h;obtain⟨t,rfl⟩:=rx;obtain⟨t',rfl⟩:=ry;exact rule i j t t' s _ _ ⟨.int (g i j),H,I.tok _,⟨_,rfl⟩,q⟩
theorem Qn1{f:Value->Value->Sem Value}{g:Int->Int->Bool}(rule:∀(i j:Int)(t u:Tok)(s:Shared)(Q:Value->Shared->Prop)(E:Value->Shared->Prop),Q (.bool (g i j)) s->wpAny (model X.prog X.w) X.A (f (.int i t) (.int j u)) Q E s):OpR X f (rI0 λi j=>.bl (g i j)):=by intro aa s σ H x y v u Q I rx ry h;obtain⟨i,j,rfl,rfl,q⟩:=h;obtain⟨t,rfl⟩:=rx;obtain⟨t',rfl⟩:=ry;exact rule i j t t' s _ _ ⟨.bl (g i j),H,I,rfl,q⟩
def Qob(i j:Int):Prop:=0<j/\j<1073741824
def Qoa(i j:Int):Prop:=0<=j/\j<=1000000/\i.natAbs<2^64
def CMul(i j:Int):Prop:=-2^64<i/\i<2^64\/-2^64<j/\j<2^64
theorem CMul.ok{i j:Int}(h:CMul i j):IntMulOk i j:=by
 rcases h with⟨h1,h2⟩|⟨h1,h2⟩;·exact .of_left (intBits_le_64 h1 h2)
 ·exact .of_right (intBits_le_64 h1 h2)
theorem Qr7:OpR X (binaryOp .Add) (rI0 λi j=>.int (i+j)):=Qn0 λ_ _ _ _ _ _ _ q=>add_int q
theorem Qr1:OpR X (binaryOp .Sub) (rI0 λi j=>.int (i-j)):=Qn0 λ_ _ _ _ _ _ _ q=>sub_int q
theorem Qmf:OpR X (binaryOp .Mult) (rI CMul λi j=>.int (i*j)):=opI λ_ _ _ _ _ _ _ hc q=>mul_int q hc.ok
theorem Qqp:OpR X (binaryOp .FloorDiv) (rI Qob λi j=>.int (i/j)):=opI λi j _ _ _ _ _ hc q=>by have h1:(0:Int)<j:=hc.1;have h2:j<1073741824:=hc.2;exact floordiv_int (by omega) (by rw[Int.fdiv_eq_ediv_of_nonneg i (by omega)];exact q) (.inl (PyProof.noPylong_small (by omega)))
theorem Qr4:OpR X (binaryOp .Mod) (rI (λ_ j=>0<j) λi j=>.int (i%j)):=opI λi j _ _ _ _ _ hc q=>by have h1:(0:Int)<j:=hc;exact mod_int' (by omega) (by rw[Int.fmod_eq_emod_of_nonneg i (by omega)];exact q)
theorem Qr3:OpR X (binaryOp .Pow) (rI Qoa λi j=>.int (i^j.toNat)):=opI λ_ _ _ _ _ _ _ hc q=>pow_int_small hc.1 hc.2.1 hc.2.2 q
theorem QqH:OpR X (inplaceOp .Sub) (rI0 λi j=>.int (i-j)):=Qn0 λ_ _ _ _ _ _ _ q=>isub_int q
theorem unI{f:Value->Sem Value}{g:Int->Int}(rule:∀(i:Int)(t:Tok)(s:Shared)(Q:Value->Shared->Prop)(E:Value->Shared->Prop),Q (.int (g i) s.toks) {s with toks:=s.toks+1}->wpAny (model X.prog X.w) X.A (f (.int i t)) Q E s):UnR X f (rU λi=>.int (g i)):=by intro aa s σ H x v Q I rx h;obtain⟨i,rfl,q⟩:=h;obtain⟨t,rfl⟩:=rx;exact rule i t s _ _ ⟨.int (g i),H,I.tok _,⟨_,rfl⟩,q⟩
theorem Qrz:UnR X (unaryOp .USub) (rU λi=>.int (-i)):=unI λ_ _ _ _ _ q=>neg_int q
end
section
variable{X:Cx}{a b c:Expr}{ta tb tc:TE}{pos:Pos}
theorem Qsu{aa:List (Addr×Obj)}{σ:St}{H:Hp}{s:Shared}{Q:VK}{k k':Bool}(I:Inv X aa σ H s)(q:Q (.bl k) H)(e:k=k'):EP X aa σ Q (.bool k') s:=by subst e;exact⟨.bl k,H,I,rfl,q⟩
theorem Qtb:OpR X (compareOp .Lt) (rI0 λi j=>.bl (decide (i<j))):=Qn1 λ_ _ _ _ _ _ _ q=>lt_int q
theorem Qtc:OpR X (compareOp .LtE) (rI0 λi j=>.bl (decide (i<=j))):=Qn1 λ_ _ _ _ _ _ _ q=>le_int q
theorem Qtd:OpR X (compareOp .Gt) (rI0 λi j=>.bl (decide (j<i))):=Qn1 λ_ _ _ _ _ _ _ q=>gt_int q
theorem OpR.or{f:Value->Value->Sem Value}{r r':R2}(h:OpR X f r)(h':OpR X f r'):OpR X f λx y H Q=>r x y H Q\/r' x y H Q:=by
 intro aa s σ H x y v u Q I rx ry q;rcases q with q|q;·exact h aa s σ H x y v u Q I rx ry q
 ·exact h' aa s σ H x y v u Q I rx ry q
theorem QS(b:Expr){op:CmpOp}(h:op≠.In:=by decide)(h2:op≠.NotIn:=by decide):behindInMarks op b=false:=by
 have e1:(op==CmpOp.In)=false:=by cases op<;>first|rfl|exact absurd rfl h
 have e2:(op==CmpOp.NotIn)=false:=by cases op<;>first|rfl|exact absurd rfl h2
 cases b<;>simp[behindInMarks,e1,e2]
theorem Qql{op:CmpOp}{r:R2}(ho:OpR X (compareOp op) r)(ha:PE X a ta)(hb:PE X b tb)(hm:behindInMarks op b=false):PE X (.Compare a [op] [b] pos) (tOp r ta tb):=by intro aa s σ H Q I h;exact wpAny_Compare1 (Qn6 ha hb I h λv u s2 x y H2 I2 rx ry q=>ho aa s2 σ H2 x y v u Q I2 rx ry q) hm
def QsT(t:TE):TT:=λσ H Q=>t σ H λx H'=>∃k,x=.bl k/\Q k H'
theorem Qke{op:CmpOp}{r:R2}(ho:OpR X (compareOp op) r)(ha:PE X a ta)(hb:PE X b tb)(hm:behindInMarks op b=false):PT X (.Compare a [op] [b] pos) (QsT (tOp r ta tb)):=by intro aa s σ H Q I h;refine wpAny_isTrue_Compare1 (thn (ha aa s σ H _ I h) λv s1⟨x,H1,I1,r1,q1⟩=>thn (hb aa s1 σ H1 _ I1 q1) λu s2⟨y,H2,I2,r2,q2⟩=>thn (ho aa s2 σ H2 x y v u _ I2 r1 r2 q2) λc s3⟨z,H3,I3,r3,k,e,q3⟩=>?_) hm;subst e;cases r3;exact wpAny_truthy_bool ⟨H3,I3,q3⟩
noncomputable def Ql4(r r':R2)(ta tb tc:TE):TE:=λσ H Q=>ta σ H λx H1=>tb σ H1 λy H2=>r x y H2 λz H3=>∃k,z=.bl k/\if k=true then tc σ H3 λw' H4=>r' y w' H4 Q else Q (.bl false) H3
theorem QoA{op d9:CmpOp}{r r':R2}(ho:OpR X (compareOp op) r)(cq:OpR X (compareOp d9) r')(ha:PE X a ta)(hb:PE X b tb)(hc:PE X c tc)(hm:lastMarks [op,d9] [b,c]=false:=by with_unfolding_all rfl):PE X (.Compare a [op,d9] [b,c] pos) (Ql4 r r' ta tb tc):=by intro aa s σ H Q I h;refine Compare_chain (thn (ha aa s σ H _ I h) λv s1⟨x,H1,I1,r1,q1⟩=>chain_link (thn (hb aa s1 σ H1 _ I1 q1) λu s2⟨y,H2,I2,r2,q2⟩=>thn (ho aa s2 σ H2 x y v u _ I2 r1 r2 q2) λd s3⟨z,H3,I3,r3,k,e,q3⟩=>?_)) hm;subst e;cases r3;refine wpAny_truthy_bool ?_;cases k with|false=>exact ite_ff ⟨.bl false,H3,I3,rfl,q3⟩|true=>exact ite_tt (chain_last (thn (hc aa s3 σ H3 _ I3 q3) λw' s4⟨z',H4,I4,r4,q4⟩=>cq aa s4 σ H4 y z' u w' Q I4 r2 r4 q4))
theorem QdR:(sizeLine:Nat)<2^63:=by rw[sizeLine_eq];decide
theorem Qls:OpR X (binaryOp .Add) λx y H Q=>∃i j,x=.str i/\y=.str j/\i.length+j.length<=sizeLine/\Q (.str (i++j)) H:=by intro aa s σ H x y v u Q I rx ry h;obtain⟨i,j,rfl,rfl,hz,q⟩:=h;obtain⟨t,rfl⟩:=rx;obtain⟨t',rfl⟩:=ry;exact add_str (λt' tk=>⟨.str (i++j),H,I.tok _,⟨_,rfl⟩,q⟩) hz
theorem QaK{x:V}{us:List Value}(r:Vals [x] us):∃u,us=[u]/\RelV x u:=by cases r with|cons r1 r2=>cases r2;exact⟨_,rfl,r1⟩
theorem QhC{x y:V}{us:List Value}(r:Vals [x,y] us):∃u w',us=[u,w']/\RelV x u/\RelV y w':=by cases r with|cons r1 r2=>cases r2 with|cons r3 r4=>cases r4;exact⟨_,_,rfl,r1,r3⟩
theorem QnM(hc:X.calm=true):CallR X (.builtin "max") λxs H Q=>∃i j,xs=[.int i,.int j]/\Q (.int (if j>i then j else i)) H:=by
 intro aa s σ H xs us Q I r h;obtain⟨i,j,rfl,q⟩:=h;obtain⟨u,w',rfl,⟨t,rfl⟩,⟨t',rfl⟩⟩:=QhC r;refine max_two_ints (I.ok.hd hc) λh' tk k=>⟨_,H,I.kept k,? _,q⟩;by_cases hj:j>i;·rw[if_pos hj,if_pos hj];exact⟨_,rfl⟩
 ·rw[if_neg hj,if_neg hj];exact⟨_,rfl⟩
theorem QnK(hc:X.calm=true):CallR X (.builtin "min") λxs H Q=>∃i j,xs=[.int i,.int j]/\Q (.int (if j<i then j else i)) H:=by
 intro aa s σ H xs us Q I r h;obtain⟨i,j,rfl,q⟩:=h;obtain⟨u,w',rfl,⟨t,rfl⟩,⟨t',rfl⟩⟩:=QhC r;refine min_two_ints (I.ok.hd hc) λh' tk k=>⟨_,H,I.kept k,? _,q⟩;by_cases hj:j<i;·rw[if_pos hj,if_pos hj];exact⟨_,rfl⟩
 ·rw[if_neg hj,if_neg hj];exact⟨_,rfl⟩
theorem QnN:CallR X (.type "int") λxs H Q=>(∃i,xs=[.int i]/\Q (.int i) H)\/∃k,xs=[.bl k]/\Q (.int (if k then 1 else 0)) H:=by
 intro aa s σ H xs us Q I r h;rcases h with⟨i,rfl,q⟩|⟨k,rfl,q⟩;·obtain⟨u,rfl,t,rfl⟩:=QaK r;exact call_int_int ⟨.int i,H,I,⟨_,rfl⟩,q⟩
 ·obtain⟨u,rfl,r1⟩:=QaK r;cases r1;exact call_int_bool ⟨.int (if k then 1 else 0),H,I.tok _,⟨_,rfl⟩,q⟩
theorem Qjq:CallR X (.type "str") λxs H Q=>∃i,xs=[.int i]/\i.natAbs.log2<1920/\Q (.str (toString i)) H:=by intro aa s σ H xs us Q I r h;obtain⟨i,rfl,hz,q⟩:=h;obtain⟨u,rfl,t,rfl⟩:=QaK r;exact PySem.P.str_of_int hz ⟨.str _,H,I.tok _,⟨_,rfl⟩,q⟩
end
structure ObjM(h:Heap)(x dx C:Addr)(mA:Str->Option Value):Prop where
 obj:h.get? x=some (W.instObj C dx)ns:h.Ns1 dx mA
 ne:dx≠x
theorem QgW{h:Heap}{dx:Addr}{mA:Str->Option Value}(n:h.Ns1 dx mA):∃od,h.get? dx=some od/\∀name,W.lookIn name od=some (mA name):=by
 obtain⟨o,es,ep,ho,hd,hk,_,hm⟩:=n;refine⟨o,ho,λname=>?_⟩;have e:=hm name;unfold nsFind findBy at e;rw[<-Array.find?_toList]at e;unfold W.lookIn;rw[hd];dsimp only;split;·rename_i y q;rw[q]at e;exact congrArg some e
 ·rename_i q;rw[q]at e;have a:es.toList.any (·.refKey)=false:=by
   rw[List.any_eq_false];intro y hy;obtain⟨z,t,jg⟩:=hk y (Array.mem_toList_iff.mp hy);simp[DictEntry.refKey,jg]
  have a':¬es.toList.any (·.refKey)=true:=by rw[a];exact Bool.false_ne_true
  rw[if_neg a'];exact congrArg some e
theorem ObjM.look{h:Heap}{x dx C:Addr}{mA:Str->Option Value}(I:ObjM h x dx C mA):∃od,W.InstAt h x (W.instObj C dx) C (some od)/\∀name,W.lookIn name od=some (mA name):=let⟨od,ho,hl⟩:=QgW I.ns
 ⟨od,⟨I.obj,rfl,rfl,ho⟩,hl⟩
theorem RelO.some_of{v:V}{o:Option Value}(r:RelO (some v) o):∃u,o=some u/\RelV v u:=by cases o with|none=>exact(show False from r).elim|some u=>exact⟨u,rfl,r⟩
theorem Qno{v:V}{u:Value}(r:RelV v u):W.handedIn u=true:=by cases v with|non=>cases show u=Value.none from r;rfl|bl b=>cases show u=Value.bool b from r;rfl|int i=>obtain⟨t,e⟩:=show∃t,u=Value.int i t from r;cases e;rfl|str x=>obtain⟨t,e⟩:=show∃t,u=Value.str x t from r;cases e;rfl|byt b=>obtain⟨t,e⟩:=show∃t,u=Value.bytes b t from r;cases e;rfl|flt b=>obtain⟨t,e⟩:=show∃t,u=Value.float b t from r;cases e;rfl|ref a=>cases show u=Value.ref a from r;rfl|ty n=>cases show u=Value.type n from r;rfl
section
variable{P:Program}{w:World}{H H':Hp}{h h':Heap}{a C dx:Addr}{fs iN:List (Str×V)}
theorem QqJ(hok:HOk P w H h)(e:H a=some (.ins C dx fs)):∃mA,ObjM h a dx C mA/\(∀f,RelO (fs.lookup f) (mA f))/\PySem.Within mA (fs.map (·.1))/\fs.length<=1000/\H dx=some (.own a):=by obtain⟨d,z,ne,ob,mA,n,r,q⟩:=show ObjOk P w H h a (.ins C dx fs)from hok a _ e;exact⟨mA,⟨ob,n,ne⟩,r,q,z,d⟩
end
structure Cls(K:W.Frag)(C:Addr):Prop where
 pg:W.plainGet K C Str.empty=true
 hd:W.hasDictIn K C=true
 po:W.plainOver K C=true
 sa:W.findIn K (.ref C) "__setattr__"=some (some (.builtin "object.__setattr__"))
theorem Cls.get{K:W.Frag}{C:Addr}(c:Cls K C)(f:Str):W.plainGet K C f=true:=c.pg
section
variable{X:Cx}{aa:List (Addr×Obj)}{σ:St}{H:Hp}{s:Shared}{a C dx:Addr}{fs:List (Str×V)}{f:Str}{v:V}{A:Around}{E:Value->Shared->Prop}
theorem Qrd{prog:Program}{w:World}{env:Env}{e:Expr}{f:Str}{pos:Pos}{s:Shared}{Q:Value->Shared->Prop}(hb:attributeBase e f env (eval e env)=eval e env)(h:wpAny (model prog w) A (eval e env) (λo s₁=>wpAny (model prog w) A (getAttr o f true) Q E s₁) E s):wpAny (model prog w) A (eval (.Attribute e f pos) env) Q E s:=Attribute_any_ h (by rw[arm_eval_Attribute,hb])
end
section
variable{X:Cx}{aa:List (Addr×Obj)}{σ:St}{H:Hp}{s:Shared}{A:Around}{E:Value->Shared->Prop}{Q:Value->Shared->Prop}{c:Value}{b:Bool}
inductive TyOf(K:W.Frag)(H:Hp):V->Value->Prop where|non:TyOf K H .non (.type "NoneType")|bl(x:Bool):TyOf K H (.bl x) (.type "bool")|int(i:Int):TyOf K H (.int i) (.type "int")|str(x:Str):TyOf K H (.str x) (.type "str")|flt(x:UInt64):TyOf K H (.flt x) (.type "float")|lst{a:Addr}{xs:List V}(e:H a=some (.lst xs)):TyOf K H (.ref a) (.type "list")|frz{a:Addr}{o:Obj}{xs:List V}(e:H a=some (.frz o (.lst xs))):TyOf K H (.ref a) (.type "list")|tup{a:Addr}{xs:List V}(e:H a=some (.tup xs)):TyOf K H (.ref a) (.type "tuple")|dK{a:Addr}{aj:List (Key×V)}(e:H a=some (.dK aj)):TyOf K H (.ref a) (.type "dict")|dT{a:Addr}{aj:List (List Key×V)}(e:H a=some (.dT aj)):TyOf K H (.ref a) (.type "dict")|frzD{a:Addr}{o:Obj}{aj:List (Key×V)}(e:H a=some (.frz o (.dK aj))):TyOf K H (.ref a) (.type "dict")|ins{a C dx:Addr}{fs:List (Str×V)}(e:H a=some (.ins C dx fs))(cl:Cls K C)(ha:W.findIn K (.ref C) "__class__"=some (some (.builtin "object.__class__")))(hn:W.specialIn K (.builtin "object.__class__") "__get__"=some (some (.builtin "getset_descriptor.__get__")))(jE:W.takesIn K (.builtin "object.__class__")=some true)(hm:W.mroIn K C (.type "object")=some true):TyOf K H (.ref a) (.ref C)
theorem Qnl{x:V}{u t:Value}(I:Inv X aa σ H s)(rx:RelV x u)(ty:TyOf X.K H x t)(e:W.kitOne X.K t c=some b)(h:∀tk,Q (.bool b) {s with toks:=tk}):wpAny (model X.prog X.w) A (call (.builtin "isinstance") [u,c]) Q E s:=by cases ty with|non=>cases(show u=Value.none from rx);exact W.kia_one W.kitx_none I.kIn True.intro e (λz=>nomatch z) h|bl y=>cases(show u=Value.bool y from rx);exact W.kia_one W.kitx_bool I.kIn True.intro e (λz=>nomatch z) h|int i=>obtain⟨t,q⟩:=(show∃t,u=Value.int i t from rx);cases q;exact W.kia_one W.kitx_int I.kIn True.intro e (λz=>nomatch z) h|str y=>obtain⟨t,q⟩:=(show∃t,u=Value.str y t from rx);cases q;exact W.kia_one W.kitx_str I.kIn True.intro e (λz=>nomatch z) h|flt y=>obtain⟨t,q⟩:=(show∃t,u=Value.float y t from rx);cases q;exact W.kia_one W.kitx_float I.kIn True.intro e (λz=>nomatch z) h|@lst a xs ea=>cases(show u=Value.ref a from rx);obtain⟨_,_,n,_,h1⟩:=(show ObjOk X.prog X.w H s.heap a (.lst xs)from I.hok a _ ea);exact W.kia_one W.kitx_list I.kIn ⟨_,h1,rfl⟩ e (λz=>nomatch z) h|@frz a ob xs ea=>cases(show u=Value.ref a from rx);obtain⟨_,_,_,n,_,h1⟩:=(show ObjOk X.prog X.w H s.heap a (.frz ob (.lst xs))from I.hok a _ ea);exact W.kia_one W.kitx_list I.kIn ⟨_,h1,rfl⟩ e (λz=>nomatch z) h|@tup a xs ea=>cases(show u=Value.ref a from rx);obtain⟨_,_,_,p⟩:=(show ObjOk X.prog X.w H s.heap a (.tup xs)from I.hok a _ ea);obtain⟨o,h1,h2,_⟩:=p;exact W.kia_one W.kitx_tuple I.kIn ⟨o,h1,h2⟩ e (λz=>nomatch z) h|@dK a aj ea=>cases(show u=Value.ref a from rx);obtain⟨_,_,vs,_,p⟩:=(show ObjOk X.prog X.w H s.heap a (.dK aj)from I.hok a _ ea);obtain⟨o,es,ep,h1,h2,_⟩:=p;exact W.kia_one W.kitx_dict I.kIn ⟨o,h1,h2.1⟩ e (λz=>nomatch z) h|@dT a aj ea=>cases(show u=Value.ref a from rx);obtain⟨_,_,xs,_,o,es,ep,h1,h2,_⟩:=(show ObjOk X.prog X.w H s.heap a (.dT aj)from I.hok a _ ea);exact W.kia_one W.kitx_dict I.kIn ⟨o,h1,h2.1⟩ e (λz=>nomatch z) h|@frzD a ob aj ea=>cases(show u=Value.ref a from rx);obtain⟨_,_,vs,_,p⟩:=(show ObjOk X.prog X.w H s.heap a (.frz ob (.dK aj))from I.hok a _ ea).2;obtain⟨o,es,ep,h1,h2,_⟩:=p;exact W.kia_one W.kitx_dict I.kIn ⟨o,h1,h2.1⟩ e (λz=>nomatch z) h|@ins a C dx fs ea cl ha hn jE hm=>cases(show u=Value.ref a from rx);obtain⟨mA,O,_⟩:=QqJ I.hok ea;obtain⟨od,J,_⟩:=O.look;exact W.kia_one (W.kitx_own (cl.get _) cl.hd ha hn jE hm) I.kIn J e (λz=>nomatch z) h
end
structure Room(k:Nat)(A:Around):Prop where
 hd:A.handled=none
 dp:A.depth+3*k+5<recursionLimit
 un:A.units+16*k+200<cLine
theorem Room.mono{j k:Nat}{A:Around}(r:Room k A)(h:j<=k):Room j A:=⟨r.hd,by have:=r.dp;omega,by have:=r.un;omega⟩
theorem Room.deeper{k:Nat}{A:Around}(r:Room (k+1) A)(env:Env):Room k (A.deeper env):=⟨r.hd,by have:=r.dp;show A.depth+1+3*k+5<_;omega,by have:=r.un;show A.units+3+16*k+200<_;omega⟩
theorem Room.in1{k:Nat}{A:Around}(r:Room (k+1) A):Room k A.in1:=⟨r.hd,by have:=r.dp;show A.depth+3*k+5<_;omega,by have:=r.un;show A.units+1+16*k+200<_;omega⟩
theorem QlB{A:Around}{C:Addr}{us:List Value}{kw:List (Str×Value)}:(A.under (.builtin "type.__call__" ⟨.ref C::us,kw⟩)).depth=A.depth+1:=by first|rfl|simp[Around.under,Code.weight,Code.isCreation,Code.isGuard,Code.isCaller,Code.frames,Code.isFrame,guardIds]
theorem QlA{A:Around}{C:Addr}{us:List Value}{kw:List (Str×Value)}:(A.under (.builtin "type.__call__" ⟨.ref C::us,kw⟩)).units=A.units+1:=by first|rfl|simp[Around.under,Code.cUnits,Code.frames,Code.isFrame]
theorem Room.make{k:Nat}{A:Around}(r:Room (k+1) A)(C:Addr)(us:List Value)(kw:List (Str×Value)):Room k (A.under (.builtin "type.__call__" ⟨.ref C::us,kw⟩)):=⟨r.hd,by have:=r.dp;rw[QlB];omega,by have:=r.un;rw[QlA];omega⟩
theorem Room.depth{k:Nat}{A:Around}(r:Room k A):A.depth<recursionLimit:=by have:=r.dp;omega
theorem Room.units{k:Nat}{A:Around}(r:Room k A):A.units+64<cLine:=by have:=r.un;omega
theorem Room.units0{k:Nat}{A:Around}(r:Room k A):A.units<cLine:=by have:=r.un;omega
def QkU:TA:=λ_ H Q=>Q [] H
def Qef(ta:TE)(tr:TA):TA:=λσ H Q=>ta σ H λx H1=>tr σ H1 λxs H2=>Q (x::xs) H2
section
variable{X:Cx}{e:Expr}{es:List Expr}{te:TE}{t:TA}{pos:Pos}
theorem ZV:PA X [] QkU:=λ_ _ _ _ H Q I h=>Calls.spliced_nil ⟨[],H,I,.nil,h⟩
theorem Q6(ha:PE X e te)(hr:PA X es t)(hs:starEach (e::es) X.env=(false,eval e X.env)::starEach es X.env:=by rfl):PA X (e::es) (Qef te t):=by intro pos aa s σ H Q I h;rw[hs];show wpAny _ _ (spliced ((false,eval e X.env)::backTo pos (starEach es X.env))) _ _ s;refine Calls.spliced_cons (thn (ha aa s σ H _ I h) λu s1⟨x,H1,I1,r1,q1⟩=>?_);exact thn (hr pos aa s1 σ H1 _ I1 q1) λus s2⟨xs,H2,I2,r2,q2⟩=>⟨x::xs,H2,I2,.cons r1 r2,q2⟩
def QtH(t:TA):TE:=λσ H Q=>t σ H λxs H1=>xs.length<=sizeLine/\∀p,H1 p=none->Q (.ref p) (upd H1 p (.tup xs))
def QtM(t:TA):TE:=λσ H Q=>t σ H λxs H1=>xs.length<=sizeLine/\∀p,H1 p=none->Q (.ref p) (upd H1 p (.lst xs))
theorem QrV{x1}(h:PA X es t):PE X (.Tuple es x1 pos) (QtH t):=by intro aa s σ H Q I hq;refine wpAny_Tuple_spliced (thn (h pos aa s σ H _ I hq) λus s1⟨xs,H1,I1,r,z,q⟩=>⟨by rw[<-r.length];exact z,?_⟩);have hf:H1 s1.heap.objs.size=none:=I1.hok.fresh (le_refl _);refine⟨.ref s1.heap.objs.size,upd H1 s1.heap.objs.size (.tup xs),I1.laid (t':=s1.toks) (λb u e=>Heap.get?_push_of_some _ e) (le_refl _) ?_,rfl,q _ hf⟩;exact⟨z,us,r,⟨_,Heap.get?_push_size _ rfl,rfl,_,rfl⟩⟩
theorem Qmd(h:PA X es t):PE X (.List es pos) (QtM t):=by intro aa s σ H Q I hq;refine wpAny_List_spliced (thn (h pos aa s σ H _ I hq) λus s1⟨xs,H1,I1,r,z,q⟩=>⟨by rw[<-r.length];exact z,?_⟩);have hf:H1 s1.heap.objs.size=none:=I1.hok.fresh (le_refl _);refine⟨.ref s1.heap.objs.size,upd H1 s1.heap.objs.size (.lst xs),I1.laid (t':=s1.toks) (λb u e=>Heap.get?_push_of_some _ e) (le_refl _) ?_,rfl,q _ hf⟩;exact⟨z,us,0,r,Heap.get?_push_size _ rfl⟩
end
abbrev Sp:=List V->Hp->VK->XK->Prop
noncomputable abbrev CXT:=List Env->Hp->Shared->XK->Value->Shared->Prop
structure Env0(P:Program)(w:World)(K:W.Frag)(mg:Str->Option Value)(ae:Heap)(A:Around)(ag:List Env)(s:Shared)(H:Hp):Prop where
 frames:A.frames=some ag
 mod:Mod K mg ae
 bs:∀b o,ae.get? b=some o->s.heap.get? b=some o/\H b=none
 bsz:ae.objs.size<=s.heap.objs.size
 funs:s.heap.FunFrames ae ag
 frf:∀b∈frs ag,H b=none
 hok:HOk P w H s.heap
 bare:AllBare s.gens
def CE(ag:List Env)(P:Program)(w:World)(H:Hp)(s:Shared)(Q:VK)(u:Value)(s':Shared):Prop:=∃v H',s'.os=s.os/\AllBare s'.gens/\Un (frs ag) [] H H' s.heap s'.heap/\HOk P w H' s'.heap/\RelV v u/\Q v H'
def CR(CX:CXT)(ag:List Env)(P:Program)(w:World)(H:Hp)(s:Shared)(Q:VK)(E:XK)(r:Result)(s':Shared):Prop:=match r with|.ok (.ret u)=>CE ag P w H s Q u s'|.ok _=>False|.error e=>CX ag H s E e s'
structure FnOk(P:Program)(w:World)(K:W.Frag)(mg:Str->Option Value)(ae:Heap)(CX:CXT)(k:Nat)(f:Addr)(fd:FuncData)(ps:List Str)(sp:Sp):Prop where
 len:∀vs H Q E,sp vs H Q E->vs.length=ps.length
 run:∀(A:Around)(ag:List Env)(s:Shared)(H:Hp)(args:Args)(us:List Value)(vs:List V)(Q:VK)(E:XK),Room k A->Env0 P w K mg ae A ag s H->BindsTo s fd args (ps.zip us)->Vals vs us->sp vs H Q E->codeAny (model P w) A (.call (.ref f) args) (CR CX ag P w H s Q E) s
theorem FnOk.mono{P:Program}{w:World}{K:W.Frag}{mg:Str->Option Value}{ae:Heap}{CX:CXT}{j k:Nat}{f:Addr}{fd:FuncData}{ps:List Str}{sp:Sp}(F:FnOk P w K mg ae CX j f fd ps sp)(h:j<=k):FnOk P w K mg ae CX k f fd ps sp:=⟨F.len,λA ag s H args us vs Q E hr=>F.run A ag s H args us vs Q E (hr.mono h)⟩
theorem FnOk.imp{P:Program}{w:World}{K:W.Frag}{mg:Str->Option Value}{ae:Heap}{CX:CXT}{k:Nat}{f:Addr}{fd:FuncData}{ps:List Str}{sp jq:Sp}(F:FnOk P w K mg ae CX k f fd ps sp)(h:∀vs H Q E,jq vs H Q E->sp vs H Q E):FnOk P w K mg ae CX k f fd ps jq:=⟨λvs H Q E q=>F.len vs H Q E (h _ _ _ _ q),λA ag s H args us vs Q E hr he hb hv hs=>F.run A ag s H args us vs Q E hr he hb hv (h _ _ _ _ hs)⟩
theorem Env0.make{P:Program}{w:World}{K:W.Frag}{mg:Str->Option Value}{ae:Heap}{A:Around}{ag:List Env}{s:Shared}{H:Hp}(e:Env0 P w K mg ae A ag s H)(C:Addr)(us:List Value)(kw:List (Str×Value)):Env0 P w K mg ae (A.under (.builtin "type.__call__" ⟨.ref C::us,kw⟩)) ag s H:=⟨by first|exact e.frames|(simpa[Around.under,Code.envs,Code.isFrame,pushEnvs]using e.frames),e.mod,e.bs,e.bsz,e.funs,e.frf,e.hok,e.bare⟩
theorem Env0.in1{P:Program}{w:World}{K:W.Frag}{mg:Str->Option Value}{ae:Heap}{A:Around}{ag:List Env}{s:Shared}{H:Hp}(e:Env0 P w K mg ae A ag s H):Env0 P w K mg ae A.in1 ag s H:=⟨e.frames,e.mod,e.bs,e.bsz,e.funs,e.frf,e.hok,e.bare⟩
section
variable{X:Cx}{aa:List (Addr×Obj)}{σ:St}{H:Hp}{s s':Shared}
theorem Inv.env0(I:Inv X aa σ H s):Env0 X.prog X.w X.K X.mg X.ae X.A X.stack s H:=⟨I.ok.frames,I.ok.mod,I.bs,le_trans I.ok.bsz I.sz,I.stack,I.stkFree,I.hok,I.bare⟩
theorem Inv.after{Q:VK}{u:Value}(I:Inv X aa σ H s)(h:CE X.stack X.prog X.w H s Q u s'):EP X aa σ Q u s':=by obtain⟨v,H',os,bare,un,hok,r,q⟩:=h;obtain⟨hh,g,d,t,ki⟩:=s';obtain rfl:ki=s.os:=os;exact⟨v,H',I.call (h':=hh) (g':=g) (d':=d) (t':=t) (ch:=[]) un hok bare λb z=>absurd z (by simp),r,q⟩
end
def QsY(sp:Sp)(dN:List V)(E:XK)(t:TA):TE:=λσ H Q=>t σ H λvs H1=>sp (vs++dN) H1 Q E
def Binds(K:W.Frag)(fd:FuncData)(ps:List Str)(ds:List Value):Prop:=∀(s:Shared)(us:List Value),K.In s.heap->(us++ds).length=ps.length->BindsTo s fd ⟨us,[]⟩ (ps.zip (us++ds))
theorem Binds.all{K:W.Frag}{fd:FuncData}{ps:List Str}(h:∀us:List Value,us.length=ps.length->bindArgs fd ⟨us,[]⟩=pure (ps.zip us)):Binds K fd ps []:=λs us _ hl=>by rw[append_nil]at hl⊢;exact .of_eq (h us hl)
def Qfx(CX:CXT)(X:Cx)(E:XK):Prop:=∀(aa:List (Addr×Obj))(σ:St)(H:Hp)(s:Shared)(e:Value)(s':Shared),Inv X aa σ H s->CX X.stack H s E e s'->X.xe e s'
section
variable{X:Cx}{CX:CXT}{k:Nat}{f C:Addr}{fd:FuncData}{ps:List Str}{sp:Sp}{dN:List V}{ds:List Value}{E:XK}{x m:Str}{p pos apos:Pos}{e o:Expr}{es:List Expr}{ta:TE}{t:TA}
theorem QrI{aa:List (Addr×Obj)}{σ:St}{H:Hp}{s:Shared}{Q:VK}{us:List Value}{vs:List V}(F:FnOk X.prog X.w X.K X.mg X.ae CX k f fd ps sp)(hr:Room k X.A)(hb:Binds X.K fd ps ds)(hd:Vals dN ds)(hx:Qfx CX X E)(I:Inv X aa σ H s)(r:Vals vs us)(h:sp (vs++dN) H Q E):wpAny (model X.prog X.w) X.A (call (.ref f) us) (EP X aa σ Q) X.xe s:=by
 have r2:Vals (vs++dN) (us++ds):=r.append hd;have hl:(us++ds).length=ps.length:=by rw[<-r2.length];exact F.len _ _ _ _ h
 refine wpAny_call (codeAny_mono (F.run X.A X.stack s H ⟨us,[]⟩ (us++ds) (vs++dN) Q E hr I.env0 (hb s us I.kIn hl) r2 h) λr s' hq=>?_);cases r with|error e=>exact hx aa σ H s e s' I hq|ok fl=>cases fl with|ret u=>exact I.after hq|next=>exact False.elim hq|brk=>exact False.elim hq|cont=>exact False.elim hq
theorem QcE(F:FnOk X.prog X.w X.K X.mg X.ae CX k f fd ps sp)(hr:Room k X.A)(hg:Gl X x)(hm:X.mg x=some (.ref f))(hk:W.keepIn X.K (.ref f)=true)(hb:Binds X.K fd ps ds)(hd:Vals dN ds)(hx:Qfx CX X E)(ha:PA X (e::es) t)(aL:(x==("__debug__":Str))=false:=by decide)(he:starEach (e::es) X.env=(false,eval e X.env)::starEach es X.env:=by rfl)(bc:(backTo pos (starEach es X.env)).any (·.1)=false:=by rfl):PE X (.Call (.Name x p) (e::es) [] pos) (QsY sp dN E t):=by intro aa s σ H Q I h;refine wpAny_Call_Name_kw (Qaq I hg hm ?_ aL);refine W.callWith_K (h₀:=X.ae) I.ok.mod.kin hk (thn (ha pos aa s σ H _ I h) λus s1⟨vs,H1,I1,r,q⟩=>⟨I1.kIn,?_⟩) he bc;exact QrI F hr hb hd hx I1 r q
end
structure FnScope(N P:List Str)(sc:Scope):Prop where
 kind:sc.kind=.function
 co:sc.isCoroutine=false
 gen:sc.isGenerator=false
 nd:N.Nodup
 pre:N.take P.length=P
 par:∀x∈P,sc.names.lookup x=some .local\/sc.names.lookup x=some .cell
 nofree:∀y∈sc.names,y.2≠.free
theorem Qhd{kindOf:Str->Option NameKind}{x:Str}:∀{binds:List (Str×Value)}{m:Str->Option Value},(∀v,(x,v)∉binds)->bindL kindOf binds m x=m x
 |[],_,_=>rfl|(n,v)::r,m,h=>by
  unfold bindL;rw[Qhd λw hw=>h w (mem_cons_of_mem _ hw)];split
  ·have:x≠n:=by rintro rfl;exact h v mem_cons_self
   simp[this]
  ·rfl
theorem Qhf{kindOf:Str->Option NameKind}{x:Str}:∀{binds:List (Str×Value)}{m:Str->Option Value},(∀v,(x,v)∉binds)->bindC kindOf binds m x=m x
 |[],_,_=>rfl|(n,v)::r,m,h=>by
  unfold bindC;rw[Qhf λw hw=>h w (mem_cons_of_mem _ hw)];split;·rfl
  ·have:x≠n:=by rintro rfl;exact h v mem_cons_self
   simp[this]
theorem Qhe{kindOf:Str->Option NameKind}{x:Str}{v:Value}:∀{P:List Str}{vs:List Value}{i:Nat}{m:Str->Option Value},P.Nodup->P[i]?=some x->vs[i]?=some v->kindOf x=some .local->bindL kindOf (P.zip vs) m x=some v|[],_,_,_,_,h,_,_=>by simp at h|_::_,[],_,_,_,_,h,_=>by simp at h|p::P,w::vs,0,m,nd,h1,h2,hk=>by simp at h1 h2;subst h1;subst h2;show bindL kindOf ((p,w)::P.zip vs) m p=_;unfold bindL;rw[Qhd λv hv=>(List.nodup_cons.mp nd).1 (of_mem_zip hv).1,if_pos hk];simp|p::P,w::vs,i+1,m,nd,h1,h2,hk=>by show bindL kindOf ((p,w)::P.zip vs) m x=_;unfold bindL;exact Qhe (i:=i) (List.nodup_cons.mp nd).2 (by simpa using h1) (by simpa using h2) hk
theorem Qhg{kindOf:Str->Option NameKind}{x:Str}{v:Value}:∀{P:List Str}{vs:List Value}{i:Nat}{m:Str->Option Value},P.Nodup->P[i]?=some x->vs[i]?=some v->kindOf x≠some .local->bindC kindOf (P.zip vs) m x=some v|[],_,_,_,_,h,_,_=>by simp at h|_::_,[],_,_,_,_,h,_=>by simp at h|p::P,w::vs,0,m,nd,h1,h2,hk=>by simp at h1 h2;subst h1;subst h2;show bindC kindOf ((p,w)::P.zip vs) m p=_;unfold bindC;rw[Qhf λv hv=>(List.nodup_cons.mp nd).1 (of_mem_zip hv).1,if_neg hk];simp|p::P,w::vs,i+1,m,nd,h1,h2,hk=>by show bindC kindOf ((p,w)::P.zip vs) m x=_;unfold bindC;exact Qhg (i:=i) (List.nodup_cons.mp nd).2 (by simpa using h1) (by simpa using h2) hk
noncomputable def YV(N:List Str)(vs:List V):St:=vs.map some++List.replicate (N.length-vs.length) none
def ZJ(CX:CXT)(P:Program)(w:World)(K:W.Frag)(mg:Str->Option Value)(ae:Heap)(N:List Str)(qual:Str)(scope:Scope)(f:Addr)(cd:Value)(A:Around)(ag:List Env)(s:Shared)(H:Hp)(E:XK):Cx where
 prog:=P
 w:=w
 K:=K
 mg:=mg
 ae:=ae
 A:=A.deeper (envOfC qual scope s.heap.objs.size f cd)
 N:=N
 s₀:=s
 H₀:=H
 env:=envOfC qual scope s.heap.objs.size f cd
 ag:=ag
 stack:=envOfC qual scope s.heap.objs.size f cd::ag
 ex:=[]
 calm:=true
 fn:=λ_=>true
 pn:=[]
 xe:=λe s'=>wpAny (model P w) (A.deeper (envOfC qual scope s.heap.objs.size f cd)) (leaving (envOfC qual scope s.heap.objs.size f cd) e) (λ_ gz=>CX ag H s E e gz) (λe' gz=>CX ag H s E e' gz) s'
theorem QiP{sc:Scope}{n:Nat}{x:Str}(h:sc.names.lookup x=some .cell):∃c,(cellsFrom n sc.names []).lookup x=some c:=by have q:=W.cellsFrom_some sc.names n [] (.inl h);exact Option.isSome_iff_exists.mp q
theorem Qnm{CX:CXT}{P:Program}{w:World}{K:W.Frag}{mg:Str->Option Value}{ae:Heap}{N ps:List Str}{qual:Str}{scope:Scope}{f:Addr}{cd:Value}{A:Around}{ag:List Env}{s s1:Shared}{H:Hp}{E:XK}{us:List Value}{vs:List V}(S:FnScope N ps scope)(hd:A.handled=none)(e0:Env0 P w K mg ae A ag s H)(hl:vs.length=ps.length)(r:Vals vs us)(x:InCallC s s.heap.objs.size (bindL (envOfC qual scope s.heap.objs.size f cd).kindOf (ps.zip us) λ_=>none) (cellsFrom (s.heap.objs.size+1) scope.names []) (bindC (envOfC qual scope s.heap.objs.size f cd).kindOf (ps.zip us) λ_=>none) s1):Inv (ZJ CX P w K mg ae N qual scope f cd A ag s H E) [] (YV N vs) H s1:=by
 have bc:ps.length<=N.length:=by have:=congrArg List.length S.pre;rw[length_take]at this;omega
 obtain⟨h1,tk,rfl,hk⟩:=x.done;have fA:∀b:Addr,b∉(ZJ CX P w K mg ae N qual scope f cd A ag s H E).ex:=λb z=>absurd (show b∈([]:List Addr)from z) (by simp);refine⟨⟨e0.mod,S.kind,rfl,rfl,le_refl _,λy z c h1 h2=>?_,λy hy=>?_,λy c _ h=>?_,λ_=>hd,Around.frames_deeper e0.frames,.inr ⟨rfl,rfl⟩,λb z=>absurd z (fA b),e0.bs,e0.bsz,λb _ _=>fA b,λb z=>absurd z (fA b),e0.funs,e0.frf⟩,rfl,e0.bare,Un.kept hk,⟨_,x.toInCall.ns,λi y v h1 h2 h3=>?_⟩,λy c h=>⟨_,x.cell y c h⟩,e0.hok.fresh (le_refl _),λy c h=>?_,λp hp=>absurd (show p∈([]:List (Addr×Obj))from hp) (by simp),e0.hok.kept hk,?_⟩;·exact name_of_addr x.apart (PySem.mem_of_lookup h1) (PySem.mem_of_lookup h2)
 ·have hy:scope.names.lookup y=some .cell\/scope.names.lookup y=some .free:=hy;rcases hy with hy|hy;·exact QiP hy
  ·exact absurd rfl (S.nofree _ (PySem.mem_of_lookup hy))
 ·exact le_of_lt (x.above y c (PySem.mem_of_lookup h))
 ·have hi:i<vs.length:=by
   unfold YV at h2;by_cases hi:i<vs.length;·exact hi
   ·rw[getElem?_append_right (by simpa using hi)]at h2;rw[getElem?_replicate]at h2;split at h2<;>cases h2
  have ha:vs[i]?=some v:=by
   unfold YV at h2;rw[getElem?_append_left (by simpa using hi),getElem?_map]at h2;cases e:vs[i]? with
   |none=>rw[e]at h2;cases h2|some a=>rw[e]at h2;cases h2;rfl
  obtain⟨u,hu,rv⟩:=r.get ha;have hp:ps[i]?=some y:=by rw[<-S.pre,List.getElem?_take_of_lt (by omega)];exact h1
  have jz:ps.Nodup:=by rw[<-S.pre];exact S.nd.sublist (List.take_sublist _ _)
  refine⟨u,rv,?_⟩;rcases S.par y (List.mem_of_getElem? hp)with k|k;·exact .inl ⟨k,Qhe jz hp hu k⟩
  ·obtain⟨c,e⟩:=QiP (n:=s.heap.objs.size+1) k;refine .inr ⟨.inl k,c,e,?_⟩;have q:=x.cell y c e;rw[Qhg jz hp hu (by show scope.names.lookup y≠_;rw[k];decide)]at q;exact q
 ·exact e0.hok.fresh (le_of_lt (x.above y c (PySem.mem_of_lookup h)))
 ·unfold YV;show _=N.length;rw[length_append,length_map,length_replicate];omega
theorem QpL{CX:CXT}{P:Program}{w:World}{K:W.Frag}{mg:Str->Option Value}{ae:Heap}{k:Nat}{f:Addr}{name qual:Str}{params:Arguments}{body:List Stmt}{scope:Scope}{dV kV doc pm ao ct oc:Value}{an od:Option Addr}{osl:Array (Option Value)}{N ps:List Str}{sp:Sp}(lk:K.lookup f=some ⟨oc,od,.func (W.fnOf name qual params body scope dV kV doc pm an ao ct),osl⟩)(bC:W.codeIn K ao qual=true)(S:FnScope N ps scope)(len:∀vs H Q E,sp vs H Q E->vs.length=ps.length)(b7:∀(A:Around)(ag:List Env)(s:Shared)(H:Hp)(vs:List V)(Q:VK)(E:XK),Room k (A.deeper (envOfC qual scope s.heap.objs.size f ao))->sp vs H Q E->∃t,PSs (ZJ CX P w K mg ae N qual scope f ao A ag s H E) body t/\t {nx:=λ_ H'=>Q .non H',rt:=Q} (YV N vs) H):FnOk P w K mg ae CX (k+1) f (W.fnOf name qual params body scope dV kV doc pm an ao ct) ps sp:=by
 refine⟨len,λA ag s H args us vs Q E hr e0 hb r cV=>?_⟩;have hl:=len _ _ _ _ cV;have KX:K.In s.heap:=e0.mod.kin.keeps λb o e=>(e0.bs b o e).1;have lim:s.heap.NoLimit:=e0.mod.nolimit.keeps λb o e=>(e0.bs b o e).1;have gu:∀y∈ps.zip us,scope.names.lookup y.1=some .local\/(scope.names.lookup y.1=some .cell/\((cellsFrom (s.heap.objs.size+1) scope.names []).lookup y.1).isSome=true):=λ⟨n,v⟩hy=>by
  rcases S.par n (of_mem_zip hy).1 with q|q;·exact .inl q
  ·exact .inr ⟨q,W.cellsFrom_some _ _ _ (.inl q)⟩
 refine codeAny_call_function hr.depth (KX _ _ lk) rfl S.co S.gen rfl (W.codeRec_of KX bC) (hb _ _ _ _ ?_);refine wpAny_newFunctionEnv_cells S.kind gu λenv he s1 x=>?_;subst he;refine⟨lim.keeps x.toInCall.keep,codeAny_func ?_⟩;obtain⟨t,ht,hq⟩:=b7 A ag s H vs Q E (hr.deeper _) cV;have I:Inv (ZJ CX P w K mg ae N qual scope f ao A ag s H E) [] (YV N vs) H s1:=Qnm S hr.hd e0 hl r x;refine wpAny_mono (ht [] s1 (YV N vs) H _ I hq) (λfl s' hs=>?_) λe s' hs=>hs;have fin:∀{σ':St}{H':Hp}{v:V}{u:Value},Inv (ZJ CX P w K mg ae N qual scope f ao A ag s H E) [] σ' H' s'->RelV v u->Q v H'->CE ag P w H s Q u s':=λ{σ' H' v u}J rv q=>⟨v,H',J.os,J.bare,J.ae,J.hok,rv,q⟩;cases fl with|ret u=>obtain⟨v,σ',H',J,rv,q⟩:=hs;exact fin J rv q|next=>obtain⟨σ',H',J,q⟩:=hs;exact fin (v:=V.non) (u:=Value.none) J rfl q|brk=>obtain⟨_,_,_,q⟩:=hs;exact False.elim q|cont=>obtain⟨_,_,_,q⟩:=hs;exact False.elim q
section
variable{X:Cx}{x:Str}{p pos:Pos}{e:Expr}{es:List Expr}{t:TA}{id T:String}{r:List V->Hp->VK->Prop}
def tCB(r:List V->Hp->VK->Prop)(t:TA):TE:=λσ H Q=>t σ H λvs H1=>r vs H1 Q
theorem QbC(hc:CallR X (.builtin id) r)(hg:Gl X x)(hm:X.mg x=none)(hv:bootBuiltins x=some (.builtin id))(ha:PA X (e::es) t)(hn:x≠"__name__":=by decide)(aL:(x==("__debug__":Str))=false:=by decide)(he:starEach (e::es) X.env=(false,eval e X.env)::starEach es X.env:=by rfl)(bc:(backTo pos (starEach es X.env)).any (·.1)=false:=by rfl):PE X (.Call (.Name x p) (e::es) [] pos) (tCB r t):=by intro aa s σ H Q I h;refine wpAny_Call_Name_kw (QdS I hg hm hv ?_ hn aL);exact PyProof.Rows.callWith_builtin1 (thn (ha pos aa s σ H _ I h) λus s1⟨vs,H1,I1,r1,q1⟩=>hc aa s1 σ H1 vs us Q I1 r1 q1) he bc
theorem QgQ(hc:CallR X (.type T) r)(hg:Gl X x)(hm:X.mg x=none)(hv:bootBuiltins x=some (.type T))(ha:PA X (e::es) t)(hn:x≠"__name__":=by decide)(aL:(x==("__debug__":Str))=false:=by decide)(he:starEach (e::es) X.env=(false,eval e X.env)::starEach es X.env:=by rfl)(bc:(backTo pos (starEach es X.env)).any (·.1)=false:=by rfl):PE X (.Call (.Name x p) (e::es) [] pos) (tCB r t):=by intro aa s σ H Q I h;refine wpAny_Call_Name_kw (QdS I hg hm hv ?_ hn aL);exact PyProof.Rows.callWith_type1 (thn (ha pos aa s σ H _ I h) λus s1⟨vs,H1,I1,r1,q1⟩=>hc aa s1 σ H1 vs us Q I1 r1 q1) he bc
end
end L2
namespace HT
open PySem PyProof.Rows
theorem eqAt_int(A:Around)(s:Shared)(a:Int)(t:Tok)(c:Int)(u:Tok):∃e,SeqAt.EqAt A s (.int a t) (.int c u) e/\(e=true↔a=c):=⟨a==c,SeqAt.EqAt.int_int a t c u,by simp⟩
section
variable{prog:Program}{w:World}{A:Around}{E:Value->Shared->Prop}{s:Shared}
theorem cat_tup{t b:Addr}{vs ws:List Value}{Q:Value->Shared->Prop}(ht:IsTup s.heap t vs.toArray)(hb:IsTup s.heap b ws.toArray)(hv:vs≠[])(h1:ws=[]->Q (.ref t) s)(h2:ws≠[]->Q (.ref s.heap.objs.size) {s with heap:=s.heap.push {cls:=.type "tuple",data:=.seq (vs++ws).toArray}})(hsz:vs.length+ws.length<=sizeLine):wpAny (model prog w) A (binaryOp .Add (.ref t) (.ref b)) Q E s:=by
 obtain⟨⟨cls,dd,data,sl⟩,ho,hc,n,hd⟩:=id ht;obtain⟨⟨jn,eF,data2,eR⟩,eg,fP,n2,hd2⟩:=id hb;simp only at hc hd fP hd2;subst hc hd fP hd2;have e:vs.toArray++ws.toArray=(vs++ws).toArray:=by simp
 by_cases hw:ws=[]
 ·exact concat_meets ⟨_,ho,rfl⟩ ⟨_,eg,rfl⟩ noFill_tuple_add seq_tuple_add PySem.F.slot_tuple_add PySem.F.entry_tuple_add (PySem.F.args_tuple_add_2 _ _) (tuple_addW1 t b vs.toArray ws.toArray n n2 dd eF sl eR (by simpa using hv) (by simp[hw])) ⟨ho,eg,h1 hw⟩
 ·refine concat_meets ⟨_,ho,rfl⟩ ⟨_,eg,rfl⟩ noFill_tuple_add seq_tuple_add PySem.F.slot_tuple_add PySem.F.entry_tuple_add (PySem.F.args_tuple_add_2 _ _) (tuple_addW2 t b vs.toArray ws.toArray n n2 dd eF sl eR (by simpa using hv) (by simpa using hw) (by rw[size_toArray,size_toArray];exact hsz)) ⟨ho,eg,?_⟩;rw[e];exact h2 hw
noncomputable def sIx(n d:Nat):Option Int->Nat|none=>d|some v=>if v<0 then(v+(n:Int)).toNat else min v.toNat n
theorem QrH(n d:Nat)(hd:d<=n)(o:Option Int):sIx n d o<=n:=by cases o with|none=>exact hd|some v=>
  show(if v<0 then(v+(n:Int)).toNat else min v.toNat n)<=n;by_cases hv:v<0;·rw[if_pos hv];omega
  ·rw[if_neg hv];exact Nat.min_le_right _ _
theorem QkF(v:Int)(n d:Nat):(if v<0 then max (v+(n:Int)) 0 else min v (n:Int))=((sIx n d (some v):Nat):Int):=by
 show(if v<0 then max (v+(n:Int)) 0 else min v (n:Int))=((if v<0 then(v+(n:Int)).toNat else min v.toNat n:Nat):Int);by_cases hv:v<0;·simp only[if_pos hv];omega
 ·simp only[if_neg hv];omega
theorem Ql0(lo hi:Option Int)(n:Nat):Builtin.Slice.sliceAdjust lo hi 1 (n:Int)=(((sIx n 0 lo:Nat):Int),((sIx n n hi:Nat):Int)):=by
 have h1:¬((1:Int)<0):=by omega
 unfold Builtin.Slice.sliceAdjust;simp only[h1,if_false];refine Prod.ext ?_ ?_;·cases lo with|none=>rfl|some v=>exact QkF v n 0
 ·cases hi with
  |none=>rfl|some v=>exact QkF v n n
theorem Qlq(i j:Nat):Builtin.Slice.slicePlaces (i:Int) (j:Int) 1=j-i:=by
 unfold Builtin.Slice.slicePlaces;have h1:(1:Int)>0:=by omega
 simp only[h1,if_true,Int.ediv_one];split<;>omega
theorem Qfz{v:Value}{o:Option Int}{Q:Option Int->Shared->Prop}(p:IsPart v o)(h:Q o s):wpAny (model prog w) A (Builtin.Slice.slicePartIndex v) Q E s:=by cases p with|none=>exact slicePart_none h|int i t=>exact slicePart_int h
theorem Qe5{sl:Addr}{vl vu:Value}{lo hi:Option Int}{n:Nat}{Q:Int×Int×Nat->Shared->Prop}(hs:s.heap.IsSliceOf sl vl vu .none)(pl:IsPart vl lo)(pu:IsPart vu hi)(h:Q (((sIx n 0 lo:Nat):Int),1,sIx n n hi-sIx n 0 lo) s):wpAny (model prog w) A (Builtin.Slice.sliceApplied (.ref sl) (pure (n:Int))) Q E s:=by obtain⟨os,c7,jP,gL⟩:=id hs;unfold Builtin.Slice.sliceApplied Builtin.Slice.sliceFields;refine wpAny_bind (wpAny_bind (wpAny_field c7 gL (x:=vl) rfl (wpAny_bind (wpAny_field c7 gL (x:=vu) rfl (wpAny_bind (wpAny_field c7 gL (x:=.none) rfl (wpAny_pure ?_)))))));refine wpAny_bind (slicePart_none ?_);show wpAny _ _ (if((1:Int)==0)=true then _ else _) _ _ s;rw[if_neg (by decide)];refine wpAny_bind (Qfz pl (wpAny_bind (Qfz pu (wpAny_bind (wpAny_pure ?_)))));show wpAny _ _ (match Builtin.Slice.sliceAdjust lo hi 1 (n:Int)with|(lo,hi)=>pure (lo,(1:Int),Builtin.Slice.slicePlaces lo hi 1)) _ _ s;rw[Ql0 lo hi n];show wpAny _ _ (pure (((sIx n 0 lo:Nat):Int),(1:Int),Builtin.Slice.slicePlaces ((sIx n 0 lo:Nat):Int) ((sIx n n hi:Nat):Int) 1)) _ _ s;rw[Qlq];exact wpAny_pure h
theorem Qov(xs:Array Value)(i k:Nat):((List.range k).filterMap λ(m:Nat)=>xs[((i:Int)+(m:Int)*1).toNat]?).toArray=((xs.toList.drop i).take k).toArray:=by
 have e:(λ(m:Nat)=>xs[((i:Int)+(m:Int)*1).toNat]?)=λm=>xs[i+m]?:=by
  funext m;have:((i:Int)+(m:Int)*1).toNat=i+m:=by omega
  rw[this]
 rw[e];have:=pick_run xs i k;rw[List.filterMap_map]at this;have e2:((λx=>xs[x]?)∘λx=>i+x)=λm=>xs[i+m]?:=rfl;rw[e2]at this;rw[this]
theorem getItem_tuple_cut{t sl:Addr}{items:Array Value}{vl vu:Value}{lo hi:Option Int}{Q:Value->Shared->Prop}(ht:IsTup s.heap t items)(hs:s.heap.IsSliceOf sl vl vu .none)(pl:IsPart vl lo)(pu:IsPart vu hi)(hw:¬(sIx items.size 0 lo=0/\sIx items.size items.size hi=items.size))(h:Q (.ref s.heap.objs.size) {s with heap:=s.heap.push {cls:=.type "tuple",data:=.seq ((items.toList.drop (sIx items.size 0 lo)).take (sIx items.size items.size hi-sIx items.size 0 lo)).toArray}})(hsz:items.size<=sizeLine):wpAny (model prog w) A (getItem (.ref t) (.ref sl)) Q E s:=by
 have cv:sizeOk (.seq ((items.toList.drop (sIx items.size 0 lo)).take (sIx items.size items.size hi-sIx items.size 0 lo)).toArray):=by
  show((items.toList.drop (sIx items.size 0 lo)).take (sIx items.size items.size hi-sIx items.size 0 lo)).toArray.size<=sizeLine;rw[size_toArray,length_take,length_drop,length_toList];omega
 have hj:sIx items.size items.size hi<=items.size:=QrH _ _ (le_refl _) hi;obtain⟨os,c7,jP,gL⟩:=id hs;have fR:s.TypeIs (.ref sl) "slice":=⟨os,c7,jP⟩;unfold getItem;try with_reducible refine wpAny_holding ?_
 first|refine wpAny_bind (wpAny_pure ?_)|skip
 refine wpAny_bind (wpAny_sequenceKey ht.typeIs (by decide) ?_);refine wpAny_bind (wpAny_callSpecial?_slot (name:=Str.ofString "__getitem__") ht.typeIs PyProof.Rows.slot_tuple_getitem (wpAny_call_entry PyProof.Rows.slot_tuple_getitem ht.typeIs entry_tuple_getitem ?_ (args_tuple_getitem _ _)));show wpAny _ _ (Builtin.Tuple.tupleItemsOf (.ref t)>>=_) _ _ s;refine wpAny_bind (tupleItemsOf_ ht ?_);refine wpAny_bind (wpAny_typeOf fR ?_);rw[if_pos (by decide)];refine wpAny_bind (Qe5 hs pl pu ?_);have fH:¬((((sIx items.size 0 lo:Nat):Int)==0&&(1:Int)==1&&(sIx items.size items.size hi-sIx items.size 0 lo)==items.size)=true):=by
  intro q;rw[and_eq_true,and_eq_true]at q;have q1:((sIx items.size 0 lo:Nat):Int)=0:=eq_of_beq q.1.1;have q2:sIx items.size items.size hi-sIx items.size 0 lo=items.size:=eq_of_beq q.2;exact hw ⟨by omega,by omega⟩
 show wpAny _ _ (if(((sIx items.size 0 lo:Nat):Int)==0&&(1:Int)==1&&(sIx items.size items.size hi-sIx items.size 0 lo)==items.size)=true then _ else _) _ _ s;rw[if_neg fH,Qov];first|exact wpAny_bind (m:=Builtin.Tuple.tupleExact _) (wpAny_newObj_type (wpAny_pure ⟨_,rfl,wpAny_pure h⟩) cv)|exact wpAny_bind (m:=Builtin.Tuple.tupleExact _) (wpAny_newObj_type (wpAny_bind (wpAny_pure (wpAny_pure ⟨_,rfl,wpAny_pure h⟩))) cv)|exact wpAny_bind (wpAny_bind (m:=Builtin.Tuple.tupleExact _) (wpAny_newObj_type (wpAny_pure (wpAny_pure ⟨_,rfl,wpAny_pure h⟩)) cv))|exact wpAny_bind (wpAny_bind (m:=Builtin.Tuple.tupleExact _) (wpAny_newObj_type (wpAny_pure ⟨_,rfl,wpAny_pure h⟩) cv))
end
end HT
namespace L2
open PySem PySem.Spec PyProof.Rows
noncomputable abbrev TO:=St->Hp->(Option Int->Hp->Prop)->Prop
def PO(X:Cx)(e:Option Expr)(t:TO):Prop:=∀(aa:List (Addr×Obj))(s:Shared)(σ:St)(H:Hp)(Q:Option Int->Hp->Prop),Inv X aa σ H s->t σ H Q->wpAny (model X.prog X.w) X.A (evalPart e X.env) (λu s'=>∃o H',Inv X aa σ H' s'/\IsPart u o/\Q o H') X.xe s
def Qp0:TO:=λ_ H Q=>Q none H
def QsU(t:TE):TO:=λσ H Q=>t σ H λx H1=>∃i,x=.int i/\Q (some i) H1
theorem QfE{ns:List Int}:∀{us:List Value},Vals (ns.map V.int) us->IntsAre us ns:=by induction ns with|nil=>intro us r;rw[map_nil]at r;cases r;exact .nil|cons n ns ih=>intro us r;rw[map_cons]at r;cases r with|cons r1 r2=>obtain⟨t,e⟩:=r1;subst e;exact .cons n t (ih r2)
section
variable{X:Cx}{e:Expr}{te:TE}{lo hi:Option Expr}{tl th:TO}{pos p2:Pos}
theorem Qqg:PO X none Qp0:=by intro aa s σ H Q I h;rw[evalPart_none];exact wpAny_pure ⟨none,H,I,.none,h⟩
theorem Qqf(h:PE X e te):PO X (some e) (QsU te):=by intro aa s σ H Q I hw;rw[evalPart_some];refine thn (h aa s σ H _ I hw) λu s1⟨x,H1,I1,r1,q1⟩=>?_;obtain⟨i,rfl,q⟩:=q1;obtain⟨t,rfl⟩:=r1;exact⟨some i,H1,I1,.int i t,q⟩
def SlR(X:Cx)(r:V->Option Int->Option Int->Hp->VK->Prop):Prop:=∀(aa:List (Addr×Obj))(s:Shared)(σ:St)(H:Hp)(x:V)(v vl vu:Value)(lo hi:Option Int)(sl:Addr)(Q:VK),Inv X aa σ H s->RelV x v->s.heap.IsSliceOf sl vl vu .none->IsPart vl lo->IsPart vu hi->r x lo hi H Q->∃T id,typeLookup (.type T) "__getitem__"=pure (some (.builtin id))/\s.TypeIs v T/\wpAny (model X.prog X.w) X.A (getItem v (.ref sl)) (EP X aa σ Q) X.xe s
theorem SlR.or{r r':V->Option Int->Option Int->Hp->VK->Prop}(h:SlR X r)(h':SlR X r'):SlR X λx lo hi H Q=>r x lo hi H Q\/r' x lo hi H Q:=by
 intro aa s σ H x v vl vu lo hi sl Q I rx hs pl pu q;rcases q with q|q;·exact h aa s σ H x v vl vu lo hi sl Q I rx hs pl pu q
 ·exact h' aa s σ H x v vl vu lo hi sl Q I rx hs pl pu q
def tSl(r:V->Option Int->Option Int->Hp->VK->Prop)(te:TE)(tl th:TO):TE:=λσ H Q=>te σ H λx H1=>tl σ H1 λl H2=>th σ H2 λu H3=>r x l u H3 Q
theorem Qox{r:V->Option Int->Option Int->Hp->VK->Prop}(hr:SlR X r)(he:PE X e te)(hl:PO X lo tl)(hu:PO X hi th):PE X (.Subscript e (.Slice lo hi none p2) pos) (tSl r te tl th):=by intro aa s σ H Q I h;refine Subscript_ (thn (he aa s σ H _ I h) λv s1⟨x,H1,I1,r1,q1⟩=>?_);refine wpAny_Slice (thn (hl aa s1 σ H1 _ I1 q1) λvl s2⟨l,H2,I2,pl,q2⟩=>thn (hu aa s2 σ H2 _ I2 q2) λvu s3⟨u,H3,I3,pu,q3⟩=>?_);rw[evalPart_none];refine wpAny_pure ?_;have I4:Inv X aa σ H3 {s3 with heap:=s3.heap.push {cls:=.type "slice",data:=.fields #[vl,vu,.none]}}:=I3.kept (t':=s3.toks) λb ob q=>Heap.get?_push_of_some _ q;obtain⟨T,id,hT,ht,hg⟩:=hr aa {s3 with heap:=s3.heap.push {cls:=.type "slice",data:=.fields #[vl,vu,.none]}} σ H3 x v vl vu l u s3.heap.objs.size Q I4 r1 (Heap.IsSliceOf.new ..) pl pu q3;show wpAny (model X.prog X.w) X.A (subscriptTail e (.Slice lo hi none p2) v (.ref s3.heap.objs.size)) (EP X aa σ Q) X.xe {s3 with heap:=s3.heap.push {cls:=.type "slice",data:=.fields #[vl,vu,.none]}};exact tail_any (ops:=[.ref s3.heap.objs.size,v]) ht hT hg (by with_unfolding_all rfl)
def Qa4(xs:List V)(lo hi:Option Int):List V:=(xs.drop (HT.sIx xs.length 0 lo)).take (HT.sIx xs.length xs.length hi-HT.sIx xs.length 0 lo)
theorem QeD(xs:List V)(lo hi:Option Int):(Qa4 xs lo hi).length<=xs.length:=by unfold Qa4;rw[length_take,length_drop];omega
def QtT(K:W.Frag):V->Option Int->Option Int->Hp->VK->Prop:=λx lo hi H Q=>∃a xs,x=.ref a/\SqT K H a xs/\¬(HT.sIx xs.length 0 lo=0/\HT.sIx xs.length xs.length hi=xs.length)/\∀p,H p=none->Q (.ref p) (upd H p (.tup (Qa4 xs lo hi)))
theorem QrF:SlR X (QtT X.K):=by
 intro aa s σ H x v vl vu lo hi sl Q I rx hs pl pu h;obtain⟨a,xs,rfl,hx,hw,q⟩:=h;cases rx;obtain⟨its,r,ht,hz⟩:=I.tuple hx;have hlen:its.toArray.size=xs.length:=by rw[size_toArray];exact r.length.symm
 refine⟨"tuple",_,PyProof.Rows.slot_tuple_getitem.lookup,ht.typeIs,?_⟩;refine HT.getItem_tuple_cut ht hs pl pu (by rw[hlen];exact hw) ?_ (by rw[hlen];exact hz);rw[hlen];refine⟨.ref s.heap.objs.size,_,I.laid (t':=s.toks) (o:=.tup (Qa4 xs lo hi)) (λb ob q=>Heap.get?_push_of_some _ q) (le_refl _) ?_,rfl,q _ (I.hok.fresh (le_refl _))⟩;exact⟨le_trans (QeD xs lo hi) hz,_,(r.drop (HT.sIx xs.length 0 lo)).take (HT.sIx xs.length xs.length hi-HT.sIx xs.length 0 lo),IsTup.new _ _⟩
def Qk6(K:W.Frag):R2:=λx y H Q=>∃a b xs ys,x=.ref a/\y=.ref b/\SqT K H a xs/\SqT K H b ys/\xs≠[]/\xs.length+ys.length<=sizeLine/\(ys=[]->Q (.ref a) H)/\(ys≠[]->∀p,H p=none->Q (.ref p) (upd H p (.tup (xs++ys))))
theorem Vals.nil_iff{xs:List V}{us:List Value}(r:Vals xs us):us=[]↔xs=[]:=by cases r with|nil=>simp|cons _ _=>simp
theorem Qqq:OpR X (binaryOp .Add) (Qk6 X.K):=by intro aa s σ H x y v u Q I rx ry h;obtain⟨a,b,xs,ys,rfl,rfl,ha,hb,hx,hz,q1,q2⟩:=h;cases rx;cases ry;obtain⟨its,r1,p1,_⟩:=I.tuple ha;obtain⟨bN,r2,p2,_⟩:=I.tuple hb;refine HT.cat_tup p1 p2 (λz=>hx (r1.nil_iff.mp z)) (λz=>⟨.ref a,H,I,rfl,q1 (r2.nil_iff.mp z)⟩) (λz=>?_) (by rw[<-r1.length,<-r2.length];exact hz);refine⟨.ref s.heap.objs.size,_,I.laid (t':=s.toks) (o:=.tup (xs++ys)) (λb ob q=>Heap.get?_push_of_some _ q) (le_refl _) ?_,rfl,q2 (λw=>z (r2.nil_iff.mpr w)) _ (I.hok.fresh (le_refl _))⟩;exact⟨by rw[length_append];exact hz,_,r1.append r2,IsTup.new _ _⟩
end
noncomputable def ixN(n:Nat)(i:Int):Option Nat:=if 0<=i then(if i<n then some i.toNat else none)else if-(n:Int)<=i then some (i+n).toNat else none
def atI{α:Type}(xs:List α)(i:Int):Option α:=(ixN xs.length i).bind λj=>xs[j]?
theorem QqF{n:Nat}{i:Int}{j:Nat}(h:ixN n i=some j):seqIndex? i n=some j/\j<n/\-(n:Int)<=i/\i<n:=by
 unfold ixN at h;by_cases h0:0<=i
 ·rw[if_pos h0]at h;by_cases h1:i<n;·rw[if_pos h1]at h;have e:i.toNat=j:=Option.some.inj h;exact⟨by rw[seqIndex_of h0 h1,e],by omega,by omega,h1⟩
  ·rw[if_neg h1]at h;cases h
 ·rw[if_neg h0]at h;by_cases h1:-(n:Int)<=i
  ·rw[if_pos h1]at h;have e:(i+n).toNat=j:=Option.some.inj h;exact⟨by rw[seqIndex_neg (by omega) h1,e],by omega,h1,by omega⟩
  ·rw[if_neg h1]at h;cases h
theorem QgB{α:Type}{xs:List α}{i:Int}{v:α}(h:atI xs i=some v):∃j,seqIndex? i xs.length=some j/\xs[j]?=some v/\j<xs.length/\-(xs.length:Int)<=i/\i<xs.length:=by unfold atI at h;cases e:ixN xs.length i with|none=>rw[e]at h;cases h|some j=>rw[e]at h;obtain⟨h1,h2,h3,h4⟩:=QqF e;exact⟨j,h1,h,h2,h3,h4⟩
def QgC(b:Expr):Prop:=∀o i,subscripted b false o i=operate [o,i] (getItem o i)
def IxR(X:Cx)(r:R2):Prop:=∀(value slice:Expr)(aa:List (Addr×Obj))(s:Shared)(σ:St)(H:Hp)(x y:V)(v u:Value)(Q:VK),Inv X aa σ H s->RelV x v->RelV y u->r x y H Q->subscripted slice false v u=operate [v,u] (getItem v u)->wpAny (model X.prog X.w) X.A (subscriptTail value slice v u) (EP X aa σ Q) X.xe s
def MtR(X:Cx)(id:String)(r:V->List V->Hp->VK->Prop):Prop:=∀(aa:List (Addr×Obj))(s:Shared)(σ:St)(H:Hp)(x:V)(xs:List V)(v:Value)(us:List Value)(Q:VK),Inv X aa σ H s->RelV x v->Vals xs us->r x xs H Q->wpAny (model X.prog X.w) X.A (call (.builtin id) (v::us)) (EP X aa σ Q) X.xe s
section
variable{X:Cx}{a b:Expr}{ta tb:TE}{pos:Pos}
theorem IxR.or{r r':R2}(h:IxR X r)(h':IxR X r'):IxR X λx y H Q=>r x y H Q\/r' x y H Q:=by
 intro value slice aa s σ H x y v u Q I rx ry q hs;rcases q with q|q;·exact h value slice aa s σ H x y v u Q I rx ry q hs
 ·exact h' value slice aa s σ H x y v u Q I rx ry q hs
theorem MtR.or{id:String}{r r':V->List V->Hp->VK->Prop}(h:MtR X id r)(h':MtR X id r'):MtR X id λx xs H Q=>r x xs H Q\/r' x xs H Q:=by
 intro aa s σ H x xs v us Q I rx rs q;rcases q with q|q;·exact h aa s σ H x xs v us Q I rx rs q
 ·exact h' aa s σ H x xs v us Q I rx rs q
theorem Qs8{r:R2}(hr:IxR X r)(ha:PE X a ta)(hb:PE X b tb)(hs:QgC b):PE X (.Subscript a b pos) (tOp r ta tb):=by intro aa s σ H Q I h;exact Subscript_ (Qn6 ha hb I h λv u s2 x y H2 I2 rx ry q=>hr a b aa s2 σ H2 x y v u Q I2 rx ry q (hs _ _))
def Qro(K:W.Frag):R2:=λx y H Q=>∃p xs i v,x=.ref p/\y=.int i/\SqL K H p xs/\atI xs i=some v/\Q v H
def Qrm(K:W.Frag):R2:=λx y H Q=>∃p xs i v,x=.ref p/\y=.int i/\SqT K H p xs/\atI xs i=some v/\Q v H
def Qrn:R2:=λx y H Q=>∃z i c,x=.str z/\y=.int i/\z.length<=sizeLine/\atI z.cps.toList i=some c/\Q (.str ⟨#[c]⟩) H
theorem ix_list:IxR X (Qro X.K):=by
 intro value slice aa s σ H x y v u Q I rx ry h hs;obtain⟨p,xs,i,z,rfl,rfl,hq,he,q⟩:=h;cases rx;obtain⟨t,rfl⟩:=ry;obtain⟨its,r,pl,hz⟩:=I.list hq;obtain⟨j,h1,h2,h3,h4,h5⟩:=QgB he;obtain⟨w,ew,cY⟩:=r.get h2;have hl:=r.length;have hn:=QdR;have fin:EP X aa σ Q w s:=⟨z,H,I,cY,q⟩;by_cases h0:0<=i
 ·have hj:i.toNat=j:=by
   rw[seqIndex_of h0 h5]at h1;exact Option.some.inj h1
  exact item_listR pl.isList h0 (by omega) (by rw[hj];simpa using ew) fin hs
 ·have hj:(i+(its.toArray.size:Int)).toNat=j:=by
   rw[seqIndex_neg (by omega) h4]at h1;rw[size_toArray,<-hl];exact Option.some.inj h1
  exact subscriptTail_builtinR (x:=w) pl.isList.typeIs slot_list_getitem.lookup (wpAny_getItem_list_neg (Q:=λr s'=>r=w/\EP X aa σ Q r s') pl.isList (by omega) (by rw[size_toArray]<;>omega) (by omega) (by rw[hj];simpa using ew) ⟨rfl,fin⟩) hs
theorem ix_tup:IxR X (Qrm X.K):=by intro value slice aa s σ H x y v u Q I rx ry h hs;obtain⟨p,xs,i,z,rfl,rfl,hq,he,q⟩:=h;cases rx;obtain⟨t,rfl⟩:=ry;obtain⟨its,r,pl,hz⟩:=I.tuple hq;obtain⟨j,h1,h2,h3,h4,h5⟩:=QgB he;obtain⟨w,ew,cY⟩:=r.get h2;have hl:=r.length;have hn:=QdR;have fin:EP X aa σ Q w s:=⟨z,H,I,cY,q⟩;exact subscriptTail_builtinR (x:=w) pl.typeIs slot_tuple_getitem.lookup (getItem_tuple (j:=j) (Q:=λr s'=>r=w/\EP X aa σ Q r s') pl (by omega) (by omega) (by rw[size_toArray,<-hl];exact h1) (by simpa using ew) ⟨rfl,fin⟩) hs
theorem Qsm:IxR X Qrn:=by
 intro value slice aa s σ H x y v u Q I rx ry h hs;obtain⟨z,i,c,rfl,rfl,hz,he,q⟩:=h;obtain⟨t,rfl⟩:=rx;obtain⟨t',rfl⟩:=ry;obtain⟨j,h1,h2,h3,h4,h5⟩:=QgB he;have hl:z.cps.toList.length=z.length:=by simp[Str.length]
 rw[hl]at h1 h4 h5;have hn:=QdR;exact tail_any (typeIs_str s z t) slot_str_getitem.lookup (getItem_str (c:=c) (by
  have e1:decide (i< -(2^63:Int))=false:=decide_eq_false (by omega);have e2:decide (i≥2^63)=false:=decide_eq_false (by omega);rw[e1,e2,Bool.or_false]) (by rw[h1];simpa using h2) ⟨.str ⟨#[c]⟩,H,I.tok _,⟨_,rfl⟩,q⟩) hs
def rIx(K:W.Frag):R2:=λx y H Q=>Qro K x y H Q\/Qrm K x y H Q\/Qrn x y H Q
theorem Qsn:IxR X (rIx X.K):=ix_list.or (ix_tup.or Qsm)
theorem Inv.lst{aa:List (Addr×Obj)}{σ:St}{H:Hp}{s:Shared}{p:Addr}{xs:List V}(I:Inv X aa σ H s)(h:H p=some (.lst xs)):∃(its:List Value)(n:Nat),Vals xs its/\s.heap.get? p=some {cls:=.type "list",data:=.seq its.toArray n}/\xs.length<=sizeLine:=by obtain⟨z,its,n,r,e⟩:=I.hok p _ h;exact⟨its,n,r,e,z⟩
theorem Qi5(lo hi:Option Int)(n:Nat):(sliceBounds lo hi none n).1=((HT.sIx n 0 lo:Nat):Int)/\(sliceBounds lo hi none n).2.1=((HT.sIx n n hi:Nat):Int)/\(sliceBounds lo hi none n).2.2=1:=by
 refine⟨?_,?_,rfl⟩;·cases lo with|none=>simp[sliceBounds,HT.sIx]|some i=>
   simp only[sliceBounds,HT.sIx,getD_none,show(1:Int)>0 by decide,if_true];by_cases h:i<0;·simp only[h,if_true]<;>omega
   ·simp only[h,if_false]<;>omega
 ·cases hi with
  |none=>simp[sliceBounds,HT.sIx]|some i=>
   simp only[sliceBounds,HT.sIx,getD_none,show(1:Int)>0 by decide,if_true];by_cases h:i<0;·simp only[h,if_true]<;>omega
   ·simp only[h,if_false]<;>omega
theorem Qho(its:List Value)(lo hi:Option Int):slicePick its.toArray lo hi none=((its.drop (HT.sIx its.length 0 lo)).take (HT.sIx its.length its.length hi-HT.sIx its.length 0 lo)).toArray:=by obtain⟨h1,h2,h3⟩:=Qi5 lo hi its.toArray.size;unfold slicePick;rw[h1,h2,h3];simp only[sliceRange_one,pick_run,size_toArray]<;>rfl
def QtV(K:W.Frag):V->Option Int->Option Int->Hp->VK->Prop:=λx lo hi H Q=>∃a xs,x=.ref a/\SqL K H a xs/\∀p,H p=none->Q (.ref p) (upd H p (.lst (Qa4 xs lo hi)))
theorem Qp2:SlR X (QtV X.K):=by intro aa s σ H x v vl vu lo hi sl Q I rx hs pl pu h;obtain⟨a,xs,rfl,hx,q⟩:=h;cases rx;obtain⟨its,r,ht,hz⟩:=I.list hx;have hlen:=r.length;refine⟨"list",_,slot_list_getitem.lookup,ht.isList.typeIs,?_⟩;refine wpAny_getItem_list_slice ht.isList hs pl pu .none (by simp) ?_ (by rw[size_toArray]<;>omega);rw[Qho,<-hlen];refine⟨.ref s.heap.objs.size,_,I.laid (t':=s.toks) (o:=.lst (Qa4 xs lo hi)) (λb ob q=>Heap.get?_push_of_some _ q) (le_refl _) ?_,rfl,q _ (I.hok.fresh (le_refl _))⟩;exact⟨le_trans (QeD xs lo hi) hz,_,0,(r.drop (HT.sIx xs.length 0 lo)).take (HT.sIx xs.length xs.length hi-HT.sIx xs.length 0 lo),Heap.get?_push_size _ rfl⟩
noncomputable def QaM:V->Bool|.non=>true|.bl _=>true|.int _=>true|.str _=>true|_=>false
noncomputable def eqV:V->V->Bool|.non,.non=>true|.bl a,.bl b=>a==b|.bl a,.int b=>(if a then 1 else 0)==b|.int a,.bl b=>a==if b then 1 else 0|.int a,.int b=>a==b|.str a,.str b=>a==b|_,_=>false
theorem Qsy{A:Around}{s:Shared}{y x:V}{u v:Value}(ry:RelV y u)(rx:RelV x v)(fy:QaM y=true)(fx:QaM x=true):SeqAt.EqAt A s u v (eqV y x):=by cases y with
 |non=>
  cases ry;cases x with
  |non=>cases rx;exact SeqAt.EqAt.same _|bl b=>cases rx;exact SeqAt.EqAt.none_bool b|int b=>obtain⟨t,rfl⟩:=rx;exact SeqAt.EqAt.none_int b t|str b=>obtain⟨t,rfl⟩:=rx;exact SeqAt.EqAt.none_str b t|_=>exact absurd (show false=true from fx) Bool.false_ne_true
 |bl a=>
  cases ry;cases x with
  |non=>cases rx;exact SeqAt.EqAt.bool_none a|bl b=>cases rx;exact SeqAt.EqAt.bool_bool a b|int b=>obtain⟨t,rfl⟩:=rx;exact SeqAt.EqAt.bool_int a b t|str b=>obtain⟨t,rfl⟩:=rx;exact SeqAt.EqAt.bool_str a b t|_=>exact absurd (show false=true from fx) Bool.false_ne_true
 |int a=>
  obtain⟨t',rfl⟩:=ry;cases x with
  |non=>cases rx;exact SeqAt.EqAt.int_none a t'|bl b=>cases rx;exact SeqAt.EqAt.int_bool a t' b|int b=>obtain⟨t,rfl⟩:=rx;exact SeqAt.EqAt.int_int a t' b t|str b=>obtain⟨t,rfl⟩:=rx;exact SeqAt.EqAt.int_str a t' b t|_=>exact absurd (show false=true from fx) Bool.false_ne_true
 |str a=>
  obtain⟨t',rfl⟩:=ry;cases x with
  |non=>cases rx;exact SeqAt.EqAt.str_none a t'|bl b=>cases rx;exact SeqAt.EqAt.str_bool a t' b|int b=>obtain⟨t,rfl⟩:=rx;exact SeqAt.EqAt.str_int a t' b t|str b=>obtain⟨t,rfl⟩:=rx;exact SeqAt.EqAt.str_str a t' b t|_=>exact absurd (show false=true from fx) Bool.false_ne_true
 |_=>exact absurd (show false=true from fy) Bool.false_ne_true
def eqU(x:V)(u:Value):Bool:=match u with|.none=>eqV .non x|.bool b=>eqV (.bl b) x|.int i _=>eqV (.int i) x|.str z _=>eqV (.str z) x|_=>false
theorem Qms{x y:V}{u:Value}(r:RelV y u)(f:QaM y=true):eqU x u=eqV y x:=by cases y with|non=>cases r;rfl|bl b=>cases r;rfl|int i=>obtain⟨t,rfl⟩:=r;rfl|str z=>obtain⟨t,rfl⟩:=r;rfl|_=>exact absurd (show false=true from f) Bool.false_ne_true
theorem QcS{x:V}:∀{xs:List V}{us:List Value},Vals xs us->xs.all QaM=true->us.any (eqU x)=xs.any λy=>eqV y x|_,_,.nil,_=>rfl|y::xs,u::us,.cons r t,f=>by rw[all_cons,and_eq_true]at f;rw[any_cons,any_cons,Qms r f.1,QcS t f.2]
theorem QbJ{A:Around}{s:Shared}{x:V}{v:Value}(rx:RelV x v)(fx:QaM x=true):∀{xs:List V}{us:List Value},Vals xs us->xs.all QaM=true->∀u∈us,SeqAt.EqAt A s u v (eqU x u)
 |_,_,.nil,_=>λu hu=>by cases hu|y::xs,u::us,.cons r t,f=>λu' hu=>by
  rw[all_cons,and_eq_true]at f;rcases List.mem_cons.mp hu with rfl|hu;·rw[Qms r f.1];exact Qsy r rx f.1 fx
  ·exact QbJ rx fx t f.2 u' hu
def inV(x:V)(xs:List V):Bool:=xs.any λy=>eqV y x
def rIn(K:W.Frag)(neg:Bool):R2:=λx y H Q=>∃p xs,y=.ref p/\(SqL K H p xs\/SqT K H p xs)/\QaM x=true/\xs.all QaM=true/\Q (.bl (if neg then !inV x xs else inV x xs)) H
theorem Qm1:OpR X (compareOp .In) (rIn X.K false):=by
 intro aa s σ H x y v u Q I rx ry h;obtain⟨p,xs,rfl,hq,fx,fs,q⟩:=h;cases ry;rcases hq with hq|hq
 ·obtain⟨its,r,pl,hz⟩:=I.list hq;refine SeqAt.in_listAt (eqU x) pl.isList (λw hw=>QbJ rx fx r fs w (by simpa using hw)) ⟨.bl _,H,I,rfl,?_⟩;rw[show its.toArray.any (eqU x)=its.any (eqU x)by simp,QcS r fs];exact q
 ·obtain⟨its,r,pl,hz⟩:=I.tuple hq;refine SeqAt.in_tupleAt (eqU x) pl (λw hw=>QbJ rx fx r fs w (by simpa using hw)) ⟨.bl _,H,I,rfl,?_⟩;rw[show its.toArray.any (eqU x)=its.any (eqU x)by simp,QcS r fs];exact q
theorem Qi9:OpR X (compareOp .NotIn) (rIn X.K true):=by
 intro aa s σ H x y v u Q I rx ry h;obtain⟨p,xs,rfl,hq,fx,fs,q⟩:=h;cases ry;rcases hq with hq|hq
 ·obtain⟨its,r,pl,hz⟩:=I.list hq;refine SeqAt.notIn_listAt (eqU x) pl.isList (λw hw=>QbJ rx fx r fs w (by simpa using hw)) ⟨.bl _,H,I,rfl,?_⟩;rw[show its.toArray.any (eqU x)=its.any (eqU x)by simp,QcS r fs];exact q
 ·obtain⟨its,r,pl,hz⟩:=I.tuple hq;refine SeqAt.notIn_tupleAt (eqU x) pl (λw hw=>QbJ rx fx r fs w (by simpa using hw)) ⟨.bl _,H,I,rfl,?_⟩;rw[show its.toArray.any (eqU x)=its.any (eqU x)by simp,QcS r fs];exact q
theorem Qjt:CallR X (.builtin "len") λxs H Q=>∃p ys,xs=[.ref p]/\(SqL X.K H p ys\/SqT X.K H p ys)/\Q (.int ys.length) H:=by
 intro aa s σ H xs us Q I r h;obtain⟨p,ys,rfl,hq,q⟩:=h;obtain⟨u,rfl,rx⟩:=QaK r;cases rx;have hn:=QdR;rcases hq with hq|hq;·obtain⟨its,r',pl,hz⟩:=I.list hq;have hlen:=r'.length;exact Calls.call_len_list pl.isList (by simp only[size_toArray]<;>omega) ⟨.int ys.length,H,I.tok _,⟨s.toks+1,by rw[size_toArray,hlen]⟩,q⟩
 ·obtain⟨its,r',pl,hz⟩:=I.tuple hq;have hlen:=r'.length;exact len_tuple pl (by simp only[size_toArray]<;>omega) ⟨.int ys.length,H,I.tok _,⟨s.toks+1,by rw[size_toArray,hlen]⟩,q⟩
theorem Qjs:CallR X (.builtin "len") λxs H Q=>∃z,xs=[.str z]/\z.length<=sizeLine/\Q (.int z.length) H:=by intro aa s σ H xs us Q I r h;obtain⟨z,rfl,hz,q⟩:=h;obtain⟨u,rfl,t,rfl⟩:=QaK r;have hn:=QdR;exact len_str (by omega) ⟨.int z.length,H,I.tok _,⟨_,rfl⟩,q⟩
theorem CallR.or{f:Value}{r r':List V->Hp->VK->Prop}(h:CallR X f r)(h':CallR X f r'):CallR X f λxs H Q=>r xs H Q\/r' xs H Q:=by
 intro aa s σ H xs us Q I rs q;rcases q with q|q;·exact h aa s σ H xs us Q I rs q
 ·exact h' aa s σ H xs us Q I rs q
theorem Qjr:CallR X (.type "list") λxs H Q=>∃p ys,xs=[.ref p]/\(SqL X.K H p ys\/SqT X.K H p ys)/\∀l,H l=none->Q (.ref l) (upd H l (.lst ys)):=by
 intro aa s σ H xs us Q I r h;obtain⟨p,ys,rfl,hq,q⟩:=h;obtain⟨u,rfl,rx⟩:=QaK r;cases rx;have fin:∀(its:List Value),Vals ys its->ys.length<=sizeLine->∀(h':Heap)(c':Nat),(∀b o',s.heap.get? b=some o'->h'.get? b=some o')->h'.get? s.heap.objs.size=some {cls:=.type "list",dict:=none,data:=.seq its.toArray c',slots:=#[]}->EP X aa σ Q (.ref s.heap.objs.size) {s with heap:=h'}:=λits r' hz h' c' kp e=>⟨.ref s.heap.objs.size,_,I.laid (t':=s.toks) kp (le_refl _) (show ObjOk X.prog X.w _ h' _ (.lst ys)from⟨hz,its,c',r',e⟩),rfl,q _ (I.hok.fresh (le_refl _))⟩;rcases hq with hq|hq
 ·obtain⟨its,r',pl,hz⟩:=I.list hq;have hlen:=r'.length;obtain⟨o,ho,hc,n,hd⟩:=pl.isList;exact call_list_seq p (.inl rfl) ho hc hd (λh' c' kp e=>fin its r' hz h' c' kp e) (by simp only[size_toArray]<;>omega)
 ·obtain⟨its,r',pl,hz⟩:=I.tuple hq;have hlen:=r'.length;obtain⟨o,ho,hc,n,hd⟩:=pl;exact call_list_seq p (.inr rfl) ho hc hd (λh' c' kp e=>fin its r' hz h' c' kp e) (by simp only[size_toArray]<;>omega)
def tyV(K:W.Frag)(T:String)(x:V)(H:Hp):Prop:=match x with|.str _=>T="str"|.int _=>T="int"|.ref p=>(T="list"/\∃xs,SqL K H p xs)\/(T="tuple"/\∃o,K.lookup p=some o/\o.cls=.type "tuple"/\o.dict=none)\/T="dict"/\((∃aj,H p=some (.dK aj))\/∃aj,H p=some (.dT aj))\/T="set"/\∃S n,H p=some (.set S n)|_=>False
theorem Ql2{aa:List (Addr×Obj)}{σ:St}{H:Hp}{s:Shared}{T:String}{x:V}{v:Value}(I:Inv X aa σ H s)(r:RelV x v)(ty:tyV X.K T x H):s.TypeIs v T/\∀a,v=.ref a->∃ob,s.heap.get? a=some ob/\ob.dict=none:=by cases x with
 |str z=>obtain⟨t,rfl⟩:=r;cases(show T="str"from ty);exact⟨typeIs_str s z t,λ_ e=>nomatch e⟩|int i=>obtain⟨t,rfl⟩:=r;cases(show T="int"from ty);exact⟨typeIs_int s i t,λ_ e=>nomatch e⟩|ref p=>
  cases r;rcases ty with⟨rfl,xs,hq⟩|⟨rfl,o,hk,hc,hd⟩|⟨rfl,hk⟩|⟨rfl,S,n,hk⟩
  ·obtain⟨its,_,pl,_⟩:=I.list hq;refine⟨pl.isList.typeIs,λa e=>?_⟩;cases e;obtain⟨o,n,e,c,hd,_⟩:=pl;exact⟨o,e,hd⟩
  ·refine⟨⟨o,I.kIn p o hk,hc⟩,λa e=>?_⟩;cases e;exact⟨o,I.kIn _ o hk,hd⟩
  ·have z:∃o,s.heap.get? p=some o/\o.ExactDict:=by
    rcases hk with⟨aj,hk⟩|⟨aj,hk⟩
    ·obtain⟨_,_,_,_,o,_,_,e,ex,_⟩:=I.hok p _ hk;exact⟨o,e,ex⟩
    ·obtain⟨_,_,_,_,o,_,_,e,ex,_⟩:=I.hok p _ hk;exact⟨o,e,ex⟩
   obtain⟨o,e,ex⟩:=z;refine⟨⟨o,e,ex.1⟩,λa e2=>?_⟩;cases e2;exact⟨o,e,ex.2.1⟩
  ·obtain⟨o,_,_,_,e,ex,_⟩:=I.hok p _ hk;refine⟨⟨o,e,ex.1⟩,λa e2=>?_⟩;cases e2;exact⟨o,e,ex.2.1⟩|_=>exact False.elim ty
def QtQ(K:W.Frag)(T:String)(r:V->List V->Hp->VK->Prop)(to:TE):TE:=λσ H Q=>to σ H λx H1=>tyV K T x H1/\r x [] H1 Q
def tBM(K:W.Frag)(T:String)(r:V->List V->Hp->VK->Prop)(to:TE)(t:TA):TE:=λσ H Q=>to σ H λx H1=>tyV K T x H1/\t σ H1 λxs H2=>r x xs H2 Q
variable{o e:Expr}{es:List Expr}{to:TE}{t:TA}{name:Str}{apos ak:Pos}{T id:String}{r:V->List V->Hp->VK->Prop}
theorem QrY(pa:PlainAttrs T)(slot:Slot T name id)(ia:typeOf (.builtin id)=pure (.type "method_descriptor"))(hm:MtR X id r)(ho:PE X o to)(aS:attributeBase o name X.env (eval o X.env)=eval o X.env:=by rfl)(bq:(apos.endLine==ak.line)=true:=by rfl):PE X (.Call (.Attribute o name apos) [] [] ak) (QtQ X.K T r to):=by intro aa s σ H Q I h;refine wpAny_Call_method0_late aS bq (thn (ho aa s σ H _ I h) λv s1⟨x,H1,I1,r1,ty,q1⟩=>?_);obtain⟨h1,h2⟩:=Ql2 I1 r1 ty;exact⟨T,id,pa,slot,ia,h1,h2,Calls.callWith_builtin rfl (PySem.evalArgs_none (hm aa s1 σ H1 x [] v [] Q I1 r1 .nil q1))⟩
theorem Qpx(pa:PlainAttrs T)(slot:Slot T name id)(ia:typeOf (.builtin id)=pure (.type "method_descriptor"))(hm:MtR X id r)(ho:PE X o to)(ha:PA X (e::es) t)(aS:attributeBase o name X.env (eval o X.env)=eval o X.env:=by rfl)(cO:((backTo ak (starEach (e::es) X.env)).all (λx=>!x.1)&&(backToKw ak (keywordEach [] X.env)).all (λx=>x.1.isSome)&&decide ((e::es).length+([]:List Keyword).length+(if([]:List Keyword).isEmpty then 0 else 1)<30))=true:=by rfl)(bq:(apos.endLine==ak.line)=true:=by rfl)(hs:starEach (e::es) X.env=(false,eval e X.env)::starEach es X.env:=by rfl)(eO:(backTo ak (starEach es X.env)).any (·.1)=false:=by rfl):PE X (.Call (.Attribute o name apos) (e::es) [] ak) (tBM X.K T r to t):=by intro aa s σ H Q I h;refine wpAny_Call_method_late aS cO bq rfl (thn (ho aa s σ H _ I h) λv s1⟨x,H1,I1,r1,ty,q1⟩=>?_);obtain⟨h1,h2⟩:=Ql2 I1 r1 ty;refine⟨T,id,pa,slot,ia,h1,h2,?_⟩;have hA:=ha ak aa s1 σ H1 _ I1 q1;rw[hs]at hA⊢;refine Calls.callWith_builtin (by show(false||(backTo ak (starEach es X.env)).any (·.1))=false;rw[eO]<;>rfl) (Calls.evalArgs_plain ?_);exact thn hA λus s2⟨vs,H2,I2,r2,q2⟩=>hm aa s2 σ H2 x vs v us Q I2 r1 r2 q2
end
def MtM(X:Cx)(id:String)(r:V->List V->Hp->VK->Prop):Prop:=∀(aa:List (Addr×Obj))(s:Shared)(σ:St)(H:Hp)(x:V)(xs:List V)(v:Value)(us:List Value)(Q:VK),Inv X aa σ H s->RelV x v->Vals xs us->r x xs H Q->wpAny (model X.prog X.w) X.A (call (.builtin id) (v::us)) (EP X aa σ Q) X.xe s
theorem Vals.one:∀{x:V}{us:List Value},Vals [x] us->∃u,us=[u]/\RelV x u|_,_,.cons r .nil=>⟨_,rfl,r⟩
theorem Vals.zero:∀{us:List Value},Vals [] us->us=[]|_,.nil=>rfl
theorem Vals.rep{xs:List V}{us:List Value}(h:Vals xs us):∀k:Nat,Vals (List.replicate k xs).flatten (List.replicate k us).flatten|0=>.nil|k+1=>by rw[replicate_succ,replicate_succ,flatten_cons,flatten_cons];exact Vals.append h (Vals.rep h k)
theorem Qg3(its:List Value):∀(k:Nat)(acc:List Value),List.foldl (λx1 x2=>x1++x2) acc.toArray (List.replicate k its.toArray)=(acc++(List.replicate k its).flatten).toArray
 |0,acc=>by simp|k+1,acc=>by
  have e:acc.toArray++its.toArray=(acc++its).toArray:=by simp
  have e2:acc++its++(List.replicate k its).flatten=acc++(List.replicate (k+1) its).flatten:=by rw[replicate_succ,flatten_cons,append_assoc]
  rw[<-e2,<-Qg3 its k (acc++its),<-e,replicate_succ,foldl_cons]
section
variable{X:Cx}{aa:List (Addr×Obj)}{σ:St}{H:Hp}{s:Shared}{l b:Addr}{xs ys zs:List V}
theorem Inv.lset{its its':List Value}{n:Nat}{f:Array Value->Array Value}{t':Nat}(I:Inv X aa σ H s)(hH:H l=some (.lst xs))(e:s.heap.get? l=some {cls:=.type "list",data:=.seq its.toArray n})(hf:f its.toArray=its'.toArray)(hv:Vals ys its')(hz:ys.length<=sizeLine):Inv X aa σ (upd H l (.lst ys)) {s with heap:=s.heap.update l (Obj.mapSeq f),toks:=t'}:=by have q:=PySem.IsL.update e f;rw[hf]at q;refine I.write (x:=l) (e:=l) (by rw[hH];exact trivial) (.inl rfl) (λb' u hb hu=>(Heap.get?_update_other s.heap (Obj.mapSeq f) (Ne.symm hb)).trans hu) ⟨_,q⟩ ?_;exact⟨hz,its',_,hv,q⟩
theorem Inv.lnew{its:List Value}{t':Nat}(I:Inv X aa σ H s)(hv:Vals ys its)(hz:ys.length<=sizeLine):Inv X aa σ (upd H s.heap.objs.size (.lst ys)) {s with heap:=s.heap.push {cls:=.type "list",data:=.seq its.toArray},toks:=t'}:=I.laid (λ_ _ q=>Heap.get?_push_of_some _ q) (le_refl _) ⟨hz,its,0,hv,Heap.get?_push_size _ rfl⟩
theorem Inv.fresh(I:Inv X aa σ H s):H s.heap.objs.size=none:=I.hok.fresh (le_refl _)
theorem Inv.lstM(I:Inv X aa σ H s)(hH:H l=some (.lst xs)):xs.length<=sizeLine/\∃(its:List Value)(n:Nat),Vals xs its/\xs.length=its.length/\s.heap.get? l=some {cls:=.type "list",data:=.seq its.toArray n}:=by obtain⟨z,its,n,r,e⟩:=I.hok l _ hH;exact⟨z,its,n,r,r.length,e⟩
theorem Qin{n:Nat}(h:n<=sizeLine):Builtin.List.listTooLong n=false:=by unfold Builtin.List.listTooLong;exact decide_eq_false (by omega)
end
section
variable{X:Cx}
def Qqa:V->List V->Hp->VK->Prop:=λx vs H Q=>∃l xs y,x=.ref l/\vs=[y]/\H l=some (.lst xs)/\xs.length<sizeLine/\Q .non (upd H l (.lst (xs++[y])))
theorem QgT:MtM X "list.append" Qqa:=by intro aa s σ H x vs v us Q I rx rv h;obtain⟨l,xs,y,rfl,rfl,hH,hz,q⟩:=h;cases rx;obtain⟨u,rfl,ru⟩:=rv.one;obtain⟨z,its,n,r,hl,e⟩:=I.lstM hH;refine call_meets F.slot_list_append ⟨_,e,rfl⟩ F.entry_list_append (F.args_list_append_2 _ _) (PySem.list_append l its.toArray n u (by rw[size_toArray];omega)) ⟨e,?_⟩;refine⟨.non,_,I.lset (its':=its++[u]) hH e (by simp) (r.append (.cons ru .nil)) ?_,rfl,q⟩;rw[length_append,length_singleton];omega
def Qp9:V->List V->Hp->VK->Prop:=λx vs H Q=>∃l b xs zs,x=.ref l/\vs=[.ref b]/\H l=some (.lst xs)/\H b=some (.lst zs)/\xs.length+zs.length<=sizeLine/\Q .non (upd H l (.lst (xs++zs)))
theorem Qne:MtM X "list.extend" Qp9:=by
 intro aa s σ H x vs v us Q I rx rv h;obtain⟨l,b,xs,zs,rfl,rfl,hH,hB,hz,q⟩:=h;cases rx;obtain⟨u,rfl,ru⟩:=rv.one;cases ru;obtain⟨z,its,n,r,hl,e⟩:=I.lstM hH;obtain⟨z2,bN,n2,r2,cI,e2⟩:=I.lstM hB;have hsz:its.toArray.size+bN.toArray.size<=sizeLine:=by rw[size_toArray,size_toArray];omega
 have cS:¬(!its.toArray.isEmpty&&Builtin.List.listTooLong (its.toArray.size+bN.toArray.size))=true:=by
  rw[Qin hsz,Bool.and_false];exact Bool.false_ne_true
 refine call_meets F.slot_list_extend ⟨_,e,rfl⟩ F.entry_list_extend (F.args_list_extend_2 _ _) (AutoSeq1.list_extend_list_list_0 l its.toArray n b bN.toArray n2 cS (by rw[size_toArray];omega) (by omega)) ⟨e,e2,?_⟩;refine⟨.non,_,I.lset (its':=its++bN) hH e (by simp) (r.append r2) ?_,rfl,q⟩;rw[length_append];omega
def QnZ:R2:=λx y H Q=>∃l b xs zs,x=.ref l/\y=.ref b/\H l=some (.lst xs)/\H b=some (.lst zs)/\xs.length+zs.length<=sizeLine/\∀p,H p=none->Q (.ref p) (upd H p (.lst (xs++zs)))
theorem Qmh:OpR X (binaryOp .Add) QnZ:=by
 intro aa s σ H x y v u Q I rx ry h;obtain⟨l,b,xs,zs,rfl,rfl,hH,hB,hz,q⟩:=h;cases rx;cases ry;obtain⟨z,its,n,r,hl,e⟩:=I.lstM hH;obtain⟨z2,bN,n2,r2,cI,e2⟩:=I.lstM hB;refine PySem.P.add_list e e2 ?_ (by rw[size_toArray,size_toArray];omega);have ea:its.toArray++bN.toArray=(its++bN).toArray:=by simp
 rw[ea];exact⟨.ref _,_,I.lnew (t':=s.toks) (r.append r2) (by rw[length_append];omega),rfl,q _ I.fresh⟩
def QnX:R2:=λx y H Q=>∃l k xs,x=.ref l/\y=.int k/\H l=some (.lst xs)/\-2^63<=k/\k<2^63/\xs.length*k.toNat<=sizeLine/\∀p,H p=none->Q (.ref p) (upd H p (.lst (List.replicate k.toNat xs).flatten))
theorem Qqz{α:Type}(xs:List α)(k:Nat):(List.replicate k xs).flatten.length=k*xs.length:=by induction k with|zero=>simp|succ k ih=>rw[replicate_succ,flatten_cons,length_append,ih,Nat.succ_mul,Nat.add_comm]
theorem Qr2:OpR X (binaryOp .Mult) QnX:=by
 intro aa s σ H x y v u Q I rx ry h;obtain⟨l,k,xs,rfl,rfl,hH,h1,h2,hz,q⟩:=h;cases rx;obtain⟨t,rfl⟩:=ry;obtain⟨z,its,n,r,hl,e⟩:=I.lstM hH;have hlen:its.toArray.size*k.toNat<=sizeLine:=by rw[size_toArray,<-hl];exact hz
 have jk:¬its.toArray.size*k.toNat>(2^63-1)/8:=by
  have:(sizeLine:Nat)<=(2^63-1)/8:=by decide
  omega
 have ji:¬(!Builtin.List.listFitsIndex k)=true:=by
  rw[fitsIndex_both h1 h2];exact Bool.false_ne_true
 have cS:¬Builtin.List.listTooLong (its.toArray.size*k.toNat)=true:=by rw[Qin hlen];exact Bool.false_ne_true
 have je:List.foldl (λx1 x2=>x1++x2) #[] (List.replicate (if its.toArray.isEmpty=true then 0 else k.toNat) its.toArray)=(List.replicate k.toNat its).flatten.toArray:=by
  have f0:∀m:Nat,List.foldl (λx1 x2=>x1++x2) #[] (List.replicate m its.toArray)=(List.replicate m its).flatten.toArray:=λm=>by
   have:=Qg3 its m [];rw[nil_append]at this;exact this
  rw[f0];cases its with|nil=>simp|cons a r'=>rw[if_neg (by simp)]
 refine wpAny_binaryOp_repeat_ref (T:="list") (U:="int") (by decide) ⟨_,e,rfl⟩ (λs'=>typeIs_int s' k t) noFill_list_mul F.fills_int_mul F.slot_int_rmul repeat_list F.slot_int_index.lookup (call_meets F.slot_int_rmul (typeIs_int s k t) F.entry_int_rmul (F.args_int_rmul_2 _ _) (int___rmul___int_list k t l its.toArray n) ⟨e,rfl,⟨_,e,rfl⟩,call_meets F.slot_list_mul ⟨_,e,rfl⟩ F.entry_list_mul (F.args_list_mul_2 _ _) (AutoListH.list___mul___list_int_3 l its.toArray n k t ji jk cS) ⟨e,?_⟩⟩);rw[je];exact⟨.ref _,_,I.lnew (t':=s.toks) (r.rep k.toNat) (by rw[Qqz,Nat.mul_comm];exact hz),rfl,q _ I.fresh⟩
end
end L2
namespace Att
open PySem PySem.W PySem.Calls PyProof.Rows
theorem QfW{P:Params}{h:Heap}:∀(ns:List Int)(vs:List Value),WellAll P h vs (ns.map WData.int)->IntsAre vs ns:=by intro ns;induction ns with|nil=>intro vs w;rw[map_nil]at w;cases w;exact .nil|cons n ns ih=>intro vs w;rw[map_cons]at w;cases w with|cons a b=>cases a;exact .cons _ _ (ih _ b)
theorem QmN{l:OpenLaw}{n:Nat}(hn:l.most=some n){P:Params}{h:Heap}{args:List WData}{vals:List Value}(dm:l.row.toRowW.claim.pre args=true)(hV:WellAll P h vals args):∃a vs ns,vals=[Value.ref a]/\args=[WData.list (ns.map WData.int)]/\h.get? a=some {cls:=.type "list",data:=.seq vs.toArray}/\IntsAre vs ns/\ns.length<=n:=by
 have kO:WShape.hasAll [] args [.list .int]=true:=(pre_splitW dm).1;have hc:l.pre.holds [] {args:=args}=true:=(pre_splitW dm).2;obtain⟨d,r,rfl,h1,h2⟩:=hasAllW_cons kO;obtain rfl:=hasAllW_nil h2;obtain⟨xs,rfl,h3⟩:=hasW_list h1;obtain⟨ns,rfl⟩:=items_int h3;have hlen:ns.length<=n:=by
  unfold OpenLaw.pre at hc;have h4:(WTm.not (.lt (.lit (.int (n:Int))) (.len (.arg 0)))).holds [] {args:=[.list (ns.map .int)]}=true:=by
   have h4:=(holds_andW hc).1;rw[hn]at h4;exact h4
  have h5:=condW_of h4 (w_not (w_lt w_lit (w_len_list (w_arg rfl))));rw[length_map]at h5;refine Nat.le_of_not_lt λq=>?_;have q':(n:Int)<((ns.length:Nat):Int):=by omega
  first
   |(rw[decide_eq_true q']at h5;exact absurd h5 (by decide))|(simp at h5;omega)
 cases hV with|cons w1 w2=>cases w2;cases w1 with|list ho eL=>exact⟨_,_,ns,rfl,rfl,ho,QfW ns _ eL,hlen⟩
theorem QmX(l:OpenLaw)(args:List WData):l.row.toRowW.claim.post args (.bool true) args=true:=postW_of (r:=l.row.toRowW) (X:=true==true) (show WShape.has [] (.bool true) .bool=true by first|rfl|decide|simp[WShape.has,WShape.arms,WShape.armsAll]) (show(WTm.eq .res (.lit (.bool true))).value [] {args:=args,res:=some (.bool true),after:=args}=some (.bool (true==true))from w_eq_bool (w_res rfl) w_lit) rfl
theorem attach_call{l:OpenLaw}{n:Nat}{q:Program}{loose:List Str}{XP:(Str->Option Value)->Heap->Prop}{YP:World->Heap->Prop}{d:DefRec}(hn:l.most=some n)(fN:d.params.defaults=[])(call:∀(w:World)(s₀ s₁:Shared)(mg mb:Str->Option Value)(fa:Addr)(o:Obj)(pm cd doc:Value)(a:Addr)(vs:List Value)(ns:List Int),Ground q loose [] XP w s₀ mg mb s₁.heap->YP w s₁.heap->s₁.heap.get? fa=some o->o.data=.func (docDef d.name d.params d.body d.scope pm cd doc)->s₁.heap.CodeRec cd d.name->mg d.name=some (.ref fa)->s₁.heap.get? a=some {cls:=.type "list",data:=.seq vs.toArray}->IntsAre vs ns->ns.length<=n->s₁.gens=#[]->codeAny (model l.prog w) callerA (.call (.ref fa) ⟨[.ref a],[]⟩) (λr s'=>r=.ok (.ret (.bool true))/\OldK s₁.heap s'.heap/\s'.os=s₁.os/\AllBare s'.gens) s₁):WalkO q loose XP YP l.row.toRowW d [] λf vs=>PySem.call f vs:=by intro w s₀ s₁ mg mb G Y fa o pm cd doc dV kV ho hd bC hD fK hg args vals as dm mM hrd hV jH;obtain rfl:dV=.none:=Dflts.none hD fN;obtain rfl:kV=.none:=Dflts.noKw hD;obtain⟨a,vs,ns,rfl,rfl,eI,hints,hlen⟩:=QmN hn dm hV;refine enter_call (codeAny_mono (call w s₀ s₁ mg mb fa o pm cd doc a vs ns G Y ho (fd_plain hd) bC fK eI hints hlen hg) λr s' hq=>? _);obtain⟨rfl,h2,h3,h4⟩:=hq;exact⟨.inl ⟨.bool true,.bool true,[],rfl,λ_=>rfl,.bool true,QmX l _,λ_=>⟨List.Pairwise.nil,λ_ hm=>nomatch hm⟩⟩,h2,h3,h4⟩
end Att
namespace L2
open PySem PySem.Spec PyProof.Rows
theorem QgM:∀{vs:List Value}{ns:List Int},IntsAre vs ns->Vals (ns.map V.int) vs|_,_,.nil=>.nil|_,_,.cons n t h=>.cons ⟨t,rfl⟩ (QgM h)
def Qn9(H:Hp):Prop:=∀b,H b=none\/∃o xs,H b=some (.frz o (.lst xs))
theorem Qo1{P:Program}{w:World}{K:W.Frag}{mg mb:Str->Option Value}{CX:CXT}{k:Nat}{fa a:Addr}{fd:FuncData}{x:Str}{sp:Sp}{s₁:Shared}{vs:List Value}{ns:List Int}(KX:K.In s₁.heap)(cE:s₁.heap.Ns mainGlobals mg)(hb:s₁.heap.Ns builtinsNs mb)(lM:∀x:Str,x≠"__name__"->mb x=bootBuiltins x)(jf:s₁.heap.NoLimit)(hg:s₁.gens=#[])(ha:s₁.heap.get? a=some {cls:=.type "list",data:=.seq vs.toArray})(hi:IntsAre vs ns)(hl:ns.length<=sizeLine)(hr:Room k callerA)(F:∀ae:Heap,K.In ae->ae.Ns mainGlobals mg->FnOk P w K mg ae CX k fa fd [x] sp)(gx:∀(s:Shared)(u:Value),BindsTo s fd ⟨[u],[]⟩ [(x,u)])(cV:∀H:Hp,Qn9 H->SqL K H a (ns.map V.int)->sp [.ref a] H (λv _=>v=.bl true) λ_ _ _=>False)(iM:∀H e s',CX [] H s₁ (λ_ _ _=>False) e s'->False):codeAny (model P w) callerA (.call (.ref fa) ⟨[.ref a],[]⟩) (λr s'=>r=.ok (.ret (.bool true))/\OldK s₁.heap s'.heap/\s'.os=s₁.os/\AllBare s'.gens) s₁:=by
 have rv:=QgM hi;have i7:=hi.length;have core:∀H:Hp,Qn9 H->SqL K H a (ns.map V.int)->HOk P w H s₁.heap->(∀b,H b≠none->b=a)->(H a≠none->K.lookup a=none)->codeAny (model P w) callerA (.call (.ref fa) ⟨[.ref a],[]⟩) (λr s'=>r=.ok (.ret (.bool true))/\OldK s₁.heap s'.heap/\s'.os=s₁.os/\AllBare s'.gens) s₁:=by
  intro H hO hS hok hA hK;have cy:∀{b:Addr}{o:Obj},s₁.heap.get? b=some o->H b=none->(Qc0 s₁.heap H).get? b=some o:=λe n=>Qo9 e n;have fA:∀{b:Addr}{o:Obj}{es:Array DictEntry}{ep:Nat},s₁.heap.get? b=some o->o.data=.dict es ep->H b=none:=λ{b o es ep}e d=>by cases q:H b with|none=>rfl|some u=>
    have e':b=a:=hA b (by rw[q];simp);subst e';rw[ha]at e;cases e;have d':Data.seq vs.toArray _=Data.dict es ep:=d;cases d'
  have gC:∀{b:Addr}{m:Str->Option Value},s₁.heap.Ns b m->(Qc0 s₁.heap H).Ns b m:=λ{b m}⟨o,es,ep,e,d,r⟩=>⟨o,es,ep,cy e (fA e d),d,r⟩;have jR:K.In (Qc0 s₁.heap H):=λb o e=>cy (KX b o e) (by cases q:H b with
   |none=>rfl|some u=>have e':b=a:=hA b (by rw[q];simp);subst e';rw[hK (by rw[q];simp)]at e;cases e);have hM:Mod K mg (Qc0 s₁.heap H):=⟨jR,gC cE,⟨mb,gC hb,lM⟩,let⟨mc,h1,h2⟩:=jf;⟨mc,gC h1,h2⟩⟩;have e0:Env0 P w K mg (Qc0 s₁.heap H) callerA [] s₁ H:=⟨rfl,hM,λb o e=>Qqv e,Nat.le_of_eq (Qnn _ _),trivial,λb hb=>absurd (show b∈([]:List Addr)from hb) (by simp),hok,.of_eq hg⟩;refine codeAny_mono ((F _ jR (gC cE)).run callerA [] s₁ H ⟨[.ref a],[]⟩ [.ref a] [.ref a] _ _ hr e0 (gx s₁ (.ref a)) (.cons rfl .nil) (cV H hO hS)) λr s' h=>?_;cases r with|error e=>exact(iM H e s' h).elim|ok fl=>cases fl with
   |next=>exact False.elim h|brk=>exact False.elim h|cont=>exact False.elim h|ret u=>
    obtain⟨v,H',os,bare,un,jc,r',q⟩:=h;have q':v=.bl true:=q;subst q';obtain rfl:u=Value.bool true:=r';refine⟨rfl,OldK.of_keep λb o e=>?_,os,bare⟩;cases q:H b with|none=>exact un.keep b o e q (by intro z;exact absurd (show b∈([]:List Addr)from z) (by simp)) (by simp)|some u=>
     rcases hO b with z|⟨ob,xs,z⟩;·rw[q]at z;cases z
     ·have z2:=un.frzs b ob _ z;obtain⟨e1,_⟩:=hok b _ z;obtain⟨e2,_⟩:=jc b _ z2;rw[e]at e1;cases e1;exact e2
 cases hk:K.lookup a with
 |some o=>
  have e:=KX a o hk;rw[ha]at e;cases e;refine core (λ_=>none) (λ_=>.inl rfl) (.inr ⟨_,vs.toArray,_,hk,rfl,rfl,rfl,by rw[size_toArray,i7];exact hl,by simpa using rv⟩) (λb u z=>by have z':(none:Option HO)=some u:=z;cases z') (λb z=>absurd rfl z) λz=>absurd rfl z|none=>
  refine core (λb=>if b=a then some (.frz {cls:=.type "list",data:=.seq vs.toArray} (.lst (ns.map V.int)))else none) (λb=>?_) (.inl (.inr ⟨{cls:=.type "list",data:=.seq vs.toArray},if_pos rfl⟩)) (λb u z=>?_) (λb z=>?_) λ_=>hk
  ·by_cases hb:b=a;·exact .inr ⟨_,_,if_pos hb⟩
   ·exact .inl (if_neg hb)
  ·by_cases hb:b=a
   ·have z':=(if_pos hb).symm.trans z;cases z';subst hb;exact⟨ha,by rw[length_map];exact hl,vs,_,rv,ha⟩
   ·have z':=(if_neg hb).symm.trans z;cases z'
  ·by_cases hb:b=a;·exact hb
   ·exact absurd (if_neg hb) z
theorem walk_of{l:W.OpenLaw}{n k:Nat}{q:Program}{loose:List Str}{XP:(Str->Option Value)->Heap->Prop}{YP:World->Heap->Prop}{d:DefRec}{K:Params->W.Frag}{CX:World->CXT}{sp:World->Sp}{x:Str}(hn:l.most=some n)(et:n<=sizeLine)(fN:d.params.defaults=[])(hr:Room k callerA)(hY:∀(w:World)(h:Heap),YP w h->(K w.params).In h)(F:∀(w:World)(mg:Str->Option Value)(fa:Addr)(h:Heap),(K w.params).In h->h.Ns mainGlobals mg->mg d.name=some (.ref fa)->∃fd:FuncData,(∀(s:Shared)(u:Value),BindsTo s fd ⟨[u],[]⟩ [(x,u)])/\∀ae:Heap,(K w.params).In ae->ae.Ns mainGlobals mg->FnOk l.prog w (K w.params) mg ae (CX w) k fa fd [x] (sp w))(cV:∀(w:World)(H:Hp)(a:Addr)(ns:List Int),ns.length<=n->Qn9 H->SqL (K w.params) H a (ns.map V.int)->sp w [.ref a] H (λv _=>v=.bl true) λ_ _ _=>False)(iM:∀(w:World)(H:Hp)(s:Shared)(e:Value)(s':Shared),CX w [] H s (λ_ _ _=>False) e s'->False):W.WalkO q loose XP YP l.row.toRowW d [] λf vs=>PySem.call f vs:=by refine Att.attach_call hn fN λw s₀ s₁ mg mb fa o pm cd doc a vs ns G Y ho hd bC fK eI hints hlen hg=>? _;have KX:=hY w _ Y;obtain⟨fd,hb,hF⟩:=F w mg fa _ KX G.T.g fK;exact Qo1 KX G.T.g G.T.b G.T.builtins G.T.nolimit hg eI hints (le_trans hlen et) hr hF hb (λH hO hS=>cV w H a ns hlen hO hS) λH e s'=>iM w H s₁ e s'
noncomputable def Qt9(s:Stmt)(j:Nat):Stmt:=match s with|.ClassDef _ _ _ body _ _ _ _ _ _ _=>body.getD j (.Pass ⟨0,0,0,0⟩)|_=>.Pass ⟨0,0,0,0⟩
noncomputable def JE(s:Stmt):Arguments:=match s with|.FunctionDef _ a _ _ _ _ _ _ _ _=>a|_=>{posonlyargs:=[],args:=[],vararg:=none,kwonlyargs:=[],kw_defaults:=[],kwarg:=none,defaults:=[]}
noncomputable def QY(s:Stmt):List Stmt:=match s with|.FunctionDef _ _ b _ _ _ _ _ _ _=>b|_=>[]
noncomputable def Qc(s:Stmt):Scope:=match s with|.FunctionDef _ _ _ _ _ _ sc _ _ _=>sc|_=>{kind:=.function,names:=[],isGenerator:=false,isCoroutine:=false}
abbrev CX0:CXT:=λ_ _ _ _ _ _=>False
abbrev E0:XK:=λ_ _ _=>False
theorem Qpy{X:Cx}:Qfx CX0 X E0:=λ_ _ _ _ _ _ _ h=>h.elim
structure Fun(K:W.Frag)(x qual:Str)(st:Stmt)(f:Addr)(fd:FuncData):Prop where
 ex:∃(oc:Value)(od:Option Addr)(kV doc pm:Value)(an:Option Addr)(ao ct:Value)(osl:Array (Option Value)),fd=W.fnOf x qual (JE st) (QY st) (Qc st) .none kV doc pm an ao ct/\K.lookup f=some ⟨oc,od,.func fd,osl⟩/\W.codeIn K ao qual=true
 kp:W.keepIn K (.ref f)=true
section
variable{P:Program}{w:World}{K:W.Frag}{mg:Str->Option Value}{ae:Heap}
theorem Fun.ok{x qual:Str}{st:Stmt}{f:Addr}{fd:FuncData}{N ps:List Str}{k:Nat}{sp:Sp}(F:Fun K x qual st f fd)(S:FnScope N ps (Qc st))(len:∀vs H Q E,sp vs H Q E->vs.length=ps.length)(b7:∀(ao:Value)(A:Around)(ag:List Env)(s:Shared)(H:Hp)(vs:List V)(Q:VK)(E:XK),Room k (A.deeper (envOfC qual (Qc st) s.heap.objs.size f ao))->sp vs H Q E->∃t,PSs (ZJ CX0 P w K mg ae N qual (Qc st) f ao A ag s H E).nox (QY st) t/\t {nx:=λ_ H'=>Q .non H',rt:=Q} (YV N vs) H):FnOk P w K mg ae CX0 (k+1) f fd ps sp:=by obtain⟨oc,od,kV,doc,pm,an,ao,ct,osl,rfl,lk,bC⟩:=F.ex;refine QpL lk bC S len λA ag s H vs Q E hr cV=>?_;obtain⟨t,h,q⟩:=b7 ao A ag s H vs Q E hr cV;exact⟨t,h.nox,q⟩
theorem Fun.binds{x qual:Str}{st:Stmt}{f:Addr}{fd:FuncData}{ps:List Str}(F:Fun K x qual st f fd)(h:∀(kV doc pm:Value)(an:Option Addr)(ao ct:Value)(us:List Value),us.length=ps.length->bindArgs (W.fnOf x qual (JE st) (QY st) (Qc st) .none kV doc pm an ao ct) ⟨us,[]⟩=pure (ps.zip us)):Binds K fd ps []:=by obtain⟨oc,od,kV,doc,pm,an,ao,ct,osl,rfl,lk,bC⟩:=F.ex;exact .all (h kV doc pm an ao ct)
theorem Qh2{x qual:Str}{st:Stmt}{f:Addr}{oc:Value}{od an:Option Addr}{osl:Array (Option Value)}{kV doc pm ao ct:Value}(l:K.lookup f=some ⟨oc,od,.func (W.fnOf x qual (JE st) (QY st) (Qc st) .none kV doc pm an ao ct),osl⟩)(c:W.codeIn K ao qual=true)(k:W.keepIn K (.ref f)=true):Fun K x qual st f (W.fnOf x qual (JE st) (QY st) (Qc st) .none kV doc pm an ao ct):=⟨⟨oc,od,kV,doc,pm,an,ao,ct,osl,rfl,l,c⟩,k⟩
end
theorem Qgb{A B:Prop}(h:B):if false=true then A else B:=by rw[if_neg Bool.false_ne_true];exact h
theorem Qga{A B:Prop}(h:A):if true=true then A else B:=by rw[if_pos rfl];exact h
def Same(H H':Hp):Prop:=∀b o,H b=some o->H' b=some o
theorem Same.refl(H:Hp):Same H H:=λ_ _ h=>h
theorem Same.trans{H H1 H2:Hp}(a:Same H H1)(b:Same H1 H2):Same H H2:=λc o h=>b c o (a c o h)
theorem Same.free{H H':Hp}(e:Same H H'){l:Addr}(h:H' l=Option.none):H l=Option.none:=by cases q:H l with|none=>rfl|some o=>rw[e l o q]at h;cases h
theorem Same.seq{K:W.Frag}{H H':Hp}{a:Addr}{xs:List V}(e:Same H H')(h:SqL K H a xs):SqL K H' a xs:=by
 rcases h with(h|⟨o,h⟩)|h;·exact .inl (.inl (e _ _ h))
 ·exact .inl (.inr ⟨o,e _ _ h⟩)
 ·exact .inr h
section
variable{κ:Type}[DecidableEq κ]
noncomputable def YR(aj:List (κ×V))(k:κ):Option V:=(aj.find? λkv=>decide (kv.1=k)).map (·.2)
noncomputable def VF(aj:List (κ×V))(k:κ)(v:V):List (κ×V):=if(aj.any λkv=>decide (kv.1=k))=true then aj.map (λkv=>if kv.1=k then(kv.1,v)else kv)else aj++[(k,v)]
noncomputable def QpO(aj:List (κ×V))(k:κ):List (κ×V):=aj.filter λkv=>decide (kv.1≠k)
theorem Qc7{p:κ×V}{r:List (κ×V)}{k:κ}(e:p.1=k):YR (p::r) k=some p.2:=by simp[YR,find?_cons,e]
theorem Qc8{p:κ×V}{r:List (κ×V)}{k:κ}(e:¬p.1=k):YR (p::r) k=YR r k:=by simp[YR,find?_cons,e]
theorem Qig(k:κ):∀aj:List (κ×V),(aj.any λkv=>decide (kv.1=k))=(YR aj k).isSome
 |[]=>rfl|p::r=>by
  rw[any_cons];by_cases e:p.1=k;·simp only[Qc7 e,decide_eq_true e,Bool.true_or,Option.isSome_some]
  ·rw[Qc8 e,decide_eq_false e,Bool.false_or];exact Qig k r
theorem QeB(aj:List (κ×V))(k:κ)(v:V):(VF aj k v).length<=aj.length+1:=by
 unfold VF;split;·rw[length_map];omega
 ·rw[length_append,length_cons,length_nil];omega
theorem RelO.isSome_eq{o:Option V}{u:Option Value}(r:RelO o u):o.isSome=u.isSome:=by cases o with
 |none=>cases u with|none=>rfl|some _=>exact(show False from r).elim
 |some _=>cases u with|none=>exact(show False from r).elim|some _=>rfl
theorem RelO.getD{o:Option V}{u:Option Value}{d:V}{d':Value}(r:RelO o u)(rd:RelV d d'):RelV (o.getD d) (u.getD d'):=by cases o with
 |none=>cases u with
  |none=>exact rd|some _=>exact(show False from r).elim
 |some _=>cases u with|none=>exact(show False from r).elim|some _=>exact r
theorem KV.val{aj:List (κ×V)}{vs:List (κ×Value)}(r:KV aj vs)(k:κ):RelO (YR aj k) (valueAt vs k):=by unfold KV at r;induction r with|nil=>exact True.intro|@cons p q ps qs h t ih=>
  obtain⟨h1,h2⟩:=h;by_cases e:p.1=k
  ·have e':q.1=k:=h1.symm.trans e;have b:valueAt (q::qs) k=some q.2:=by simp[valueAt,find?_cons,e']
   rw[Qc7 e,b];exact h2
  ·have e':¬q.1=k:=λz=>e (h1.trans z);have b:valueAt (q::qs) k=valueAt qs k:=by simp[valueAt,find?_cons,e']
   rw[Qc8 e,b];exact ih
theorem KV.any{aj:List (κ×V)}{vs:List (κ×Value)}(r:KV aj vs)(k:κ):(aj.any λkv=>decide (kv.1=k))=vs.any λkv=>decide (kv.1=k):=by unfold KV at r;induction r with|nil=>rfl|cons h t ih=>rw[any_cons,any_cons,ih,h.1]
theorem KV.repl{aj:List (κ×V)}{vs:List (κ×Value)}(r:KV aj vs)(k:κ){y:V}{u:Value}(ry:RelV y u):KV (aj.map λkv=>if kv.1=k then(kv.1,y)else kv) (vs.map λkv=>if kv.1=k then(kv.1,u)else kv):=by unfold KV at r⊢;induction r with|nil=>exact .nil|@cons p q ps qs h t ih=>
  rw[map_cons,map_cons];refine .cons ?_ ih;obtain⟨h1,h2⟩:=h;by_cases e:p.1=k;·rw[if_pos e,if_pos (h1.symm.trans e)];exact⟨h1,ry⟩
  ·rw[if_neg e,if_neg (λz=>e (h1.trans z))];exact⟨h1,h2⟩
theorem KV.put{aj:List (κ×V)}{vs:List (κ×Value)}(r:KV aj vs)(k:κ){y:V}{u:Value}(ry:RelV y u):KV (VF aj k y) (stored vs k u):=by
 unfold VF stored;rw[r.any k];by_cases e:(vs.any λkv=>decide (kv.1=k))=true;·rw[if_pos e,if_pos e];exact r.repl k ry
 ·rw[if_neg e,if_neg e];exact Paired.snoc r ⟨rfl,ry⟩
theorem KV.drop{aj:List (κ×V)}{vs:List (κ×Value)}(r:KV aj vs)(k:κ):KV (QpO aj k) (without vs k):=by unfold KV at r⊢;unfold QpO without;induction r with|nil=>exact .nil|@cons p q ps qs h t ih=>
  obtain⟨h1,h2⟩:=h;rw[filter_cons,filter_cons];by_cases e:p.1=k
  ·have a:¬decide (p.1≠k)=true:=by simp[e]
   have b:¬decide (q.1≠k)=true:=by simp[h1.symm.trans e]
   rw[if_neg a,if_neg b];exact ih
  ·have e':¬q.1=k:=λz=>e (h1.trans z);have a:decide (p.1≠k)=true:=by simp[e]
   have b:decide (q.1≠k)=true:=by simp[e']
   rw[if_pos a,if_pos b];exact .cons ⟨h1,h2⟩ ih
theorem KV.length{aj:List (κ×V)}{vs:List (κ×Value)}(r:KV aj vs):aj.length=vs.length:=Paired.length r
end
theorem QhH{P:Program}{w:World}{k:Key}{u:Value}(r:RelV (kV k) u):(ZP P w).is k u=true:=by cases k with|inl i=>obtain⟨t,e⟩:=show∃t,u=Value.int i t from r;subst e;exact QjT P w i t|inr x=>obtain⟨t,e⟩:=show∃t,u=Value.str x t from r;subst e;exact QjS P w x t
theorem Qg0{P:Program}{w:World}:∀{ks:List Key}{us:List Value},Vals (ks.map kV) us->ItemsAre (ZP P w) ks us|[],_,r=>by rw[map_nil]at r;cases r;exact .nil|k::ks,_,r=>by rw[map_cons]at r;cases r with|cons h t=>exact .cons (QhH h) (Qg0 t)
abbrev KT(H:Hp):List (List Key×V)->List (List Key×Addr×Value)->Prop:=Paired λp q=>p.1=q.1/\H q.2.1=some (.tup (p.1.map kV))/\RelV p.2 q.2.2
theorem KT.val{H:Hp}{aj:List (List Key×V)}{xs:List (List Key×Addr×Value)}(r:KT H aj xs)(k:List Key):RelO (YR aj k) ((atKey xs k).map (·.2)):=by induction r with|nil=>exact True.intro|@cons p q ps qs h t ih=>
  obtain⟨h1,_,h2⟩:=h;by_cases e:p.1=k
  ·have e':q.1=k:=h1.symm.trans e;have b:atKey (q::qs) k=some q.2:=by simp[atKey,find?_cons,e']
   rw[Qc7 e,b];exact h2
  ·have e':¬q.1=k:=λz=>e (h1.trans z);have b:atKey (q::qs) k=atKey qs k:=by simp[atKey,find?_cons,e']
   rw[Qc8 e,b];exact ih
theorem KT.repl{H:Hp}{aj:List (List Key×V)}{xs:List (List Key×Addr×Value)}(r:KT H aj xs)(k:List Key){y:V}{u:Value}(ry:RelV y u):KT H (aj.map λkv=>if kv.1=k then(kv.1,y)else kv) (xs.map (putAt k u)):=by induction r with
 |nil=>exact .nil|@cons p q ps qs h t ih=>
  rw[map_cons,map_cons];refine .cons ?_ ih;obtain⟨h1,h2,h3⟩:=h;unfold putAt;by_cases e:p.1=k;·rw[if_pos e,if_pos (h1.symm.trans e)];exact⟨h1,h2,ry⟩
  ·rw[if_neg e,if_neg (λz=>e (h1.trans z))];exact⟨h1,h2,h3⟩
theorem KT.put{H:Hp}{aj:List (List Key×V)}{xs:List (List Key×Addr×Value)}(r:KT H aj xs)(k:List Key){b:Addr}{y:V}{u:Value}(hb:H b=some (.tup (k.map kV)))(ry:RelV y u):KT H (VF aj k y) (storedH xs k b u):=by
 have e:(aj.any λkv=>decide (kv.1=k))=(atKey xs k).isSome:=by rw[Qig,(r.val k).isSome_eq,isSome_map]
 unfold VF storedH;rw[e];by_cases q:(atKey xs k).isSome=true;·rw[if_pos q,if_pos q];exact r.repl k ry
 ·rw[if_neg q,if_neg q];exact Paired.snoc r ⟨rfl,hb,ry⟩
theorem KT.keeps{H H':Hp}{aj:List (List Key×V)}{xs:List (List Key×Addr×Value)}(r:KT H aj xs)(ht:∀b ys,H b=some (.tup ys)->H' b=some (.tup ys)):KT H' aj xs:=Paired.mapP r λ_ _ z=>⟨z.1,ht _ _ z.2.1,z.2.2⟩
section
variable{P:Program}{w:World}{H:Hp}{h:Heap}{a:Addr}
theorem Qpv{u:HO}(ok:HOk P w H h)(e:Rd H a u):ObjOk P w H h a u:=e.ok ok
theorem Qld{aj:List (Key×V)}(ok:HOk P w H h)(e:Rd H a (.dK aj)):aj.length<=sizeLine/\(a==sysModules)=false/\∃vs,KV aj vs/\h.DictOf (ZP P w) a vs:=show ObjOk P w H h a (.dK aj)from Qpv ok e
theorem Qtu{aj:List (Key×V)}(ok:HOk P w H h)(e:H a=some (.dK aj)):aj.length<=sizeLine/\(a==sysModules)=false/\∃vs,KV aj vs/\h.DictOf (ZP P w) a vs:=Qld ok (.inl e)
theorem Qfq{ks:List Key}(ok:HOk P w H h)(e:H a=some (.tup (ks.map kV))):(tupleKind (ZP P w)).is h ks a:=by obtain⟨_,its,r,o,h1,h2,n,h3⟩:=show ObjOk P w H h a (.tup (ks.map kV))from ok a _ e;exact⟨o,its.toArray,n,h1,h2,h3,by simpa using Qg0 r⟩
theorem Qlc{aj:List (List Key×V)}(ok:HOk P w H h)(e:Rd H a (.dT aj)):aj.length<=sizeLine/\(a==sysModules)=false/\∃xs,KT H aj xs/\h.DictOfH (tupleKind (ZP P w)) a xs:=by
 obtain⟨z,y,xs,r,o,es,ep,h1,h2,h3,h4,h5⟩:=(show ObjOk P w H h a (.dT aj)from Qpv ok e);refine⟨z,y,xs,r,o,es,ep,h1,h2,h3,h4,λx hx=>?_,h5⟩;have all:∀{l:List (List Key×V)}{m:List (List Key×Addr×Value)},KT H l m->∀x∈m,(tupleKind (ZP P w)).is h x.1 x.2.1:=by intro l m q;induction q with
  |nil=>intro x hx;exact nomatch hx|@cons p q ps qs hq t ih=>
   intro x hx;rcases List.mem_cons.mp hx with e|hx
   ·subst e;exact Qfq ok (by rw[<-hq.1];exact hq.2.1)
   ·exact ih x hx
 exact all r x hx
theorem Qtt{aj:List (List Key×V)}(ok:HOk P w H h)(e:H a=some (.dT aj)):aj.length<=sizeLine/\(a==sysModules)=false/\∃xs,KT H aj xs/\h.DictOfH (tupleKind (ZP P w)) a xs:=Qlc ok (.inl e)
end
def DGet(H:Hp)(a:Addr)(y:V)(r:Option V):Prop:=(∃aj k,Rd H a (.dK aj)/\y=kV k/\r=YR aj k)\/∃aj k b,Rd H a (.dT aj)/\y=.ref b/\H b=some (.tup (k.map kV))/\r=YR aj k
def DPut(H:Hp)(a:Addr)(y v:V)(H':Hp):Prop:=(∃aj k,H a=some (.dK aj)/\y=kV k/\aj.length<sizeLine/\H'=upd H a (.dK (VF aj k v)))\/∃aj k b,H a=some (.dT aj)/\y=.ref b/\H b=some (.tup (k.map kV))/\aj.length<sizeLine/\H'=upd H a (.dT (VF aj k v))
theorem DGet.k{H:Hp}{a:Addr}{aj:List (Key×V)}{k:Key}(e:H a=some (.dK aj)):DGet H a (kV k) (YR aj k):=.inl ⟨aj,k,.inl e,rfl,rfl⟩
theorem DGet.t{H:Hp}{a b:Addr}{aj:List (List Key×V)}{k:List Key}(e:H a=some (.dT aj))(eb:H b=some (.tup (k.map kV))):DGet H a (.ref b) (YR aj k):=.inr ⟨aj,k,b,.inl e,rfl,eb,rfl⟩
theorem DPut.k{H:Hp}{a:Addr}{aj:List (Key×V)}{k:Key}{v:V}(e:H a=some (.dK aj))(hl:aj.length<sizeLine):DPut H a (kV k) v (upd H a (.dK (VF aj k v))):=.inl ⟨aj,k,e,rfl,hl,rfl⟩
theorem DPut.t{H:Hp}{a b:Addr}{aj:List (List Key×V)}{k:List Key}{v:V}(e:H a=some (.dT aj))(eb:H b=some (.tup (k.map kV)))(hl:aj.length<sizeLine):DPut H a (.ref b) v (upd H a (.dT (VF aj k v))):=.inr ⟨aj,k,b,e,rfl,eb,hl,rfl⟩
section
variable{X:Cx}{aa:List (Addr×Obj)}{σ:St}{H:Hp}{s:Shared}{a:Addr}{y v:V}{u r:Value}{o:Option V}{A:Around}{E:Value->Shared->Prop}
theorem Inv.big(I:Inv X aa σ H s):sysModules<s.heap.objs.size:=by have h:mainGlobals<s.heap.objs.size:=(I.mod.glob.keeps I.bk).lt;exact lt_trans (by decide) h
theorem Qt1{Q:Value->Shared->Prop}(hu:A.units+1<cLine)(I:Inv X aa σ H s)(g:DGet H a y o)(ry:RelV y u)(h:∀s',Inv X aa σ H s'->Q (.bool o.isSome) s'):wpAny (model X.prog X.w) A (compareOp .In u (.ref a)) Q E s:=by
 rcases g with⟨aj,k,e,ey,l⟩|⟨aj,k,b,e,ey,eb,l⟩
 ·subst ey;obtain⟨z,hd,vs,rel,dd⟩:=Qld I.hok e;refine wpAny_in_of (QhH ry) hd dd.mapOf ?_;rw[<-(rel.val k).isSome_eq,<-l];exact h _ (I.tok _)
 ·subst ey;cases(show u=Value.ref b from ry);obtain⟨z,hd,xs,rel,dd⟩:=Qlc I.hok e;refine wpAny_in_heap (tupleKind_room_in1 hu) (Qfq I.hok eb) hd dd ?_;have q:=(rel.val k).isSome_eq;rw[isSome_map]at q;rw[<-q,<-l];exact h _ (I.tok _)
theorem QqY{Q:Value->Shared->Prop}(hu:A.units+1<cLine)(I:Inv X aa σ H s)(g:DGet H a y o)(ry:RelV y u)(h:∀s',Inv X aa σ H s'->Q (.bool (!o.isSome)) s'):wpAny (model X.prog X.w) A (compareOp .NotIn u (.ref a)) Q E s:=by
 rcases g with⟨aj,k,e,ey,l⟩|⟨aj,k,b,e,ey,eb,l⟩
 ·subst ey;obtain⟨z,hd,vs,rel,dd⟩:=Qld I.hok e;refine wpAny_notIn_of (QhH ry) hd dd.mapOf ?_;rw[<-(rel.val k).isSome_eq,<-l];exact h _ (I.tok _)
 ·subst ey;cases(show u=Value.ref b from ry);obtain⟨z,hd,xs,rel,dd⟩:=Qlc I.hok e;refine wpAny_notIn_heap (tupleKind_room_in1 hu) (Qfq I.hok eb) hd dd ?_;have q:=(rel.val k).isSome_eq;rw[isSome_map]at q;rw[<-q,<-l];exact h _ (I.tok _)
theorem QkA{h':Heap}{t':Nat}{ob:HO}(I:Inv X aa σ H s)(mu:Mut (H a))(hs:Heap.SameBut a s.heap h')(he:∃q,h'.get? a=some q)(new:ObjOk X.prog X.w (upd H a ob) h' a ob):Inv X aa σ (upd H a ob) {s with heap:=h',toks:=t'}:=I.write (x:=a) (e:=a) mu (.inl rfl) (λb q hb z=>(hs.2 b hb).trans z) he new
theorem QsE{P:Program}{w:World}{H':Hp}{h':Heap}{aj:List (Key×V)}{vs:List (Key×Value)}(z:aj.length<=sizeLine)(hd:(a==sysModules)=false)(rel:KV aj vs)(dd:h'.DictOf (ZP P w) a vs):ObjOk P w H' h' a (.dK aj):=⟨z,hd,vs,rel,dd⟩
theorem Qnu{H':Hp}{Q:Unit->Shared->Prop}(hu:A.units+1<cLine)(I:Inv X aa σ H s)(g:DPut H a y v H')(ry:RelV y u)(rv:RelV v r)(h:∀s',Inv X aa σ H' s'->Q () s'):wpAny (model X.prog X.w) A (setItem (.ref a) u r) Q E s:=by
 rcases g with⟨aj,k,e,ey,l,eH⟩|⟨aj,k,b,e,ey,eb,l,eH⟩
 ·subst ey eH;obtain⟨z,hd,vs,rel,dd⟩:=Qtu I.hok e;have hz:vs.length<=sizeLine:=by rw[<-rel.length];exact z
  have hl:(VF aj k v).length<=sizeLine:=by have:=QeB aj k v;omega
  refine wpAny_setItem_pairs (hsz:=hz) (QhH ry) dd λh' fj hs=>h _ ?_;have he:∃q,h'.get? a=some q:=let⟨q,_,_,hq,_⟩:=fj;⟨q,hq⟩;exact QkA I (by rw[e];exact True.intro) hs he (QsE hl hd (rel.put k rv) fj)
 ·subst ey eH;cases(show u=Value.ref b from ry);obtain⟨z,hd,xs,rel,dd⟩:=Qtt I.hok e;have hz:xs.length<=sizeLine:=by rw[<-Paired.length rel];exact z
  have hl:(VF aj k v).length<=sizeLine:=by have:=QeB aj k v;omega
  refine wpAny_setItem_heap (hsz:=hz) (tupleKind_room_in1 hu) (Qfq I.hok eb) dd λh' fj hs=>h _ ?_;obtain⟨q,es,ep,hq,h2,h3,h4,_,h5⟩:=fj;refine QkA I (by rw[e];exact True.intro) hs ⟨q,hq⟩ ⟨hl,hd,_,(rel.put k eb rv).keeps λc ys ec=>?_,q,es,ep,hq,h2,h3,h4,h5⟩;rw[Qt (Qte ec e (λz=>nomatch z))];exact ec
end
def QtP(ty td:TE):TE:=λσ H Q=>ty σ H λy H1=>td σ H1 λx H2=>∃a o,x=.ref a/\DGet H2 a y o/\Q (.bl o.isSome) H2
def Qp1(ty td:TE):TE:=λσ H Q=>ty σ H λy H1=>td σ H1 λx H2=>∃a o,x=.ref a/\DGet H2 a y o/\Q (.bl (!o.isSome)) H2
def Qs0(td ty tv:TE):TS:=λD σ H=>tv σ H λv H1=>td σ H1 λx H2=>ty σ H2 λy H3=>∃a H4,x=.ref a/\DPut H3 a y v H4/\D.nx σ H4
section
variable{X:Cx}{o i e value:Expr}{pos pos' cL:Pos}{td ty tv:TE}
theorem Qr0(hu:X.A.units+1<cLine)(hi:PE X i ty)(ho:PE X o td):PC X .In i o (QtP ty td):=by intro aa s σ H Q I h;refine thn (hi aa s σ H _ I h) λiv s1⟨y,H1,I1,ry,q1⟩=>thn (ho aa s1 σ H1 _ I1 q1) λu s2⟨x,H2,I2,rx,a,ov,ex,g,q2⟩=>?_;subst ex;obtain rfl:u=Value.ref a:=rx;exact Qt1 hu I2 g ry λs3 I3=>⟨.bl ov.isSome,H2,I3,rfl,q2⟩
theorem Qm0(hu:X.A.units+1<cLine)(hi:PE X i ty)(ho:PE X o td):PC X .NotIn i o (Qp1 ty td):=by intro aa s σ H Q I h;refine thn (hi aa s σ H _ I h) λiv s1⟨y,H1,I1,ry,q1⟩=>thn (ho aa s1 σ H1 _ I1 q1) λu s2⟨x,H2,I2,rx,a,ov,ex,g,q2⟩=>?_;subst ex;obtain rfl:u=Value.ref a:=rx;exact QqY hu I2 g ry λs3 I3=>⟨.bl (!ov.isSome),H2,I3,rfl,q2⟩
theorem Qqe(hu:X.A.units+1<cLine)(ho:PE X o td)(hi:PE X i ty)(hv:PE X value tv)(hs:swapsWith value (some (.Subscript o i pos')) pos.line X.env=pure false):PS X (.Assign [.Subscript o i pos'] value pos) (Qs0 td ty tv):=by intro aa s σ H D I h;refine wpAny_Assign_Subscript (thn (hv aa s σ H _ I h) λr s1⟨v,H1,I1,rv,q1⟩=>thn (ho aa s1 σ H1 _ I1 q1) λu s2⟨x,H2,I2,rx,q2⟩=>thn (hi aa s2 σ H2 _ I2 q2) λiv s3⟨y,H3,I3,ry,a,H4,ex,g,q3⟩=>?_) hs;subst ex;obtain rfl:u=Value.ref a:=rx;exact Qnu hu I3 g ry rv λs4 I4=>⟨σ,H4,I4,q3⟩
end
theorem Qpe{P:Program}{w:World}{H:Hp}(h:Heap)(hb:sysModules<h.objs.size):ObjOk P w H (h.push {cls:=.type "dict",data:=.dict #[]}) h.objs.size (.dK []):=⟨zero_le _,beq_eq_false_iff_ne.mpr (Ne.symm (ne_of_lt hb)),[],.nil,Heap.DictOf.new h⟩
def QrC:TE:=λ_ H Q=>∀p,H p=none->Q (.ref p) (upd H p (.dK []))
section
variable{X:Cx}{pos:Pos}
theorem Qoz:PE X (.Dict [] [] pos) QrC:=λaa s σ H Q I h=>wpAny_Dict_empty ⟨.ref s.heap.objs.size,_,I.laid (a:=s.heap.objs.size) (o:=.dK []) (t':=s.toks) (λ_ _ q=>Heap.get?_push_of_some _ q) (le_refl _) (Qpe s.heap I.big),rfl,h _ (I.hok.fresh (le_refl _))⟩
end
end L2
namespace Wd
open PySem
abbrev Kd:=Sum Int Str
inductive D where|non|bl(b:Bool)|int(i:Int)|str(x:Str)|tup(xs:List D)|lst(xs:List D)|scr(ns:List Int)|dic(ks:List Kd)(xs:List D)|exc(c:Nat)(n:D)
abbrev Qh:=List (Option D)
abbrev EvE:=Qh->Option D
abbrev EvL:=Qh->Option (List D)
abbrev EvO:=Qh->Option (Option Int)
abbrev EvG:=D->Qh->Option Qh
inductive Fl where|nx(e:Qh)|rt(d:D)|bk(e:Qh)|ct(e:Qh)|rz(c:Nat)(d:D)|rm(d z:D)
abbrev EvS:=Qh->Option Fl
def lI:Nat:=16777216
def ifO{α:Type}:Option D->Option α->Option α->Option α|some (.bl c),x,y=>if c=true then x else y|_,_,_=>none
noncomputable def Qf8:Option D->Option D|some (.bl c)=>some (.bl (!c))|_=>none
theorem Qp{α:Type}(c:Bool)(x y:Option α):ifO (some (.bl c)) x y=if c=true then x else y:=rfl
theorem ZO(c:Bool):Qf8 (some (.bl c))=some (.bl (!c)):=rfl
theorem ZR{α:Type}{p:Prop}[Decidable p](a b:Option D)(x y:Option α):ifO (if p then a else b) x y=if p then ifO a x y else ifO b x y:=by split<;>rfl
theorem Ze{p:Prop}[Decidable p](a b:Option D):Qf8 (if p then a else b)=if p then Qf8 a else Qf8 b:=by split<;>rfl
mutual noncomputable def D.dep:D->Nat|.tup xs=>D.depL xs+1|.lst xs=>D.depL xs+1|.scr _=>1|.dic _ xs=>D.depL xs+1|_=>0 noncomputable def D.depL:List D->Nat|[]=>0|x::xs=>max (D.dep x) (D.depL xs)end
theorem J4:D.dep .non=0:=by rw[D.dep];all_goals simp
theorem Yb(b:Bool):D.dep (.bl b)=0:=by rw[D.dep];all_goals simp
theorem QD(i:Int):D.dep (.int i)=0:=by rw[D.dep];all_goals simp
theorem Qy(x:Str):D.dep (.str x)=0:=by rw[D.dep];all_goals simp
theorem Jw(xs:List D):D.dep (.tup xs)=D.depL xs+1:=by rw[D.dep]
theorem Q2(xs:List D):D.dep (.lst xs)=D.depL xs+1:=by rw[D.dep]
theorem QW:D.depL []=0:=by rw[D.depL]
theorem QQ(x:D)(xs:List D):D.depL (x::xs)=max (D.dep x) (D.depL xs):=by rw[D.depL]
noncomputable def b2i(b:Bool):Int:=if b then 1 else 0
noncomputable def Qn7:Option Bool->Option Bool->Option Bool|some a,some b=>some (a&&b)|_,_=>none
theorem Jl(a b:Bool):Qn7 (some a) (some b)=some (a&&b):=rfl
noncomputable def D.oth:D->Option Bool|.scr _=>none|.dic _ _=>none|.exc _ _=>none|_=>some false
mutual noncomputable def D.eq:D->D->Option Bool
 |.non,e=>match e with|.non=>some true|e=>e.oth
 |.bl a,e=>match e with
  |.bl b=>some (a==b)|.int j=>some (decide (b2i a=j))|e=>e.oth
 |.int i,e=>match e with
  |.bl b=>some (decide (i=b2i b))|.int j=>some (decide (i=j))|e=>e.oth
 |.str x,e=>match e with
  |.str y=>some (decide (x=y))|e=>e.oth
 |.tup xs,e=>match e with|.tup ys=>D.eqL xs ys|e=>e.oth
 |.lst xs,e=>match e with|.lst ys=>D.eqL xs ys|e=>e.oth
 |.scr _,_=>none|.dic _ _,_=>none|.exc _ _,_=>none noncomputable def D.eqL:List D->List D->Option Bool|[],[]=>some true|x::xs,y::ys=>Qn7 (D.eq x y) (D.eqL xs ys)|_,_=>some false end
theorem QM(i j:Int):D.eq (.int i) (.int j)=some (decide (i=j)):=by rw[D.eq]
theorem Vk(i j:Bool):D.eq (.bl i) (.bl j)=some (i==j):=by rw[D.eq]
theorem QG(i j:Str):D.eq (.str i) (.str j)=some (decide (i=j)):=by rw[D.eq]
theorem JG(xs ys:List D):D.eq (.tup xs) (.tup ys)=D.eqL xs ys:=by rw[D.eq]
theorem JH(xs ys:List D):D.eq (.lst xs) (.lst ys)=D.eqL xs ys:=by rw[D.eq]
theorem Jv:D.eqL [] []=some true:=by rw[D.eqL]
theorem JJ(x y:D)(xs ys:List D):D.eqL (x::xs) (y::ys)=Qn7 (D.eq x y) (D.eqL xs ys):=by rw[D.eqL]
noncomputable def D.cmp(o:Option Bool):Option D:=o.map .bl
noncomputable def D.cmpN(o:Option Bool):Option D:=o.map λb=>.bl (!b)
def D.eqO(x y:D):Option D:=if x.dep<=40 then D.cmp (D.eq x y)else none
def D.neO(x y:D):Option D:=if x.dep<=40 then D.cmpN (D.eq x y)else none
noncomputable def intsOf:List D->Option (List Int)|[]=>some []|.int i::r=>(intsOf r).map (i::·)|_=>none
noncomputable def VB:List Int->List Int->Bool|[],_=>true|_::_,[]=>false|x::xs,y::ys=>if x=y then VB xs ys else decide (x<y)
noncomputable def D.lt:D->D->Option D|.int i,.int j=>some (.bl (decide (i<j)))|_,_=>none
def D.le:D->D->Option D
 |.int i,.int j=>some (.bl (decide (i<=j)))|.tup xs,.tup ys=>match intsOf xs,intsOf ys with
  |some a,some b=>some (.bl (VB a b))|_,_=>none
 |_,_=>none
noncomputable def D.gt:D->D->Option D|.int i,.int j=>some (.bl (decide (j<i)))|_,_=>none
noncomputable def D.ge:D->D->Option D|.int i,.int j=>some (.bl (decide (j<=i)))|_,_=>none
noncomputable def D.len:D->Option D|.str x=>if x.length<=lI then some (.int x.length)else none|.tup xs=>some (.int xs.length)|.lst xs=>some (.int xs.length)|.scr ns=>some (.int ns.length)|_=>none
noncomputable def D.add:D->D->Option D|.int i,.int j=>some (.int (i+j))|.str x,.str y=>if x.length+y.length<=lI then some (.str (x++y))else none|.lst xs,.lst ys=>if xs.length+ys.length<=lI then some (.lst (xs++ys))else none|.tup (x::xs),.tup ys=>if xs.length+1+ys.length<=lI then some (.tup (x::xs++ys))else none|_,_=>none
noncomputable def D.addI:D->D->Option D|.int i,.int j=>some (.int (i+j))|.str x,.str y=>if x.length+y.length<=lI then some (.str (x++y))else none|_,_=>none
noncomputable def D.sub:D->D->Option D|.int i,.int j=>some (.int (i-j))|_,_=>none
noncomputable def D.mul:D->D->Option D|.int i,.int j=>if-2^64<i/\i<2^64\/-2^64<j/\j<2^64 then some (.int (i*j))else none|_,_=>none
noncomputable def D.mod:D->D->Option D|.int i,.int j=>if 0<j then some (.int (i%j))else none|_,_=>none
noncomputable def D.fdiv:D->D->Option D|.int i,.int j=>if 0<j/\j<1073741824 then some (.int (i/j))else none|_,_=>none
noncomputable def D.pow:D->D->Option D|.int i,.int j=>if 0<=j/\j<=1000000/\i.natAbs<2^64 then some (.int (i^j.toNat))else none|_,_=>none
noncomputable def D.neg:D->Option D|.int i=>some (.int (-i))|_=>none
theorem Qa5{i j:Int}(h:-2^64<i/\i<2^64):D.mul (.int i) (.int j)=some (.int (i*j)):=if_pos (.inl h)
theorem Qeh{i j:Int}(h:-2^64<j/\j<2^64):D.mul (.int i) (.int j)=some (.int (i*j)):=if_pos (.inr h)
theorem QaL{i j:Int}(h:0<j):D.mod (.int i) (.int j)=some (.int (i%j)):=if_pos h
theorem Qsv{i j:Int}(h:0<j/\j<1073741824):D.fdiv (.int i) (.int j)=some (.int (i/j)):=if_pos h
theorem Qk7{i j:Int}(h:0<=j/\j<=1000000/\i.natAbs<2^64):D.pow (.int i) (.int j)=some (.int (i^j.toNat)):=if_pos h
noncomputable def D.strI:D->Option D|.int i=>if i.natAbs<2^1900 then some (.str (Str.ofString (toString i)))else none|_=>none
noncomputable def D.intB:D->Option D|.int i=>some (.int i)|.bl b=>some (.int (if b then 1 else 0))|_=>none
noncomputable def D.min2:D->D->Option D|.int i,.int j=>some (.int (if j<i then j else i))|_,_=>none
noncomputable def D.max2:D->D->Option D|.int i,.int j=>some (.int (if j>i then j else i))|_,_=>none
noncomputable def D.isT:D->Option D|.bl b=>some (.bl b)|.int _=>some (.bl false)|_=>none
noncomputable def tyD:D->String|.non=>"NoneType"|.bl _=>"bool"|.int _=>"int"|.str _=>"str"|.tup _=>"tuple"|.lst _=>"list"|.scr _=>"list"|.dic _ _=>"dict"|.exc _ _=>"exc"
def D.inst(t:String)(d:D):Option D:=match d with|.scr _=>none|.exc _ _=>none|d=>some (.bl (decide (tyD d=t)||decide (t="int")&&decide (tyD d="bool")))
noncomputable def ixD(n:Nat)(i:Int):Option Nat:=if 0<=i then(if i<n then some i.toNat else none)else if-(n:Int)<=i then some (i+n).toNat else none
def D.ix:D->D->Option D|.tup xs,.int i=>(ixD xs.length i).bind λk=>xs[k]?|.lst xs,.int i=>(ixD xs.length i).bind λk=>xs[k]?|.scr ns,.int i=>(ixD ns.length i).bind λk=>(ns[k]?).map .int|.str x,.int i=>if x.length<=lI then(ixD x.length i).bind λk=>(x.cps[k]?).map λc=>.str ⟨#[c]⟩else none|_,_=>none
noncomputable def Yh(n d:Nat):Option Int->Nat|none=>d|some v=>if v<0 then(v+(n:Int)).toNat else min v.toNat n
def ZE{α:Type}(xs:List α)(lo hi:Option Int):List α:=(xs.drop (Yh xs.length 0 lo)).take (Yh xs.length xs.length hi-Yh xs.length 0 lo)
def D.cut:D->Option Int->Option Int->Option D|.lst xs,lo,hi=>some (.lst (ZE xs lo hi))|.tup xs,lo,hi=>if Yh xs.length 0 lo=0/\Yh xs.length xs.length hi=xs.length then none else some (.tup (ZE xs lo hi))|.scr ns,lo,hi=>some (.lst ((ZE ns lo hi).map .int))|_,_,_=>none
def Qt3(x:D)(lo hi:Option Int):Option D:=D.cut x lo hi
def eV(i:Nat):EvE:=λe=>(e[i]?).join
def eC(d:D):EvE:=λ_=>some d
noncomputable def eOp(g:D->D->Option D)(a b:EvE):EvE:=λe=>(a e).bind λx=>(b e).bind λy=>g x y
noncomputable def eUn(g:D->Option D)(a:EvE):EvE:=λe=>(a e).bind λx=>g x
def Jg(a:EvE):EvE:=λe=>Qf8 (a e)
noncomputable def Qz(a b:EvE):EvE:=λe=>ifO (a e) (b e) (some (.bl false))
noncomputable def eOr(a b:EvE):EvE:=λe=>ifO (a e) (some (.bl true)) (b e)
noncomputable def eIf(c a b:EvE):EvE:=λe=>ifO (c e) (a e) (b e)
noncomputable def JO(g g':D->D->Option D)(a b c:EvE):EvE:=λe=>(a e).bind λx=>(b e).bind λy=>ifO (g x y) ((c e).bind λz=>g' y z) (some (.bl false))
def lN:EvL:=λ_=>some []
noncomputable def lC(a:EvE)(l:EvL):EvL:=λe=>(a e).bind λx=>(l e).map λxs=>x::xs
noncomputable def Qi(l:EvL):EvE:=λe=>(l e).map .tup
noncomputable def Qf(l:EvL):EvE:=λe=>(l e).map .lst
noncomputable def eK(f:List D->Option D)(l:EvL):EvE:=λe=>(l e).bind f
def Za(t:String)(a:EvE):EvE:=λe=>(a e).bind λx=>D.inst t x
def oNo:EvO:=λ_=>some none
noncomputable def oAt(a:EvE):EvO:=λe=>(a e).bind λd=>match d with|.int i=>some (some i)|_=>none
def Vl(a:EvE)(lo hi:EvO):EvE:=λe=>(a e).bind λx=>(lo e).bind λl=>(hi e).bind λh=>Qt3 x l h
noncomputable def gS(i:Nat):EvG:=λd e=>some (e.set i (some d))
noncomputable def ZI:List EvG->List D->Qh->Option Qh|[],[],e=>some e|g::gs,d::ds,e=>(g d e).bind λe'=>ZI gs ds e'|_,_,_=>none
def Q4(gs:List EvG):EvG:=λd e=>match d with|.tup ds=>ZI gs ds e|_=>none
noncomputable def Qcf:Option Fl->EvS->Option Fl|some (.nx e),k=>k e|some (.rt d),_=>some (.rt d)|some (.bk e),_=>some (.bk e)|some (.ct e),_=>some (.ct e)|some (.rz c d),_=>some (.rz c d)|some (.rm d z),_=>some (.rm d z)|none,_=>none
theorem QN(e:Qh)(k:EvS):Qcf (some (.nx e)) k=k e:=rfl
theorem QT(d:D)(k:EvS):Qcf (some (.rt d)) k=some (.rt d):=rfl
theorem ZN(e:Qh)(k:EvS):Qcf (some (.bk e)) k=some (.bk e):=rfl
theorem ZM(e:Qh)(k:EvS):Qcf (some (.ct e)) k=some (.ct e):=rfl
theorem JU(k:EvS):Qcf none k=none:=rfl
theorem Zd{c:Prop}[Decidable c](a b:Option Fl)(k:EvS):Qcf (if c then a else b) k=if c then Qcf a k else Qcf b k:=by split<;>rfl
def sQ(a b:EvS):EvS:=λe=>Qcf (a e) b
noncomputable def sIf(c:EvE)(a b:EvS):EvS:=λe=>ifO (c e) (a e) (b e)
noncomputable def Qj(a:EvE):EvS:=λe=>(a e).map .rt
def Vi:EvS:=λ_=>some (.rt .non)
noncomputable def Qe(a:EvE)(g:EvG):EvS:=λe=>(a e).bind λd=>(g d e).map .nx
noncomputable def Vt(i:Nat)(g:D->D->Option D)(a:EvE):EvS:=λe=>(eV i e).bind λx=>(a e).bind λy=>(g x y).map λz=>.nx (e.set i (some z))
noncomputable def Vj(a:EvE):EvS:=λe=>(a e).map λ_=>.nx e
def sNx:EvS:=λe=>some (.nx e)
def Qal:EvS:=λe=>some (.bk e)
def Vs:EvS:=λe=>some (.ct e)
noncomputable def D.app:D->D->Option D|.lst xs,d=>if xs.length<lI then some (.lst (xs++[d]))else none|_,_=>none
noncomputable def D.ext:D->D->Option D|.lst xs,.lst ys=>if xs.length+ys.length<=lI then some (.lst (xs++ys))else none|_,_=>none
def sP(i:Nat)(a:EvE):EvS:=λe=>(eV i e).bind λx=>(a e).bind λd=>(D.app x d).map λz=>.nx (e.set i (some z))
def QnW(i:Nat)(a:EvE):EvS:=λe=>(eV i e).bind λx=>(a e).bind λd=>(D.ext x d).map λz=>.nx (e.set i (some z))
noncomputable def Z4:Option Fl->EvS->Option Fl|some (.nx e),k=>k e|some (.ct e),k=>k e|some (.bk e),_=>some (.nx e)|some (.rt d),_=>some (.rt d)|some (.rz c d),_=>some (.rz c d)|some (.rm d z),_=>some (.rm d z)|none,_=>none
theorem Y9(e:Qh)(k:EvS):Z4 (some (.nx e)) k=k e:=rfl
def QA(g:EvG)(b:EvS):List D->EvS|[],e=>some (.nx e)|d::ds,e=>Z4 ((g d e).bind b) (QA g b ds)
abbrev EvI:=Qh->Option (List D)
def QP(it:EvI)(g:EvG)(b:EvS):EvS:=λe=>(it e).bind λds=>QA g b ds e
noncomputable def rD(lo:Int)(n:Nat):List D:=(List.range n).map λi:Nat=>.int (lo+(i:Int))
noncomputable def VE:Nat->List D->List D|_,[]=>[]|n,d::ds=>.tup [.int n,d]::VE (n+1) ds
def D.rng:D->Option (List D)|.int n=>if n.natAbs<4611686018427387904 then some (rD 0 n.toNat)else none|_=>none
noncomputable def D.its:D->Option (List D)|.lst xs=>some xs|.scr ns=>some (ns.map .int)|_=>none
noncomputable def D.itsT:D->Option (List D)|.tup xs=>some xs|_=>none
def JB(a:EvE):EvI:=λe=>(a e).bind λd=>D.rng d
def QC(a:EvE):EvI:=λe=>(a e).bind λd=>D.its d
def VD(a:EvE):EvI:=λe=>(a e).bind λd=>(D.its d).map λds=>VE 0 ds
noncomputable def QdH:Option Fl->Option D|some (.rt d)=>some d|some (.nx _)=>some .non|_=>none
theorem ZS(d:D):QdH (some (.rt d))=some d:=rfl
theorem ZT(e:Qh):QdH (some (.nx e))=some .non:=rfl
theorem Zf{c:Prop}[Decidable c](a b:Option Fl):QdH (if c then a else b)=if c then QdH a else QdH b:=by split<;>rfl
theorem Zh{α β:Type}{c:Prop}[Decidable c](a b:Option α)(f:α->Option β):(if c then a else b).bind f=if c then a.bind f else b.bind f:=by split<;>rfl
theorem ZQ{α β:Type}{c:Prop}[Decidable c](a b:Option α)(f:α->β):(if c then a else b).map f=if c then a.map f else b.map f:=by split<;>rfl
noncomputable def sD(n:Nat)(ds:List D):Qh:=ds.map some++List.replicate (n-ds.length) none
def QO(n k:Nat)(b:EvS)(ds:List D):Option D:=if ds.length=k then QdH (b (sD n ds))else none
noncomputable def VU(g:EvG)(c el:EvE):List D->Qh->Option (List D)|[],_=>some []|d::ds,e=>(g d e).bind λe1=>ifO (c e1) ((el e1).bind λx=>(VU g c el ds e1).map λr=>x::r) (VU g c el ds e1)
noncomputable def Qci(n:Nat)(caps:List Nat)(e:Qh):Qh:=List.replicate n none++caps.map λi=>(e[i]?).join
def QF(n:Nat)(caps:List Nat)(it:EvI)(g:EvG)(c el:EvE):EvE:=λe=>(it e).bind λds=>if ds.length<=lI then(VU g c el ds (Qci n caps e)).map .lst else none
def VQ(x:Str)(lo hi:Option Int):Str:=⟨(ZE x.cps.toList lo hi).toArray⟩
noncomputable def YS(x:Str)(n:Int):Str:=⟨(List.replicate n.toNat x.cps.toList).flatten.toArray⟩
def ZF(x:D)(lo hi:Option Int):Option D:=match x with|.str z=>if z.length<=lI then some (.str (VQ z lo hi))else none|d=>D.cut d lo hi
def Jh(a:EvE)(lo hi:EvO):EvE:=λe=>(a e).bind λx=>(lo e).bind λl=>(hi e).bind λh=>ZF x l h
noncomputable def D.strip:D->Option D|.str x=>if x.length<=lI then some (.str (Txt.strip x))else none|_=>none
def D.mulA:D->D->Option D|.int i,.int j=>D.mul (.int i) (.int j)|.str x,.int n=>if-1073741824<n/\n<1073741824/\x.length*n.toNat<=lI then some (.str (YS x n))else none|.lst xs,.int n=>if-1073741824<n/\n<1073741824/\xs.length*n.toNat<=lI then some (.lst (List.replicate n.toNat xs).flatten)else none|_,_=>none
noncomputable def Jp:D->Bool|.non|.bl _|.int _|.str _=>true|_=>false
def inD(x:D):List D->Bool|[]=>false|y::ys=>D.eq y x==some true||inD x ys
def D.inO(x y:D):Option D:=match y with|.tup ys=>if Jp x=true/\ys.all Jp=true then some (.bl (inD x ys))else none|.lst ys=>if Jp x=true/\ys.all Jp=true then some (.bl (inD x ys))else none|_=>none
def D.notInO(x y:D):Option D:=match y with|.tup ys=>if Jp x=true/\ys.all Jp=true then some (.bl (!inD x ys))else none|.lst ys=>if Jp x=true/\ys.all Jp=true then some (.bl (!inD x ys))else none|_=>none
noncomputable def D.listOf:D->Option D|.lst xs=>some (.lst xs)|.tup xs=>some (.lst xs)|.scr ns=>some (.lst (ns.map .int))|_=>none
noncomputable def Jo:Int->List Int->Int|m,[]=>m|m,n::ns=>Jo (if n>m then n else m) ns
theorem VO:∀(ns:List Int)(m:Int),(Jo m ns=m\/Jo m ns∈ns)/\m<=Jo m ns/\∀a∈ns,a<=Jo m ns
 |[],m=>⟨.inl rfl,Int.le_refl _,λ_ h=>by cases h⟩|n::ns,m=>by
  obtain⟨h1,h2,h3⟩:=VO ns (if n>m then n else m);show(Jo (if n>m then n else m) ns=m\/_)/\_;refine⟨?_,?_,λa ha=>?_⟩
  ·rcases h1 with h|h
   ·by_cases z:n>m;·right;show Jo (if n>m then n else m) ns∈n::ns;rw[h,if_pos z];exact mem_cons_self
    ·left;rw[h,if_neg z]
   ·right;exact mem_cons_of_mem _ h
  ·show m<=Jo (if n>m then n else m) ns;refine Int.le_trans ?_ h2;split<;>omega
  ·show a<=Jo (if n>m then n else m) ns;rcases List.mem_cons.mp ha with z|z
   ·subst z;refine Int.le_trans ?_ h2;split<;>omega
   ·exact h3 a z
def D.maxL:D->Option D
 |.lst xs=>match intsOf xs with
  |some (m::ns)=>some (.int (Jo m ns))|_=>none
 |_=>none
def D.sumL:D->Option D|.lst xs=>(intsOf xs).map λns=>.int ns.sum|_=>none
noncomputable def Z3:List D->Option (List Bool)|[]=>some []|.bl b::r=>(Z3 r).map (b::·)|_=>none
def D.anyL:D->Option D|.lst xs=>(Z3 xs).map λbs=>.bl (bs.any id)|_=>none
theorem QE(i j:Int):D.mulA (.int i) (.int j)=D.mul (.int i) (.int j):=rfl
noncomputable def kOf:D->Option Kd|.str x=>some (.inr x)|.int i=>some (.inl i)|_=>none
noncomputable def hasK(k:Kd)(ks:List Kd):Bool:=ks.any λc=>decide (c=k)
noncomputable def Qgc:List Kd->List D->Kd->Option D|c::ks,d::ds,k=>if c=k then some d else Qgc ks ds k|_,_,_=>none
noncomputable def Qk0:List Kd->List D->Kd->D->List D|c::ks,d::ds,k,v=>(if c=k then v else d)::Qk0 ks ds k v|_,_,_,_=>[]
def D.dget:D->D->Option D|.dic ks ds,y=>(kOf y).bind λk=>Qgc ks ds k|_,_=>none
def D.dIn(y d:D):Option D:=match d with|.dic ks _=>(kOf y).map λk=>.bl (hasK k ks)|_=>none
def D.dNotIn(y d:D):Option D:=match d with|.dic ks _=>(kOf y).map λk=>.bl (!hasK k ks)|_=>none
def Qgd(ks:List Kd)(ds:List D)(k:Kd)(v:D):D:=if hasK k ks=true then .dic ks (Qk0 ks ds k v)else .dic (ks++[k]) (ds++[v])
def D.put(x y v:D):Option D:=match x with|.dic ks ds=>(kOf y).bind λk=>if ks.length<lI then some (Qgd ks ds k v)else none|_=>none
def Qpu(i:Nat)(key val:EvE):EvS:=λe=>(val e).bind λv=>(eV i e).bind λx=>(key e).bind λy=>(D.put x y v).map λz=>.nx (e.set i (some z))
abbrev Rs:=Sum D (Nat×D)
noncomputable def D.blkO(c:Nat):D->Option Fl|.int i=>if 0<=i/\i<10^60 then some (.rz c (.int i))else none|_=>none
def Z9(c:Nat)(a:EvE):EvS:=λe=>(a e).bind (D.blkO c)
def Qgl:EvS:=λ_=>some (.rz 0 .non)
def VP(n k:Nat)(b:EvS)(ds:List D):Option Rs:=if ds.length=k then match b (sD n ds)with|some (.rt d)=>some (.inl d)|some (.nx _)=>some (.inl .non)|some (.rz c d)=>some (.inr (c,d))|_=>none else none
def YY(n k:Nat)(b:EvS)(ds:List D):Option Rs:=if ds.length=k then match b (sD n ds)with|some (.nx e)=>((e[k-1]?).join).map .inl|some (.rz c d)=>some (.inr (c,d))|_=>none else none
noncomputable def QhN(e:Qh):Rs->Fl|.inl _=>.nx e|.inr (c,n)=>.rz c n
noncomputable def QtS(i:Nat)(e:Qh):Rs->Fl|.inl z=>.nx (e.set i (some z))|.inr (c,n)=>.rz c n
def Zq(f:List D->Option Rs)(l:EvL):EvS:=λe=>(l e).bind λds=>(f ds).map (QhN e)
def Zz(i:Nat)(f:List D->Option Rs)(l:EvL):EvS:=λe=>(l e).bind λds=>(eV i e).bind λd=>(f (ds++[d])).map (QtS i e)
noncomputable def QnT:Rs->Option D|.inl d=>some d|.inr _=>none
def QdT(f:List D->Option Rs)(l:EvL):EvE:=λe=>(l e).bind λds=>(f ds).bind QnT
noncomputable def Qrf(i j:Nat)(e:Qh):Option Fl->Option Fl|some (.nx e')=>some (.nx e')|some (.rz c n)=>if c<=6 then some (.nx ((e.set i (some (.exc c n))).set j none))else none|_=>none
def QkV(i j:Nat)(b:EvS):EvS:=λe=>Qrf i j e (b e)
noncomputable def D.cat:D->D->Option D|.lst xs,.lst ys=>if xs.length+ys.length<=lI then some (.lst (xs++ys))else none|_,_=>none
noncomputable def D.instX(c:Nat):D->Option D|.exc c' _=>if c'<=6 then some (.bl (decide (c'=c)))else none|.non=>some (.bl false)|_=>none
noncomputable def D.instV:D->Option D|.exc c _=>if c<=6 then some (.bl true)else none|.non=>some (.bl false)|_=>none
noncomputable def D.blk:D->Option D|.exc c n=>if c=0\/6<c then none else some n|_=>none
noncomputable def D.isNN:D->Option D|.non=>some (.bl false)|_=>some (.bl true)
noncomputable def JY(p:Nat)(a:EvE):EvS:=λe=>(a e).bind λd=>(eV p e).map λz=>.rm d z
def Qa3(n k:Nat)(b:EvS)(ds:List D):Option (D×D):=if ds.length=k then match b (sD n ds)with|some (.rm d z)=>some (d,z)|_=>none else none
noncomputable def Qc1(i:Nat)(f:List D->Option (D×D))(l:EvL)(g:EvG):EvS:=λe=>(l e).bind λds=>(eV i e).bind λd=>(f (ds++[d])).bind λr=>(g r.1 (e.set i (some r.2))).map .nx
noncomputable def Qeg(i:Nat)(f:List D->Option (D×D))(l:EvL):EvS:=λe=>(l e).bind λds=>(eV i e).bind λd=>(f (ds++[d])).map λr=>.rm r.1 r.2
end Wd
namespace Wd
open PySem PySem.Spec PyProof.Rows L2
abbrev Fg:=W.Frag
def Sm(F H:Hp):Prop:=∀a o,F a=some o->H a=some o
theorem Sm.refl(F:Hp):Sm F F:=λ_ _ h=>h
theorem Sm.trans{F G H:Hp}(a:Sm F G)(b:Sm G H):Sm F H:=λx o h=>b x o (a x o h)
theorem Sm.none{F H:Hp}(s:Sm F H){a:Addr}(h:H a=none):F a=none:=by cases e:F a with|none=>rfl|some o=>rw[s a o e]at h;cases h
theorem Sm.upd{F H:Hp}(s:Sm F H){p:Addr}(o:HO)(h:F p=Option.none):Sm F (L2.upd H p o):=λa x e=>by
 have:a≠p:=λz=>by rw[z,h]at e;cases e
 rw[Qt this];exact s a x e
theorem Sm.upd2{F H:Hp}(s:Sm F H)(p:Addr)(o:HO):Sm (L2.upd F p o) (L2.upd H p o):=λa x e=>by
 by_cases z:a=p;·subst z;rw[QB]at e⊢;exact e
 ·rw[Qt z]at e⊢;exact s a x e
theorem Sm.sqL{K:Fg}{F H:Hp}(s:Sm F H){a:Addr}{xs:List V}(h:SqL K F a xs):SqL K H a xs:=by
 rcases h with(h|⟨o,h⟩)|h;·exact .inl (.inl (s _ _ h))
 ·exact .inl (.inr ⟨o,s _ _ h⟩)
 ·exact .inr h
noncomputable def QsQ:Nat->Str|0=>"NoStyle"|1=>"TooWide"|2=>"TooHigh"|3=>"Twice"|4=>"Loose"|5=>"NoLabel"|_=>"NoRow"
noncomputable def Qth(x:Str)(o:Obj):Bool:=match o.data with|.cls cd=>decide (cd.name=x)|_=>false
def Jt(K:Fg)(c:Nat):Addr:=((K.find? λp=>Qth (QsQ c) p.2).map (·.1)).getD 0
def YZ(a C:Addr)(dx:Option Addr)(h:Heap):Prop:=∃vs t,h.get? a=some {cls:=.ref C,dict:=dx,data:=.fields vs}/\vs.size=6/\vs[0]?=some (.ref t)
mutual inductive Rep(K:Fg)(F:Hp):V->D->Prop where|non:Rep K F .non .non|bl(b:Bool):Rep K F (.bl b) (.bl b)|int(i:Int):Rep K F (.int i) (.int i)|str(x:Str):Rep K F (.str x) (.str x)|tup{a:Addr}{xs:List V}{ds:List D}(h:F a=some (.tup xs))(r:Reps K F xs ds):Rep K F (.ref a) (.tup ds)|lst{a:Addr}{xs:List V}{ds:List D}(h:F a=some (.lst xs))(r:Reps K F xs ds):Rep K F (.ref a) (.lst ds)|scr{a:Addr}{ns:List Int}(h:SqL K F a (ns.map V.int)):Rep K F (.ref a) (.scr ns)|exc0{a:Addr}(h:F a=some (.ext (YZ a (Jt K 0) none))):Rep K F (.ref a) (.exc 0 .non)|exc{a dx:Addr}{c:Nat}{i:Int}(h:F a=some (.ext (YZ a (Jt K c) (some dx))))(hx:F dx=some (.xd [("block",.int i)])):Rep K F (.ref a) (.exc c (.int i))|dic{a:Addr}{o:Obj}{ks:List Kd}{xs:List V}{ds:List D}(h:F a=some (.frz o (.dK (ks.zip xs))))(hl:ks.length=xs.length)(r:Reps K F xs ds):Rep K F (.ref a) (.dic ks ds)inductive Reps(K:Fg)(F:Hp):List V->List D->Prop where|nil:Reps K F [] []|cons{x:V}{d:D}{xs:List V}{ds:List D}(h:Rep K F x d)(r:Reps K F xs ds):Reps K F (x::xs) (d::ds)end
mutual theorem Rep.mono{K:Fg}{F F':Hp}(s:Sm F F'):∀{v:V}{d:D},Rep K F v d->Rep K F' v d|_,_,.non=>.non|_,_,.bl b=>.bl b|_,_,.int i=>.int i|_,_,.str x=>.str x|_,_,.tup h r=>.tup (s _ _ h) (Reps.mono s r)|_,_,.lst h r=>.lst (s _ _ h) (Reps.mono s r)|_,_,.scr h=>.scr (s.sqL h)|_,_,.exc0 h=>.exc0 (s _ _ h)|_,_,.exc h hx=>.exc (s _ _ h) (s _ _ hx)|_,_,.dic h hl r=>.dic (s _ _ h) hl (Reps.mono s r)theorem Reps.mono{K:Fg}{F F':Hp}(s:Sm F F'):∀{vs:List V}{ds:List D},Reps K F vs ds->Reps K F' vs ds|_,_,.nil=>.nil|_,_,.cons h r=>.cons (Rep.mono s h) (Reps.mono s r)end
section
variable{K:Fg}{F H:Hp}
theorem Reps.length:∀{vs:List V}{ds:List D},Reps K F vs ds->vs.length=ds.length|_,_,.nil=>rfl|_,_,.cons _ r=>by rw[length_cons,length_cons,r.length]
theorem Reps.get:∀{vs:List V}{ds:List D}{i:Nat}{d:D},Reps K F vs ds->ds[i]?=some d->∃v,vs[i]?=some v/\Rep K F v d|_,_,_,_,.nil,e=>by simp at e|_,_,0,_,.cons h _,e=>by simp at e;subst e;exact⟨_,rfl,h⟩|_,_,i+1,d,.cons _ r,e=>by obtain⟨v,h1,h2⟩:=Reps.get (i:=i) (d:=d) r (by simpa using e);exact⟨v,by simpa using h1,h2⟩
theorem Reps.getV:∀{vs:List V}{ds:List D}{i:Nat}{v:V},Reps K F vs ds->vs[i]?=some v->∃d,ds[i]?=some d/\Rep K F v d|_,_,_,_,.nil,e=>by simp at e|_,_,0,_,.cons h _,e=>by simp at e;subst e;exact⟨_,rfl,h⟩|_,_,i+1,v,.cons _ r,e=>by obtain⟨d,h1,h2⟩:=Reps.getV (i:=i) (v:=v) r (by simpa using e);exact⟨d,by simpa using h1,h2⟩
theorem Reps.append:∀{vs ws:List V}{ds es:List D},Reps K F vs ds->Reps K F ws es->Reps K F (vs++ws) (ds++es)|_,_,_,_,.nil,s=>s|_,_,_,_,.cons h r,s=>.cons h (Reps.append r s)
theorem Reps.drop:∀{vs:List V}{ds:List D}(n:Nat),Reps K F vs ds->Reps K F (vs.drop n) (ds.drop n)|_,_,0,r=>r|_,_,_+1,.nil=>.nil|_,_,n+1,.cons _ r=>Reps.drop n r
theorem Reps.take:∀{vs:List V}{ds:List D}(n:Nat),Reps K F vs ds->Reps K F (vs.take n) (ds.take n)|_,_,0,_=>.nil|_,_,_+1,.nil=>.nil|_,_,n+1,.cons h r=>.cons h (Reps.take n r)
theorem Reps.ints:∀(ns:List Int),Reps K F (ns.map V.int) (ns.map D.int)|[]=>.nil|n::ns=>.cons (.int n) (Reps.ints ns)
theorem Reps.intsOf:∀{vs:List V}{ds:List D}{ns:List Int},Reps K F vs ds->Wd.intsOf ds=some ns->vs=ns.map V.int|_,_,ns,.nil,e=>by cases e;rfl|_,_,ns,.cons (d:=d) h r,e=>by cases h with
  |int i=>
   simp only[Wd.intsOf]at e;cases q:Wd.intsOf _ with
   |none=>rw[q]at e;cases e|some ms=>
    rw[q]at e;cases e;rw[Reps.intsOf r q];rfl
  |_=>simp[Wd.intsOf]at e
end
noncomputable def ho:Option (List Kd)->List V->HO|none,xs=>.lst xs|some ks,xs=>.dK (ks.zip xs)
noncomputable def dOf:Option (List Kd)->List D->D|none,ds=>.lst ds|some ks,ds=>.dic ks ds
noncomputable def Y6:Option (List Kd)->List V->Prop|none,_=>True|some ks,xs=>ks.length=xs.length
noncomputable def hz(o:Obj):Option (List Kd)->List V->HO|none,xs=>.lst xs|some ks,xs=>.frz o (.dK (ks.zip xs))
theorem Rep.hz{K:Fg}{F:Hp}{p:Addr}{o:Obj}:∀{k:Option (List Kd)}{xs:List V}{ds:List D},F p=some (hz o k xs)->Y6 k xs->Reps K F xs ds->Rep K F (.ref p) (dOf k ds)|none,_,_,h,_,r=>.lst h r|some _,_,_,h,hl,r=>.dic h hl r
def RdD(K:Fg)(F H:Hp)(v:V)(d:D):Prop:=Rep K F v d\/∃p k xs ds,v=.ref p/\H p=some (ho k xs)/\Reps K F xs ds/\d=dOf k ds/\Y6 k xs
structure Gr(F H F' H':Hp):Prop where
 ff:Sm F F'
 hh:Sm H H'
 fh:Sm F' H'
 fr:∀a o,F' a=some o->F a=some o\/H a=none
theorem Gr.refl{F H:Hp}(s:Sm F H):Gr F H F H:=⟨.refl _,.refl _,s,λ_ _ h=>.inl h⟩
theorem Gr.trans{F H F1 H1 F2 H2:Hp}(a:Gr F H F1 H1)(b:Gr F1 H1 F2 H2):Gr F H F2 H2:=⟨a.ff.trans b.ff,a.hh.trans b.hh,b.fh,λx o h=>by
  rcases b.fr x o h with h|h;·exact a.fr x o h
  ·exact .inr (a.hh.none h)⟩
theorem Gr.new{F H:Hp}(s:Sm F H){p:Addr}(h:H p=none)(o:HO):Gr F H (upd F p o) (upd H p o):=⟨(Sm.refl F).upd o (s.none h),(Sm.refl H).upd o h,s.upd2 p o,λa x e=>by
  by_cases z:a=p;·subst z;exact .inr h
  ·rw[Qt z]at e;exact .inl e⟩
theorem Gr.newO{F H:Hp}(s:Sm F H){p:Addr}(h:H p=none)(o:HO):Gr F H F (upd H p o):=⟨.refl F,(Sm.refl H).upd o h,s.upd o (s.none h),λ_ _ e=>.inl e⟩
theorem RdD.gr{K:Fg}{F H F' H':Hp}{v:V}{d:D}(g:Gr F H F' H')(r:RdD K F H v d):RdD K F' H' v d:=by
 rcases r with r|⟨p,k,xs,ds,rfl,h,r,rfl,hk⟩;·exact .inl (r.mono g.ff)
 ·exact .inr ⟨p,k,xs,ds,rfl,g.hh _ _ h,r.mono g.ff,rfl,hk⟩
structure Fz where
 f:Hp
 h:Hp
 p:Option Addr
def JW(i:Nat):Nat:=1000+i
structure RS(K:Fg)(H₀:Hp)(F0:Fz)(F H:Hp)(σ:L2.St)(e:Qh)(O:List Nat):Prop where
 fh:Sm F H
 hh:Sm F0.h H
 ff:Sm F0.f F
 fr:∀a o,F a=some o->F0.f a=some o\/F0.h a=none
 slot:∀i d,e[i]?=some (some d)->i∉O->∃v,σ[i]?=some (some v)/\Rep K F v d
 own:∀i d,e[i]?=some (some d)->i∈O->∃p k xs ds,σ[i]?=some (some (.ref p))/\F0.h p=none/\F p=none/\H p=some (ho k xs)/\Reps K F xs ds/\d=dOf k ds/\Y6 k xs
 dis:∀i j p d d',i∈O->j∈O->e[i]?=some (some d)->e[j]?=some (some d')->σ[i]?=some (some (.ref p))->σ[j]?=some (some (.ref p))->i=j
 pin:∀i,JW i∈O->∃p,F0.p=some p/\σ[i]?=some (some (.ref p))len:σ.length=e.length
theorem RS.grow{K:Fg}{H₀:Hp}{F0:Fz}{F H F' H':Hp}{σ:L2.St}{e:Qh}{O:List Nat}(r:RS K H₀ F0 F H σ e O)(g:Gr F H F' H'):RS K H₀ F0 F' H' σ e O where
 fh:=g.fh
 hh:=r.hh.trans g.hh
 ff:=r.ff.trans g.ff
 fr:=λa o h=>by
  rcases g.fr a o h with h|h;·exact r.fr a o h
  ·exact .inr (r.hh.none h)
 slot:=λi d h hi=>by obtain⟨v,h1,h2⟩:=r.slot i d h hi;exact⟨v,h1,h2.mono g.ff⟩
 own:=λi d h hi=>by
  obtain⟨p,k,xs,ds,h1,h2,h3,h4,h5,h6⟩:=r.own i d h hi;refine⟨p,k,xs,ds,h1,h2,?_,g.hh _ _ h4,h5.mono g.ff,h6⟩;cases q:F' p with|none=>rfl|some o=>
   rcases g.fr p o q with z|z;·rw[h3]at z;cases z
   ·rw[h4]at z;cases z
 dis:=r.dis
 pin:=r.pin
 len:=r.len
section
variable(X:Cx)(O:List Nat)
noncomputable def tD(ev:EvE):TE:=λσ H Q=>∃F0 F e d,RS X.K X.H₀ F0 F H σ e O/\ev e=some d/\∀v F' H',Gr F H F' H'->Rep X.K F' v d->Q v H'
def tR(ev:EvE):TE:=λσ H Q=>∃F0 F e d,RS X.K X.H₀ F0 F H σ e O/\ev e=some d/\∀v F' H',Gr F H F' H'->RdD X.K F' H' v d->Q v H'
def tO(ev:EvE):TE:=λσ H Q=>∃F0 F e d,RS X.K X.H₀ F0 F H σ e O/\ev e=some d/\∀p k xs ds F' H',Gr F H F' H'->H p=none->F' p=none->H' p=some (ho k xs)->Reps X.K F' xs ds->d=dOf k ds->Y6 k xs->Q (.ref p) H'
def tDT(ev:EvE):TT:=λσ H Q=>∃F0 F e b,RS X.K X.H₀ F0 F H σ e O/\ev e=some (.bl b)/\∀F' H',Gr F H F' H'->Q b H'
def tL(l:EvL):TA:=λσ H Q=>∃F0 F e ds,RS X.K X.H₀ F0 F H σ e O/\l e=some ds/\∀vs F' H',Gr F H F' H'->Reps X.K F' vs ds->Q vs H'
def tOI(l:EvO):TO:=λσ H Q=>∃F0 F e o,RS X.K X.H₀ F0 F H σ e O/\l e=some o/\∀F' H',Gr F H F' H'->Q o H'
end
section
variable{X:Cx}{O:List Nat}{e a b c:Expr}{pos:Pos}
theorem PE.imp{t t':TE}(h:PE X e t)(q:∀σ H Q,t' σ H Q->t σ H Q):PE X e t':=λaa s σ H Q I z=>h aa s σ H Q I (q σ H Q z)
theorem PT.imp{t t':TT}(h:PT X e t)(q:∀σ H Q,t' σ H Q->t σ H Q):PT X e t':=λaa s σ H Q I z=>h aa s σ H Q I (q σ H Q z)
theorem PW.imp{t t':TT}(h:PW X e t)(q:∀σ H Q,t' σ H Q->t σ H Q):PW X e t':=λw aa s σ H Q I z=>h w aa s σ H Q I (q σ H Q z)
theorem PA.imp{es:List Expr}{t t':TA}(h:PA X es t)(q:∀σ H Q,t' σ H Q->t σ H Q):PA X es t':=λp aa s σ H Q I z=>h p aa s σ H Q I (q σ H Q z)
theorem PS.imp{st:Stmt}{t t':TS}(h:PS X st t)(q:∀D σ H,t' D σ H->t D σ H):PS X st t':=λaa s σ H D I z=>h aa s σ H D I (q D σ H z)
theorem PSs.imp{st:List Stmt}{t t':TS}(h:PSs X st t)(q:∀D σ H,t' D σ H->t D σ H):PSs X st t':=λaa s σ H D I z=>h aa s σ H D I (q D σ H z)
theorem dr{ev:EvE}(h:PE X e (tD X O ev)):PE X e (tR X O ev):=PE.imp h λσ H Q⟨F0,F,en,d,r,w,k⟩=>⟨F0,F,en,d,r,w,λv F' H' g q=>k v F' H' g (.inl q)⟩
theorem dC{v:V}{d:D}(hr:∀K F,Rep K F v d)(h:PE X e (tC v)):PE X e (tD X O (eC d)):=PE.imp h λσ H Q⟨F0,F,en,d',r,w,k⟩=>by cases w;exact k v F H (.refl r.fh) (hr _ _)
theorem Qh4{j}:PE X (.Constant .none j pos) (tD X O (eC .non)):=dC (λ_ _=>.non) Qmc
theorem Qc4{b:Bool}{j}:PE X (.Constant (.bool b) j pos) (tD X O (eC (.bl b))):=dC (λ_ _=>.bl b) Qta
theorem QH{i:Int}{j}:PE X (.Constant (.int i) j pos) (tD X O (eC (.int i))):=dC (λ_ _=>.int i) QrX
theorem Qa{x:Str}{j}:PE X (.Constant (.str x) j pos) (tD X O (eC (.str x))):=dC (λ_ _=>.str x) Qmb
theorem Yu{x:Str}{i:Int}(hm:∃t,X.mg x=some (.int i t))(hg:Gl X x)(hd:(x==("__debug__":Str))=false:=by decide):PE X (.Name x pos) (tD X O (eC (.int i))):=by obtain⟨t,hm⟩:=hm;exact dC (λ_ _=>.int i) (Qqk hg hm (show RelV (.int i) _ from⟨t,rfl⟩) hd)
theorem Jn{i:Nat}{en:Qh}{d:D}(h:eV i en=some d):en[i]?=some (some d):=by unfold eV at h;cases q:en[i]? with|none=>rw[q]at h;cases h|some o=>rw[q]at h;cases o with|none=>cases h|some x=>cases h;rfl
theorem Qs(i:Nat){x:Str}(hN:X.N[i]?=some x:=by rfl)(hv:Vis X.env.scope x:=by first|exact Or.inl rfl|exact Or.inr (Or.inl rfl)|exact Or.inr (Or.inr rfl))(hO:i∉O:=by decide)(hd:(x==("__debug__":Str))=false:=by decide)(bC:(x==("__classdict__":Str))=false:=by decide):PE X (.Name x pos) (tD X O (eV i)):=PE.imp (Ji hN hv hd bC) λσ H Q⟨F0,F,en,d,r,w,k⟩=>by obtain⟨v,h1,h2⟩:=r.slot i d (Jn w) hO;exact⟨v,h1,k v F H (.refl r.fh) h2⟩
theorem Jk(i:Nat){x:Str}(hN:X.N[i]?=some x:=by rfl)(hv:Vis X.env.scope x:=by first|exact Or.inl rfl|exact Or.inr (Or.inl rfl)|exact Or.inr (Or.inr rfl))(hd:(x==("__debug__":Str))=false:=by decide)(bC:(x==("__classdict__":Str))=false:=by decide):PE X (.Name x pos) (tR X O (eV i)):=PE.imp (Ji hN hv hd bC) λσ H Q⟨F0,F,en,d,r,w,k⟩=>by
  by_cases hO:i∈O
  ·obtain⟨p,kk,xs,ds,h1,_,_,h4,h5,h6,h7⟩:=r.own i d (Jn w) hO;exact⟨_,h1,k _ F H (.refl r.fh) (.inr ⟨p,kk,xs,ds,rfl,h4,h5,h6,h7⟩)⟩
  ·obtain⟨v,h1,h2⟩:=r.slot i d (Jn w) hO;exact⟨v,h1,k v F H (.refl r.fh) (.inl h2)⟩
def Op2(X:Cx)(r:R2)(g:D->D->Option D):Prop:=∀(F H:Hp)(x y:V)(dx dy d:D)(Q:VK),Sm F H->RdD X.K F H x dx->RdD X.K F H y dy->g dx dy=some d->(∀v F' H',Gr F H F' H'->Rep X.K F' v d->Q v H')->r x y H Q
theorem Qa9{α β γ:Type}{a:Option α}{b:Option β}{g:α->β->Option γ}{d:γ}(h:(a.bind λx=>b.bind λy=>g x y)=some d):∃x y,a=some x/\b=some y/\g x y=some d:=by cases a with|none=>cases h|some x=>cases b with|none=>cases h|some y=>exact⟨x,y,rfl,rfl,h⟩
theorem QL{α β:Type}{a:Option α}{g:α->Option β}{d:β}(h:(a.bind λx=>g x)=some d):∃x,a=some x/\g x=some d:=by cases a with|none=>cases h|some x=>exact⟨x,rfl,h⟩
theorem JI{α β:Type}{a:Option α}{g:α->β}{d:β}(h:a.map g=some d):∃x,a=some x/\g x=d:=by cases a with|none=>cases h|some x=>cases h;exact⟨x,rfl,rfl⟩
theorem QhE{r:R2}{g:D->D->Option D}{ea eb:EvE}(ho:Op2 X r g){σ:L2.St}{H:Hp}{Q:VK}(h:tD X O (eOp g ea eb) σ H Q):tOp r (tR X O ea) (tR X O eb) σ H Q:=by obtain⟨F0,F,en,d,rs,w,k⟩:=h;obtain⟨dx,dy,e1,e2,e3⟩:=Qa9 w;refine⟨F0,F,en,dx,rs,e1,λx F1 H1 g1 r1=>?_⟩;refine⟨F0,F1,en,dy,rs.grow g1,e2,λy F2 H2 g2 r2=>?_⟩;exact ho F2 H2 x y dx dy d Q g2.fh (r1.gr g2) r2 e3 λv F' H' g3 r3=>k v F' H' ((g1.trans g2).trans g3) r3
theorem Qb{op:Operator}{r:R2}{g:D->D->Option D}{ea eb:EvE}(ho:OpR X (binaryOp op) r/\Op2 X r g)(ha:PE X a (tR X O ea))(hb:PE X b (tR X O eb)):PE X (.BinOp a op b pos) (tD X O (eOp g ea eb)):=PE.imp (Qpw ho.1 ha hb) λσ H Q=>QhE ho.2
theorem Zb{op:CmpOp}{r:R2}{g:D->D->Option D}{ea eb:EvE}(ho:OpR X (compareOp op) r/\Op2 X r g)(ha:PE X a (tR X O ea))(hb:PE X b (tR X O eb))(hm:behindInMarks op b=false):PE X (.Compare a [op] [b] pos) (tD X O (eOp g ea eb)):=PE.imp (Qql ho.1 ha hb hm) λσ H Q=>QhE ho.2
theorem QsG{ea eb:EvE}{r:R2}(ho:IxR X r/\Op2 X r D.ix)(ha:PE X a (tR X O ea))(hb:PE X b (tR X O eb))(hs:QgC b:=by intro _ _;rfl):PE X (.Subscript a b pos) (tD X O (eOp D.ix ea eb)):=PE.imp (Qs8 ho.1 ha hb hs) λσ H Q=>QhE ho.2
end
section
variable{K:Fg}{F H:Hp}{v:V}
theorem RdD.int{i:Int}(r:RdD K F H v (.int i)):v=.int i:=by
 rcases r with r|⟨_,k,_,_,_,_,_,z,_⟩;·cases r;rfl
 ·cases k<;>cases z
theorem RdD.bl{b:Bool}(r:RdD K F H v (.bl b)):v=.bl b:=by
 rcases r with r|⟨_,k,_,_,_,_,_,z,_⟩;·cases r;rfl
 ·cases k<;>cases z
theorem RdD.str{x:Str}(r:RdD K F H v (.str x)):v=.str x:=by
 rcases r with r|⟨_,k,_,_,_,_,_,z,_⟩;·cases r;rfl
 ·cases k<;>cases z
theorem RdD.non(r:RdD K F H v .non):v=.non:=by
 rcases r with r|⟨_,k,_,_,_,_,_,z,_⟩;·cases r;rfl
 ·cases k<;>cases z
theorem RdD.tup{ds:List D}(r:RdD K F H v (.tup ds)):∃p xs,v=.ref p/\F p=some (.tup xs)/\Reps K F xs ds:=by
 rcases r with r|⟨_,k,_,_,_,_,_,z,_⟩;·cases r with|tup h r=>exact⟨_,_,rfl,h,r⟩
 ·cases k<;>cases z
theorem RdD.lst{ds:List D}(s:Sm F H)(r:RdD K F H v (.lst ds)):∃p xs,v=.ref p/\H p=some (.lst xs)/\Reps K F xs ds:=by
 rcases r with r|⟨p,k,xs,bR,h1,h2,h3,z,_⟩;·cases r with|lst h r=>exact⟨_,_,rfl,s _ _ h,r⟩
 ·cases k with|none=>cases z;exact⟨p,xs,h1,h2,h3⟩|some ks=>cases z
theorem RdD.dic{ks:List Kd}{ds:List D}(s:Sm F H)(r:RdD K F H v (.dic ks ds)):∃p xs,v=.ref p/\Rd H p (.dK (ks.zip xs))/\ks.length=xs.length/\Reps K F xs ds:=by
 rcases r with r|⟨p,k,xs,bR,h1,h2,h3,z,h4⟩;·cases r with|dic h hl r=>exact⟨_,_,rfl,.inr ⟨_,s _ _ h⟩,hl,r⟩
 ·cases k with|none=>cases z|some gH=>cases z;exact⟨p,xs,h1,.inl h2,h4,h3⟩
theorem RdD.scr{ns:List Int}(r:RdD K F H v (.scr ns)):∃p,v=.ref p/\SqL K F p (ns.map V.int):=by
 rcases r with r|⟨_,k,_,_,_,_,_,z,_⟩;·cases r with|scr h=>exact⟨_,rfl,h⟩
 ·cases k<;>cases z
theorem RdD.rep{d:D}(s:Sm F H)(hd:∀ks ds,d≠.dic ks ds)(r:RdD K F H v d):Rep K H v d:=by
 rcases r with r|⟨p,k,xs,bR,rfl,h2,h3,rfl,h4⟩;·exact r.mono s
 ·cases k with|none=>exact .lst h2 (h3.mono s)|some ks=>exact absurd rfl (hd ks bR)
end
section
variable{X:Cx}
theorem Z5:sizeLine=lI:=by decide
theorem Qg:OpR X (binaryOp .Add) (λx y H Q=>((∃i j,x=.int i/\y=.int j/\Q (.int (i+j)) H)\/∃i j,x=.str i/\y=.str j/\i.length+j.length<=sizeLine/\Q (.str (i++j)) H)\/QnZ x y H Q\/Qk6 X.K x y H Q)/\Op2 X (λx y H Q=>((∃i j,x=.int i/\y=.int j/\Q (.int (i+j)) H)\/∃i j,x=.str i/\y=.str j/\i.length+j.length<=sizeLine/\Q (.str (i++j)) H)\/QnZ x y H Q\/Qk6 X.K x y H Q) D.add:=by
 refine⟨OpR.or (OpR.or Qr7 Qls) (OpR.or Qmh Qqq),λF H x y dx dy d Q s rx ry e k=>? _⟩;cases dx<;>cases dy<;>try(simp[D.add]at e;done)
 case int.int i j=>
  cases e;exact .inl (.inl ⟨i,j,rx.int,ry.int,k _ F H (.refl s) (.int _)⟩)
 case str.str i j=>
  simp only[D.add]at e;split at e
  ·rename_i hz;cases e;exact .inl (.inr ⟨i,j,rx.str,ry.str,by rw[Z5];exact hz,k _ F H (.refl s) (.str _)⟩)
  ·cases e
 case lst.lst xs ys=>
  simp only[D.add]at e;split at e
  ·rename_i hz;cases e;obtain⟨p,us,rfl,h1,r1⟩:=rx.lst s;obtain⟨q,ws,rfl,h2,r2⟩:=ry.lst s;refine .inr (.inl ⟨p,q,us,ws,rfl,rfl,h1,h2,by rw[Z5,r1.length,r2.length];exact hz,λl hl=>? _⟩);have g:=Gr.new s hl (.lst (us++ws));exact k _ _ _ g (.lst QB ((r1.append r2).mono g.ff))
  ·cases e
 case tup.tup xs ys=>cases xs with
  |nil=>simp[D.add]at e|cons z xs=>
   simp only[D.add]at e;split at e
   ·rename_i hz;cases e;obtain⟨p,us,rfl,h1,r1⟩:=rx.tup;obtain⟨q,ws,rfl,h2,r2⟩:=ry.tup;have hu:us≠[]:=λz=>by subst z;cases r1
    refine .inr (.inr ⟨p,q,us,ws,rfl,rfl,SqT.of (s _ _ h1),SqT.of (s _ _ h2),hu,? _,λz=>? _,λ_ l hl=>? _⟩);·rw[Z5,r1.length,r2.length];exact hz
    ·subst z;cases r2;refine k _ F H (.refl s) ? _;rw[append_nil];exact .tup h1 r1
    ·have g:=Gr.new s hl (.tup (us++ws));exact k _ _ _ g (.tup QB ((r1.append r2).mono g.ff))
   ·cases e
theorem QhJ{g:D->D->Option D}(h:∀dx dy d,g dx dy=some d->∃i j,dx=.int i/\dy=.int j){C:Int->Int->Prop}{f:Int->Int->V}{fd:Int->Int->D}(hg:∀i j d,g (.int i) (.int j)=some d->C i j/\d=fd i j)(hf:∀K F i j,Rep K F (f i j) (fd i j)):Op2 X (rI C f) g:=λF H x y dx dy d Q s rx ry e k=>by obtain⟨i,j,rfl,rfl⟩:=h dx dy d e;obtain⟨c,rfl⟩:=hg i j d e;exact⟨i,j,rx.int,ry.int,c,k _ F H (.refl s) (hf _ _ i j)⟩
theorem Qfr{g:D->D->Option D}(h:∀dx dy d,g dx dy=some d->∃i j,dx=.int i/\dy=.int j){f:Int->Int->V}{fd:Int->Int->D}(hg:∀i j d,g (.int i) (.int j)=some d->d=fd i j)(hf:∀K F i j,Rep K F (f i j) (fd i j)):Op2 X (rI0 f) g:=λF H x y dx dy d Q s rx ry e k=>by obtain⟨i,j,rfl,rfl⟩:=h dx dy d e;cases hg i j d e;exact⟨i,j,rx.int,ry.int,k _ F H (.refl s) (hf _ _ i j)⟩
theorem Jm:OpR X (binaryOp .Sub) (rI0 λi j=>.int (i-j))/\Op2 X (rI0 λi j=>.int (i-j)) D.sub:=⟨Qr1,Qfr (fd:=λi j=>.int (i-j)) (λdx dy d e=>by cases dx<;>cases dy<;>simp[D.sub]at e⊢) (λi j d e=>by cases e;rfl) λ_ _ _ _=>.int _⟩
theorem Qqn:OpR X (binaryOp .Mult) (rI CMul λi j=>.int (i*j))/\Op2 X (rI CMul λi j=>.int (i*j)) D.mul:=⟨Qmf,QhJ (fd:=λi j=>.int (i*j)) (λdx dy d e=>by cases dx<;>cases dy<;>simp[D.mul]at e⊢) (λi j d e=>by
  simp only[D.mul]at e;split at e;·rename_i h;cases e;exact⟨h,rfl⟩
  ·cases e) λ_ _ _ _=>.int _⟩
theorem Qu:OpR X (binaryOp .Mod) (rI (λ_ j=>0<j) λi j=>.int (i%j))/\Op2 X (rI (λ_ j=>0<j) λi j=>.int (i%j)) D.mod:=⟨Qr4,QhJ (fd:=λi j=>.int (i%j)) (λdx dy d e=>by cases dx<;>cases dy<;>simp[D.mod]at e⊢) (λi j d e=>by
  simp only[D.mod]at e;split at e;·rename_i h;cases e;exact⟨h,rfl⟩
  ·cases e) λ_ _ _ _=>.int _⟩
theorem QR:OpR X (binaryOp .FloorDiv) (rI Qob λi j=>.int (i/j))/\Op2 X (rI Qob λi j=>.int (i/j)) D.fdiv:=⟨Qqp,QhJ (fd:=λi j=>.int (i/j)) (λdx dy d e=>by cases dx<;>cases dy<;>simp[D.fdiv]at e⊢) (λi j d e=>by
  simp only[D.fdiv]at e;split at e;·rename_i h;cases e;exact⟨h,rfl⟩
  ·cases e) λ_ _ _ _=>.int _⟩
theorem Qep:OpR X (binaryOp .Pow) (rI Qoa λi j=>.int (i^j.toNat))/\Op2 X (rI Qoa λi j=>.int (i^j.toNat)) D.pow:=⟨Qr3,QhJ (fd:=λi j=>.int (i^j.toNat)) (λdx dy d e=>by cases dx<;>cases dy<;>simp[D.pow]at e⊢) (λi j d e=>by
  simp only[D.pow]at e;split at e;·rename_i h;cases e;exact⟨h,rfl⟩
  ·cases e) λ_ _ _ _=>.int _⟩
theorem QaR:OpR X (compareOp .Lt) (rI0 λi j=>.bl (decide (i<j)))/\Op2 X (rI0 λi j=>.bl (decide (i<j))) D.lt:=⟨Qtb,Qfr (fd:=λi j=>.bl (decide (i<j))) (λdx dy d e=>by cases dx<;>cases dy<;>simp[D.lt]at e⊢) (λi j d e=>by cases e;rfl) λ_ _ _ _=>.bl _⟩
theorem ZG:OpR X (compareOp .Gt) (rI0 λi j=>.bl (decide (j<i)))/\Op2 X (rI0 λi j=>.bl (decide (j<i))) D.gt:=⟨Qtd,Qfr (fd:=λi j=>.bl (decide (j<i))) (λdx dy d e=>by cases dx<;>cases dy<;>simp[D.gt]at e⊢) (λi j d e=>by cases e;rfl) λ_ _ _ _=>.bl _⟩
theorem Qh9{xs:List V}{ds:List D}{F:Hp}{i:Int}{d:D}(r:Reps X.K F xs ds)(e:((ixD ds.length i).bind λk=>ds[k]?)=some d):∃v,atI xs i=some v/\Rep X.K F v d:=by obtain⟨k,e1,e2⟩:=QL e;obtain⟨v,h1,h2⟩:=r.get e2;refine⟨v,?_,h2⟩;unfold atI;rw[r.length,show ixN ds.length i=some k from e1];exact h1
theorem Qr8:Op2 X (rIx X.K) D.ix:=λF H x y dx dy d Q s rx ry e k=>by
 cases dx<;>cases dy<;>try(simp[D.ix]at e;done)
 case str.int z i=>
  simp only[D.ix]at e;split at e
  ·rename_i hz;obtain⟨j,e1,e2⟩:=QL e;obtain⟨c,e3,rfl⟩:=JI e2;refine .inr (.inr ⟨z,i,c,rx.str,ry.int,by rw[Z5];exact hz,?_,k _ F H (.refl s) (.str _)⟩);unfold atI;have hl:z.cps.toList.length=z.length:=by simp[Str.length]
   rw[hl,show ixN z.length i=some j from e1];simpa using e3
  ·cases e
 case tup.int ds i=>
  obtain⟨p,xs,rfl,h,r⟩:=rx.tup;obtain⟨v,h1,h2⟩:=Qh9 r e;exact .inr (.inl ⟨p,xs,i,v,rfl,ry.int,SqT.of (s _ _ h),h1,k _ F H (.refl s) h2⟩)
 case lst.int ds i=>
  obtain⟨p,xs,rfl,h,r⟩:=rx.lst s;obtain⟨v,h1,h2⟩:=Qh9 r e;exact .inl ⟨p,xs,i,v,rfl,ry.int,SqL.of h,h1,k _ F H (.refl s) h2⟩
 case scr.int ns i=>
  obtain⟨p,rfl,h⟩:=rx.scr;have r:Reps X.K F (ns.map V.int) (ns.map D.int):=Reps.ints ns;have e':((ixD (ns.map D.int).length i).bind λk=>(ns.map D.int)[k]?)=some d:=by
   rw[length_map];simp only[D.ix]at e;simpa using e
  obtain⟨v,h1,h2⟩:=Qh9 r e';exact .inl ⟨p,_,i,v,rfl,ry.int,s.sqL h,h1,k _ F H (.refl s) h2⟩
theorem Qr6:IxR X (rIx X.K)/\Op2 X (rIx X.K) D.ix:=⟨Qsn,Qr8⟩
theorem QI{O:List Nat}{a b:Expr}{pos:Pos}{ea eb:EvE}(ha:PE X a (tR X O ea))(hb:PE X b (tR X O eb))(hs:QgC b:=by intro _ _;rfl):PE X (.Subscript a b pos) (tD X O (eOp D.ix ea eb)):=QsG Qr6 ha hb hs
end
def eAt(ds es:List D)(j:Nat):Bool:=match ds[j]?,es[j]? with|some d,some e=>(D.eq d e).getD false|_,_=>false
theorem Qpc(d e:D)(ds es:List D)(j:Nat):eAt (d::ds) (e::es) (j+1)=eAt ds es j:=by simp[eAt]
theorem Qdc:∀(ds es:List D)(b:Bool),D.eqL ds es=some b->(∀(j:Nat)(d e:D),ds[j]?=some d->es[j]?=some e->∃c,D.eq d e=some c)/\b=((List.range (min ds.length es.length)).all (eAt ds es)&&ds.length==es.length)
 |[],[],b,h=>by
  rw[D.eqL]at h;cases h;exact⟨λj d e h=>by simp at h,by simp⟩|[],e::es,b,h=>by
  rw[D.eqL]at h;·cases h;exact⟨λj d e h=>by simp at h,by simp⟩
  all_goals simp|d::ds,[],b,h=>by
  rw[D.eqL]at h;·cases h;exact⟨λj d e _ h=>by simp at h,by simp⟩
  all_goals simp|d::ds,e::es,b,h=>by
  rw[D.eqL]at h;cases q1:D.eq d e with
  |none=>rw[q1]at h;cases h|some b1=>cases q2:D.eqL ds es with
   |none=>rw[q1,q2]at h;cases h|some b2=>
    rw[q1,q2,Jl]at h;cases h;obtain⟨i1,i2⟩:=Qdc ds es b2 q2;refine⟨λj d' e' h1 h2=>?_,?_⟩;·cases j with
     |zero=>simp at h1 h2;subst h1 h2;exact⟨b1,q1⟩|succ j=>exact i1 j d' e' (by simpa using h1) (by simpa using h2)
    ·have hm:min (d::ds).length (e::es).length=min ds.length es.length+1:=by simp only[length_cons];omega
     rw[hm,List.range_succ_eq_map,all_cons,all_map];have h0:eAt (d::ds) (e::es) 0=b1:=by simp[eAt,q1]
     have hf:(eAt (d::ds) (e::es)∘Nat.succ)=eAt ds es:=funext λj=>Qpc d e ds es j;rw[h0,hf,i2];simp[Bool.and_assoc]
mutual theorem QqM{K:Fg}{H:Hp}:∀{x:V}{d e:D}{b:Bool},Rep K H x d->Rep K H x e->D.eq d e=some b->b=true
 |_,_,_,b,.non,r,h=>by cases r;simp[D.eq,D.oth]at h;exact h|_,_,_,b,.bl c,r,h=>by cases r;simp[D.eq,D.oth]at h;exact h|_,_,_,b,.int c,r,h=>by cases r;simp[D.eq,D.oth]at h;exact h|_,_,_,b,.str c,r,h=>by cases r;simp[D.eq,D.oth]at h;exact h|_,_,_,b,.tup h1 r1,r,h=>by cases r with
  |tup h2 r2=>rw[h1]at h2;cases h2;rw[D.eq]at h;exact eqs_same r1 r2 h|lst h2 r2=>rw[h1]at h2;cases h2|scr h2=>simp[D.eq,D.oth]at h|exc0 h2=>simp[D.eq,D.oth]at h|exc h2 ef=>simp[D.eq,D.oth]at h|dic h2 cI r2=>simp[D.eq,D.oth]at h
 |_,_,_,b,.lst h1 r1,r,h=>by cases r with
  |lst h2 r2=>
   rw[h1]at h2;cases h2;rw[D.eq]at h;exact eqs_same r1 r2 h|tup h2 r2=>rw[h1]at h2;cases h2|scr h2=>simp[D.eq,D.oth]at h|exc0 h2=>simp[D.eq,D.oth]at h|exc h2 ef=>simp[D.eq,D.oth]at h|dic h2 cI r2=>simp[D.eq,D.oth]at h
 |_,_,_,b,.scr h1,r,h=>by
  rw[D.eq]at h;cases h|_,_,_,b,.dic h1 _ _,r,h=>by cases r<;>simp[D.eq,D.oth]at h|_,_,_,b,.exc0 h1,r,h=>by cases r<;>simp[D.eq,D.oth]at h|_,_,_,b,.exc h1 _,r,h=>by cases r<;>simp[D.eq,D.oth]at h theorem eqs_same{K:Fg}{H:Hp}:∀{xs:List V}{ds es:List D}{b:Bool},Reps K H xs ds->Reps K H xs es->D.eqL ds es=some b->b=true|_,_,_,b,.nil,r,h=>by cases r;rw[D.eqL]at h;cases h;rfl|_,_,_,b,.cons (d:=d) (ds:=ds) h1 r1,.cons (d:=e) (ds:=es) h2 r2,h=>by rw[D.eqL]at h;cases q1:D.eq d e with|none=>rw[q1]at h;cases h|some b1=>cases q2:D.eqL ds es with|none=>rw[q1,q2]at h;cases h|some b2=>rw[q1,q2,Jl]at h;cases h;rw[QqM h1 h2 q1,eqs_same r1 r2 q2];rfl end
theorem Qgt(i j:Int):(i==j)=decide (i=j):=by by_cases h:i=j<;>simp[h]
theorem QiH:∀{ds:List D}{j:Nat}{d:D},ds[j]?=some d->d.dep<=D.depL ds|[],_,_,h=>by simp at h|d::ds,0,_,h=>by simp at h;subst h;rw[QQ];exact Nat.le_max_left _ _|d::ds,j+1,x,h=>by rw[QQ];exact le_trans (QiH (ds:=ds) (j:=j) (by simpa using h)) (Nat.le_max_right _ _)
section
variable{X:Cx}{aa:List (Addr×Obj)}{σ:L2.St}{H:Hp}{s:Shared}
def Qk4(A:Around)(s:Shared)(v u:Value)(b:Bool):Prop:=SeqAt.RcAt A s v u b/\SeqAt.EqAt A s v u b/\SeqAt.RcNeAt A s v u (!b)
theorem Qix(I:Inv X aa σ H s){n:Nat}{ds es:List D}{xs ys:List V}{us ws:List Value}{A:Around}{b:Bool}(hn:D.depL ds<=n)(hA:A.units+n<cLine)(ih:∀(d e:D)(x y:V)(v u:Value)(b:Bool),d.dep<=n->Rep X.K H x d->Rep X.K H y e->RelV x v->RelV y u->D.eq d e=some b->Qk4 A s v u b)(r1:Reps X.K H xs ds)(r2:Reps X.K H ys es)(v1:Vals xs us)(v2:Vals ys ws)(h:D.eqL ds es=some b):∀j(h1:j<us.toArray.size)(h2:j<ws.toArray.size),SeqAt.EqAt A s us.toArray[j] ws.toArray[j] (eAt ds es j):=λj h1 h2=>by
 obtain⟨q1,q2⟩:=Qdc ds es b h;have l1:=r1.length;have l2:=r2.length;have l3:=v1.length;have l4:=v2.length;simp only[size_toArray]at h1 h2;have hd:j<ds.length:=by omega
 have he:j<es.length:=by omega
 obtain⟨x,hx,rx⟩:=r1.get (getElem?_eq_getElem hd);obtain⟨y,hy,ry⟩:=r2.get (getElem?_eq_getElem he);obtain⟨u,hu,ru⟩:=v1.get hx;obtain⟨w,hw,cY⟩:=v2.get hy;obtain⟨c,hc⟩:=q1 j _ _ (getElem?_eq_getElem hd) (getElem?_eq_getElem he);have e1:us.toArray[j]=u:=by
  rw[getElem?_eq_getElem h1]at hu;simpa using Option.some.inj hu
 have e2:ws.toArray[j]=w:=by
  rw[getElem?_eq_getElem h2]at hw;simpa using Option.some.inj hw
 have e3:eAt ds es j=c:=by simp[eAt,getElem?_eq_getElem hd,getElem?_eq_getElem he,hc]
 rw[e1,e2,e3];exact(ih _ _ x y u w c (le_trans (QiH (getElem?_eq_getElem hd)) hn) rx ry ru cY hc).2.1
theorem QeN{A:Around}{p q:Addr}{b:Bool}(h:SeqAt.RcAt A s (.ref p) (.ref q) b)(hn:SeqAt.RcNeAt A s (.ref p) (.ref q) (!b))(hs:p=q->b=true):Qk4 A s (.ref p) (.ref q) b:=by
 refine⟨h,?_,hn⟩;by_cases e:p=q;·rw[hs e,e];exact SeqAt.EqAt.same _
 ·exact SeqAt.EqAt.of_refs e h
theorem Qku(I:Inv X aa σ H s){d e:D}{x y:V}{v u:Value}{A:Around}{b:Bool}(hd:d.dep=0)(hu:A.units<cLine)(rx:Rep X.K H x d)(ry:Rep X.K H y e)(rv:RelV x v)(ru:RelV y u)(h:D.eq d e=some b):Qk4 A s v u b:=by
 have L:∀{a:Addr}{xs:List V},H a=some (.lst xs)->∃its,s.heap.IsList a its:=λh=>let⟨its,_,pl,_⟩:=I.list (SqL.of h);⟨_,pl.isList⟩;have T:∀{a:Addr}{xs:List V},H a=some (.tup xs)->∃its,s.heap.IsTuple a its:=λh=>let⟨its,_,pl,_⟩:=I.tuple (SqT.of h);⟨_,pl⟩;cases rx with
 |tup h1 r1=>rw[Jw]at hd;omega|lst h1 r1=>rw[Q2]at hd;omega|scr h1=>rw[D.eq]at h;cases h|exc0 h1=>cases ry<;>simp[D.eq,D.oth]at h|exc h1 gJ=>cases ry<;>simp[D.eq,D.oth]at h|dic h1 lj r1=>cases ry<;>simp[D.eq,D.oth]at h|non=>
  cases show v=Value.none from rv;cases ry with
  |non=>
   cases show u=Value.none from ru;simp[D.eq,D.oth]at h;subst h;exact⟨SeqAt.RcAt.none_none,SeqAt.EqAt.same _,SeqAt.RcNeAt.none_none⟩|bl c2=>cases show u=Value.bool c2 from ru;simp[D.eq,D.oth]at h;subst h;exact⟨SeqAt.RcAt.none_bool _,SeqAt.EqAt.none_bool _,SeqAt.RcNeAt.none_bool _⟩|int i2=>
   obtain⟨tu,qu⟩:=show∃t,u=Value.int i2 t from ru;cases qu;simp[D.eq,D.oth]at h;subst h;exact⟨SeqAt.RcAt.none_int _ _,SeqAt.EqAt.none_int _ _,SeqAt.RcNeAt.none_int _ _⟩|str z2=>
   obtain⟨tu,qu⟩:=show∃t,u=Value.str z2 t from ru;cases qu;simp[D.eq,D.oth]at h;subst h;exact⟨SeqAt.RcAt.none_str _ _,SeqAt.EqAt.none_str _ _,SeqAt.RcNeAt.none_str _ _⟩|tup h2 r2=>
   cases show u=Value.ref _ from ru;simp[D.eq,D.oth]at h;subst h;obtain⟨its,hi⟩:=T h2;exact⟨SeqAt.RcAt.none_tuple hi hu,SeqAt.EqAt.none_tuple hi hu,SeqAt.RcNeAt.none_tuple hi hu⟩|lst h2 r2=>cases show u=Value.ref _ from ru;simp[D.eq,D.oth]at h;subst h;obtain⟨its,hi⟩:=L h2;exact⟨SeqAt.RcAt.none_list hi hu,SeqAt.EqAt.none_list hi hu,SeqAt.RcNeAt.none_list hi hu⟩|scr h2=>simp[D.eq,D.oth]at h|exc0 h2=>simp[D.eq,D.oth]at h|exc h2 ef=>simp[D.eq,D.oth]at h|dic h2 cI r2=>simp[D.eq,D.oth]at h
 |bl c=>
  cases show v=Value.bool c from rv;cases ry with
  |non=>
   cases show u=Value.none from ru;simp[D.eq,D.oth]at h;subst h;exact⟨SeqAt.RcAt.bool_none _,SeqAt.EqAt.bool_none _,SeqAt.RcNeAt.bool_none _⟩|bl c2=>
   cases show u=Value.bool c2 from ru;simp only[D.eq]at h;have hb:b=(c==c2):=(Option.some.inj h).symm;subst hb;exact⟨SeqAt.RcAt.bool_bool _ _,SeqAt.EqAt.bool_bool _ _,SeqAt.RcNeAt.bool_bool _ _⟩|int i2=>
   obtain⟨tu,qu⟩:=show∃t,u=Value.int i2 t from ru;cases qu;simp only[D.eq]at h;have hb:b=((if c then 1 else 0)==i2):=by rw[<-Option.some.inj h,Qgt];rfl
   subst hb;exact⟨SeqAt.RcAt.bool_int _ _ _,SeqAt.EqAt.bool_int _ _ _,SeqAt.RcNeAt.bool_int _ _ _⟩|str z2=>
   obtain⟨tu,qu⟩:=show∃t,u=Value.str z2 t from ru;cases qu;simp[D.eq,D.oth]at h;subst h;exact⟨SeqAt.RcAt.bool_str _ _ _,SeqAt.EqAt.bool_str _ _ _,SeqAt.RcNeAt.bool_str _ _ _⟩|tup h2 r2=>
   cases show u=Value.ref _ from ru;simp[D.eq,D.oth]at h;subst h;obtain⟨its,hi⟩:=T h2;exact⟨SeqAt.RcAt.bool_tuple _ hi hu,SeqAt.EqAt.bool_tuple _ hi hu,SeqAt.RcNeAt.bool_tuple _ hi hu⟩|lst h2 r2=>
   cases show u=Value.ref _ from ru;simp[D.eq,D.oth]at h;subst h;obtain⟨its,hi⟩:=L h2;exact⟨SeqAt.RcAt.bool_list _ hi hu,SeqAt.EqAt.bool_list _ hi hu,SeqAt.RcNeAt.bool_list _ hi hu⟩|scr h2=>simp[D.eq,D.oth]at h|exc0 h2=>simp[D.eq,D.oth]at h|exc h2 ef=>simp[D.eq,D.oth]at h|dic h2 cI r2=>simp[D.eq,D.oth]at h
 |int i=>
  obtain⟨tv,qv⟩:=show∃t,v=Value.int i t from rv;cases qv;cases ry with
  |non=>
   cases show u=Value.none from ru;simp[D.eq,D.oth]at h;subst h;exact⟨SeqAt.RcAt.int_none _ _,SeqAt.EqAt.int_none _ _,SeqAt.RcNeAt.int_none _ _⟩|bl c2=>
   cases show u=Value.bool c2 from ru;simp only[D.eq]at h;have hb:b=(i==if c2 then 1 else 0):=by rw[<-Option.some.inj h,Qgt];rfl
   subst hb;exact⟨SeqAt.RcAt.int_bool _ _ _,SeqAt.EqAt.int_bool _ _ _,SeqAt.RcNeAt.int_bool _ _ _⟩|int i2=>
   obtain⟨tu,qu⟩:=show∃t,u=Value.int i2 t from ru;cases qu;simp only[D.eq]at h;have hb:b=(i==i2):=by rw[<-Option.some.inj h,Qgt]
   subst hb;exact⟨SeqAt.RcAt.int_int _ _ _ _,SeqAt.EqAt.int_int _ _ _ _,SeqAt.RcNeAt.int_int _ _ _ _⟩|str z2=>obtain⟨tu,qu⟩:=show∃t,u=Value.str z2 t from ru;cases qu;simp[D.eq,D.oth]at h;subst h;exact⟨SeqAt.RcAt.int_str _ _ _ _,SeqAt.EqAt.int_str _ _ _ _,SeqAt.RcNeAt.int_str _ _ _ _⟩|tup h2 r2=>cases show u=Value.ref _ from ru;simp[D.eq,D.oth]at h;subst h;obtain⟨its,hi⟩:=T h2;exact⟨SeqAt.RcAt.int_tuple _ _ hi hu,SeqAt.EqAt.int_tuple _ _ hi hu,SeqAt.RcNeAt.int_tuple _ _ hi hu⟩|lst h2 r2=>cases show u=Value.ref _ from ru;simp[D.eq,D.oth]at h;subst h;obtain⟨its,hi⟩:=L h2;exact⟨SeqAt.RcAt.int_list _ _ hi hu,SeqAt.EqAt.int_list _ _ hi hu,SeqAt.RcNeAt.int_list _ _ hi hu⟩|scr h2=>simp[D.eq,D.oth]at h|exc0 h2=>simp[D.eq,D.oth]at h|exc h2 ef=>simp[D.eq,D.oth]at h|dic h2 cI r2=>simp[D.eq,D.oth]at h
 |str z=>
  obtain⟨tv,qv⟩:=show∃t,v=Value.str z t from rv;cases qv;cases ry with
  |non=>
   cases show u=Value.none from ru;simp[D.eq,D.oth]at h;subst h;exact⟨SeqAt.RcAt.str_none _ _,SeqAt.EqAt.str_none _ _,SeqAt.RcNeAt.str_none _ _⟩|bl c2=>cases show u=Value.bool c2 from ru;simp[D.eq,D.oth]at h;subst h;exact⟨SeqAt.RcAt.str_bool _ _ _,SeqAt.EqAt.str_bool _ _ _,SeqAt.RcNeAt.str_bool _ _ _⟩|int i2=>
   obtain⟨tu,qu⟩:=show∃t,u=Value.int i2 t from ru;cases qu;simp[D.eq,D.oth]at h;subst h;exact⟨SeqAt.RcAt.str_int _ _ _ _,SeqAt.EqAt.str_int _ _ _ _,SeqAt.RcNeAt.str_int _ _ _ _⟩|str z2=>
   obtain⟨tu,qu⟩:=show∃t,u=Value.str z2 t from ru;cases qu;simp only[D.eq]at h;have hb:b=(z==z2):=by
    rw[<-Option.some.inj h];by_cases q:z=z2<;>simp[q]
   subst hb;exact⟨SeqAt.RcAt.str_str _ _ _ _,SeqAt.EqAt.str_str _ _ _ _,SeqAt.RcNeAt.str_str _ _ _ _⟩|tup h2 r2=>cases show u=Value.ref _ from ru;simp[D.eq,D.oth]at h;subst h;obtain⟨its,hi⟩:=T h2;exact⟨SeqAt.RcAt.str_tuple _ _ hi hu,SeqAt.EqAt.str_tuple _ _ hi hu,SeqAt.RcNeAt.str_tuple _ _ hi hu⟩|lst h2 r2=>cases show u=Value.ref _ from ru;simp[D.eq,D.oth]at h;subst h;obtain⟨its,hi⟩:=L h2;exact⟨SeqAt.RcAt.str_list _ _ hi hu,SeqAt.EqAt.str_list _ _ hi hu,SeqAt.RcNeAt.str_list _ _ hi hu⟩|scr h2=>simp[D.eq,D.oth]at h|exc0 h2=>simp[D.eq,D.oth]at h|exc h2 ef=>simp[D.eq,D.oth]at h|dic h2 cI r2=>simp[D.eq,D.oth]at h
theorem Qkv(I:Inv X aa σ H s):∀(n:Nat)(d e:D)(x y:V)(v u:Value)(A:Around)(b:Bool),d.dep<=n->A.units+n<cLine->Rep X.K H x d->Rep X.K H y e->RelV x v->RelV y u->D.eq d e=some b->Qk4 A s v u b:=by
 have L:∀{a:Addr}{xs:List V},H a=some (.lst xs)->∃its:List Value,Vals xs its/\s.heap.IsList a its.toArray:=λh=>let⟨its,r,pl,_⟩:=I.list (SqL.of h);⟨its,r,pl.isList⟩;have T:∀{a:Addr}{xs:List V},H a=some (.tup xs)->∃its:List Value,Vals xs its/\s.heap.IsTuple a its.toArray:=λh=>let⟨its,r,pl,_⟩:=I.tuple (SqT.of h);⟨its,r,pl⟩;intro n;induction n with
 |zero=>
  intro d e x y v u A b hd hA rx ry rv ru h;exact Qku I (by omega) (by omega) rx ry rv ru h|succ n ih=>
  intro d e x y v u A b hd hA rx ry rv ru h;have hu:A.units<cLine:=by omega
  have gP:A.in1.units+n<cLine:=by show A.units+1+n<cLine;omega
  by_cases h0:d.dep=0;·exact Qku I h0 hu rx ry rv ru h
  cases rx with
  |non=>exact absurd J4 h0|bl c=>exact absurd (Yb c) h0|int c=>exact absurd (QD c) h0|str c=>exact absurd (Qy c) h0|scr h1=>
   rw[D.eq]at h;·cases h
   all_goals simp|exc0 h1=>cases ry<;>simp[D.eq,D.oth]at h|exc h1 gJ=>cases ry<;>simp[D.eq,D.oth]at h|dic h1 lj r1=>cases ry<;>simp[D.eq,D.oth]at h|@tup p xs ds h1 r1=>
   cases show v=Value.ref p from rv;rw[Jw]at hd;obtain⟨us,v1,t1⟩:=T h1;cases ry with
   |scr h2=>simp[D.eq,D.oth]at h|exc0 h2=>simp[D.eq,D.oth]at h|exc h2 ef=>simp[D.eq,D.oth]at h|dic h2 cI r2=>simp[D.eq,D.oth]at h|non=>cases show u=Value.none from ru;simp[D.eq,D.oth]at h;subst h;exact⟨SeqAt.RcAt.tuple_none t1 hu,SeqAt.EqAt.tuple_none t1 hu,SeqAt.RcNeAt.tuple_none t1 hu⟩|bl c2=>cases show u=Value.bool c2 from ru;simp[D.eq,D.oth]at h;subst h;exact⟨SeqAt.RcAt.tuple_bool _ t1 hu,SeqAt.EqAt.tuple_bool _ t1 hu,SeqAt.RcNeAt.tuple_bool _ t1 hu⟩|int i2=>
    obtain⟨tu,qu⟩:=show∃t,u=Value.int i2 t from ru;cases qu;simp[D.eq,D.oth]at h;subst h;exact⟨SeqAt.RcAt.tuple_int _ _ t1 hu,SeqAt.EqAt.tuple_int _ _ t1 hu,SeqAt.RcNeAt.tuple_int _ _ t1 hu⟩|str z2=>
    obtain⟨tu,qu⟩:=show∃t,u=Value.str z2 t from ru;cases qu;simp[D.eq,D.oth]at h;subst h;exact⟨SeqAt.RcAt.tuple_str _ _ t1 hu,SeqAt.EqAt.tuple_str _ _ t1 hu,SeqAt.RcNeAt.tuple_str _ _ t1 hu⟩|@lst q ys es h2 r2=>
    cases show u=Value.ref q from ru;obtain⟨ws,v2,t2⟩:=L h2;simp[D.eq,D.oth]at h;subst h;exact⟨SeqAt.RcAt.tuple_list t1 t2 hu,SeqAt.EqAt.tuple_list t1 t2 hu,SeqAt.RcNeAt.tuple_list t1 t2 hu⟩|@tup q ys es h2 r2=>
    cases show u=Value.ref q from ru;obtain⟨ws,v2,t2⟩:=T h2;rw[D.eq]at h;have hi:=Qix (A:=A.in1) I (by omega) gP (λd e x y v u b hd rx ry rv ru h=>ih d e x y v u A.in1 b hd gP rx ry rv ru h) r1 r2 v1 v2 h;have hr:=SeqAt.RcAt.tuples t1 t2 hu hi;have hn:=SeqAt.RcNeAt.tuples t1 t2 hu hi;have hb:b=((List.range (min us.toArray.size ws.toArray.size)).all (eAt ds es)&&us.toArray.size==ws.toArray.size):=by
     rw[(Qdc ds es b h).2];simp only[size_toArray];rw[<-v1.length,<-v2.length,r1.length,r2.length]
    rw[<-hb]at hr hn;refine QeN hr hn λz=>? _;subst z;rw[h1]at h2;cases h2;exact eqs_same r1 r2 h
  |@lst p xs ds h1 r1=>
   cases show v=Value.ref p from rv;rw[Q2]at hd;obtain⟨us,v1,t1⟩:=L h1;cases ry with
   |scr h2=>simp[D.eq,D.oth]at h|exc0 h2=>simp[D.eq,D.oth]at h|exc h2 ef=>simp[D.eq,D.oth]at h|dic h2 cI r2=>simp[D.eq,D.oth]at h|non=>cases show u=Value.none from ru;simp[D.eq,D.oth]at h;subst h;exact⟨SeqAt.RcAt.list_none t1 hu,SeqAt.EqAt.list_none t1 hu,SeqAt.RcNeAt.list_none t1 hu⟩|bl c2=>cases show u=Value.bool c2 from ru;simp[D.eq,D.oth]at h;subst h;exact⟨SeqAt.RcAt.list_bool _ t1 hu,SeqAt.EqAt.list_bool _ t1 hu,SeqAt.RcNeAt.list_bool _ t1 hu⟩|int i2=>obtain⟨tu,qu⟩:=show∃t,u=Value.int i2 t from ru;cases qu;simp[D.eq,D.oth]at h;subst h;exact⟨SeqAt.RcAt.list_int _ _ t1 hu,SeqAt.EqAt.list_int _ _ t1 hu,SeqAt.RcNeAt.list_int _ _ t1 hu⟩|str z2=>obtain⟨tu,qu⟩:=show∃t,u=Value.str z2 t from ru;cases qu;simp[D.eq,D.oth]at h;subst h;exact⟨SeqAt.RcAt.list_str _ _ t1 hu,SeqAt.EqAt.list_str _ _ t1 hu,SeqAt.RcNeAt.list_str _ _ t1 hu⟩|@tup q ys es h2 r2=>
    cases show u=Value.ref q from ru;obtain⟨ws,v2,t2⟩:=T h2;simp[D.eq,D.oth]at h;subst h;exact⟨SeqAt.RcAt.list_tuple t1 t2 hu,SeqAt.EqAt.list_tuple t1 t2 hu,SeqAt.RcNeAt.list_tuple t1 t2 hu⟩|@lst q ys es h2 r2=>
    cases show u=Value.ref q from ru;obtain⟨ws,v2,t2⟩:=L h2;rw[D.eq]at h;have hb:=(Qdc ds es b h).2;have l1:=r1.length;have l2:=r2.length;have l3:=v1.length;have l4:=v2.length;by_cases hz:ds.length=es.length
    ·have hi:=Qix (A:=A.in1) I (by omega) gP (λd e x y v u b hd rx ry rv ru h=>ih d e x y v u A.in1 b hd gP rx ry rv ru h) r1 r2 v1 v2 h;have hr:=SeqAt.RcAt.lists t1 t2 (by simp only[size_toArray];omega) hu hi;have hn:=SeqAt.RcNeAt.lists t1 t2 (by simp only[size_toArray];omega) hu hi;have eB:b=(List.range us.toArray.size).all (eAt ds es):=by
      rw[hb];simp only[size_toArray];rw[<-l3,l1,hz,Nat.min_self];simp
     rw[<-eB]at hr hn;refine QeN hr hn λz=>? _;subst z;rw[h1]at h2;cases h2;exact eqs_same r1 r2 h
    ·have hr:=SeqAt.RcAt.lists_lengths (A:=A) t1 t2 (by simp only[size_toArray,bne_iff_ne];omega) hu;have hn:=SeqAt.RcNeAt.lists_lengths (A:=A) t1 t2 (by simp only[size_toArray,bne_iff_ne];omega) hu;have eB:b=false:=by rw[hb];simp[hz]
     rw[eB];refine QeN hr hn λz=>? _;subst z;rw[h1]at h2;cases h2;omega
theorem QiC{dx dy:D}{b:Bool}(h:D.eq dx dy=some b)(ks:List Kd)(ds:List D):dx≠.dic ks ds:=by rintro rfl;cases dy<;>simp[D.eq,D.oth]at h
theorem QiB{dx dy:D}{b:Bool}(h:D.eq dx dy=some b)(ks:List Kd)(ds:List D):dy≠.dic ks ds:=by rintro rfl;cases dx<;>simp[D.eq,D.oth]at h
def QkX(X:Cx)(g:Bool->Bool):R2:=λx y H Q=>∃F dx dy b,Sm F H/\RdD X.K F H x dx/\RdD X.K F H y dy/\dx.dep<=40/\D.eq dx dy=some b/\Q (.bl (g b)) H
theorem Vu(hu:X.A.units+64<cLine):OpR X (compareOp .Eq) (QkX X id)/\Op2 X (QkX X id) D.eqO:=by
 refine⟨λaa s σ H x y v u Q I rx ry⟨F,dx,dy,b,sm,r1,r2,hd,h,q⟩=>?_,λF H x y dx dy d Q sm rx ry e k=>?_⟩
 ·have:=(Qkv I 40 dx dy x y v u X.A b hd (by omega) (r1.rep sm (QiC h)) (r2.rep sm (QiB h)) rx ry h).1;exact this X.prog X.w X.xe _ ⟨.bl b,H,I,rfl,q⟩
 ·simp only[D.eqO]at e;split at e
  ·rename_i hd;obtain⟨b,e1,rfl⟩:=JI e;exact⟨F,dx,dy,b,sm,rx,ry,hd,e1,k _ F H (.refl sm) (.bl b)⟩
  ·cases e
theorem Qme(hu:X.A.units+64<cLine):OpR X (compareOp .NotEq) (QkX X (!·))/\Op2 X (QkX X (!·)) D.neO:=by
 refine⟨λaa s σ H x y v u Q I rx ry⟨F,dx,dy,b,sm,r1,r2,hd,h,q⟩=>?_,λF H x y dx dy d Q sm rx ry e k=>?_⟩
 ·have:=(Qkv I 40 dx dy x y v u X.A b hd (by omega) (r1.rep sm (QiC h)) (r2.rep sm (QiB h)) rx ry h).2.2;exact this X.prog X.w X.xe _ ⟨.bl (!b),H,I,rfl,q⟩
 ·simp only[D.neO]at e;split at e
  ·rename_i hd;obtain⟨b,e1,rfl⟩:=JI e;exact⟨F,dx,dy,b,sm,rx,ry,hd,e1,k _ F H (.refl sm) (.bl (!b))⟩
  ·cases e
end
theorem Qot(A:Around)(s:Shared)(a:Int)(t:Tok)(c:Int)(u:Tok)(prog:Program)(w:World)(E:Value->Shared->Prop)(Q:Value->Shared->Prop)(h:Q (.bool (decide (a<=c))) s):wpAny (model prog w) A (richCompare .LtE (.int a t) (.int c u)) Q E s:=(PyProof.Rows.le_int h:wpAny (model prog w) A (compareOp .LtE (.int a t) (.int c u)) Q E s)
section
open PySem.SeqAt
open PySem.AutoSeq1(wpAny_loadPart')
open PySem.MeetsSeq PySem.MeetsSeq2 PySem.MeetsSeq3
theorem QlC(x y:Int)(xs ys:List Int):VB (x::xs) (y::ys)=if x=y then VB xs ys else decide (x<y):=rfl
theorem Qhn(l b:Addr)(items aR:Array Value)(n n2:Nat)(dd eF:Option Addr)(sl eR:Array (Option Value))(ns ms:List Int)(hi:IntsAre items.toList ns)(hj:IntsAre aR.toList ms):Meets (Builtin.«tuple.__le__» ⟨[.ref l,.ref b],[]⟩) (λ_ R s=>s.heap.get? l=some {cls:=.type "tuple",dict:=dd,data:=.seq items n,slots:=sl}/\s.heap.get? b=some {cls:=.type "tuple",dict:=eF,data:=.seq aR n2,slots:=eR}/\R (.ok (.ret (.bool (VB ns ms)))) s):=.of_wp λprog w A R s h=>by
  obtain⟨hp,g,d,tk,os⟩:=s;obtain⟨hl,hb,h⟩:=h;have f2:=AutoSeq1.sub_tuple_tuple;have z1:items.size=ns.length:=by rw[<-hi.length];simp
  have z2:aR.size=ms.length:=by rw[<-hj.length];simp
  wp_walk using wpAny_loadPart' hl,wpAny_loadPart' hb,wpAny_forIn_list _ (λrest b s'=>b.1=none/\s'=⟨hp,g,d,tk,os⟩/\∃(vs ws:List Value)(eU eW:List Int),rest=vs.zip ws/\IntsAre vs eU/\IntsAre ws eW/\eU.length+aR.size=eW.length+items.size/\R (.ok (.ret (.bool (VB eU eW)))) ⟨hp,g,d,tk,os⟩) _;case turn=>rintro⟨y,x⟩rest b s'⟨eB,rfl,vs,ws,eU,eW,hz,h9,hZ,hlen,hR⟩;cases h9 with|nil=>rw[List.zip_nil_left]at hz;cases hz|cons a t jb=>cases hZ with|nil=>rw[List.zip_nil_right]at hz;cases hz|cons c u i9=>
     rw[List.zip_cons_cons]at hz;injection hz with kF hrest;injection kF with hy hx;subst hy hx;rw[QlC]at hR;simp only[length_cons]at hlen;obtain⟨e,he,gf⟩:=HT.eqAt_int A.in1 ⟨hp,g,d,tk,os⟩ a t c u;refine wpAny_bind (he prog w _ _ ?_);cases e with
     |true=>rw[if_pos (gf.mp rfl)]at hR;wp_walk;exact⟨rfl,rfl,_,_,_,_,hrest,jb,i9,by omega,hR⟩|false=>
      have lP:a≠c:=λq=>absurd (gf.mpr q) Bool.false_ne_true;rw[if_neg lP]at hR;have hd:decide (a<c)=decide (a<=c):=by
       by_cases z:a<c;·rw[decide_eq_true z,decide_eq_true (by omega)]
       ·rw[decide_eq_false z,decide_eq_false (by omega)]
      rw[hd]at hR;have kP:=Qot A.in1 ⟨hp,g,d,tk,os⟩ a t c u prog w;wp_walk using kP;exact⟨_,rfl,by simpa using hR⟩
  case fin=>
   rintro⟨b1,b2⟩s'⟨eB,rfl,vs,ws,eU,eW,hz,h9,hZ,hlen,hR⟩;simp only at eB;subst eB;have hv:VB eU eW=decide (items.size<=aR.size):=by cases h9 with
    |nil=>simp only[length_nil]at hlen;show true=_;exact(decide_eq_true (by omega)).symm|cons a t hv=>cases hZ with
     |nil=>simp only[length_nil,length_cons]at hlen;show false=_;exact(decide_eq_false (by omega)).symm|cons c u hw=>
      rw[List.zip_cons_cons]at hz;cases hz
   rw[hv]at hR;wp_walk;exact⟨_,rfl,by simpa[Builtin.Tuple.tupleCompareSizes]using hR⟩
  case h=>exact⟨rfl,rfl,items.toList,aR.toList,ns,ms,rfl,hi,hj,by omega,h⟩
end
theorem QlD{prog:Program}{w:World}{A:Around}{E:Value->Shared->Prop}{s:Shared}{l b:Addr}{items aR:Array Value}{ns ms:List Int}{Q:Value->Shared->Prop}(hl:IsTup s.heap l items)(hb:IsTup s.heap b aR)(hi:IntsAre items.toList ns)(hj:IntsAre aR.toList ms)(hu:A.units<cLine)(h:Q (.bool (VB ns ms)) s):wpAny (model prog w) A (compareOp .LtE (.ref l) (.ref b)) Q E s:=by obtain⟨⟨cls,dd,data,sl⟩,ho,hc,n,hd⟩:=id hl;obtain⟨⟨jn,eF,data2,eR⟩,eg,fP,n2,hd2⟩:=id hb;simp only at hc hd fP hd2;subst hc hd fP hd2;exact richCompare_meets_room (op:=.LtE) ⟨_,ho,rfl⟩ ⟨_,eg,rfl⟩ PySem.F.slot_tuple_le PySem.F.entry_tuple_le (PySem.F.args_tuple_le_2 _ _) (Qhn l b items aR n n2 dd eF sl eR ns ms hi hj) ⟨ho,eg,show Value.bool (VB ns ms)≠Value.notImplemented/\Q (.bool (VB ns ms)) s from⟨(λx=>nomatch x),h⟩⟩ hu
section
variable{X:Cx}{O:List Nat}{e a b c:Expr}{pos:Pos}
def QnY(K:Fg):R2:=λx y H Q=>∃a b ns ms,x=.ref a/\y=.ref b/\SqT K H a (ns.map V.int)/\SqT K H b (ms.map V.int)/\Q (.bl (VB ns ms)) H
theorem Qr5(hu:X.A.units<cLine):OpR X (compareOp .LtE) (QnY X.K):=by intro aa s σ H x y v u Q I rx ry h;obtain⟨a,b,ns,ms,rfl,rfl,ha,hb,q⟩:=h;cases rx;cases ry;obtain⟨its,r1,p1,_⟩:=I.tuple ha;obtain⟨bN,r2,p2,_⟩:=I.tuple hb;have i1:IntsAre its.toArray.toList ns:=QfE r1;have i2:IntsAre bN.toArray.toList ms:=QfE r2;exact QlD p1 p2 i1 i2 hu ⟨.bl (VB ns ms),H,I,rfl,q⟩
theorem Qfo(hu:X.A.units<cLine):OpR X (compareOp .LtE) (λx y H Q=>(rI0 λi j=>.bl (decide (i<=j))) x y H Q\/QnY X.K x y H Q)/\Op2 X (λx y H Q=>(rI0 λi j=>.bl (decide (i<=j))) x y H Q\/QnY X.K x y H Q) D.le:=by
 refine⟨OpR.or Qtc (Qr5 hu),λF H x y dx dy d Q s rx ry e k=>?_⟩;cases dx<;>cases dy<;>try(simp[D.le]at e;done)
 case int.int i j=>cases e;exact .inl ⟨i,j,rx.int,ry.int,k _ F H (.refl s) (.bl _)⟩
 case tup.tup xs ys=>
  simp only[D.le]at e;split at e
  ·rename_i na nb e1 e2;cases e;obtain⟨p,us,rfl,h1,r1⟩:=rx.tup;obtain⟨q,ws,rfl,h2,r2⟩:=ry.tup;have z1:=r1.intsOf e1;have z2:=r2.intsOf e2;subst z1 z2;exact .inr ⟨p,q,na,nb,rfl,rfl,SqT.of (s _ _ h1),SqT.of (s _ _ h2),k _ F H (.refl s) (.bl _)⟩
  ·cases e
theorem Qrg{ev:EvE}{σ:L2.St}{H:Hp}{Q:Bool->Hp->Prop}(h:tDT X O ev σ H Q):tD X O ev σ H λx H'=>∃k,x=.bl k/\Q k H':=by obtain⟨F0,F,en,b,rs,w,k⟩:=h;refine⟨F0,F,en,.bl b,rs,w,λv F' H' g r=>?_⟩;cases r;exact⟨b,rfl,k F' H' g⟩
theorem QtK{ev:EvE}{σ:L2.St}{H:Hp}{Q:Bool->Hp->Prop}(h:tDT X O ev σ H Q):tR X O ev σ H λx H'=>∃k,x=.bl k/\Q k H':=by obtain⟨F0,F,en,b,rs,w,k⟩:=h;refine⟨F0,F,en,.bl b,rs,w,λv F' H' g r=>?_⟩;exact⟨b,r.bl,k F' H' g⟩
theorem Jj{op:CmpOp}{r:R2}{g:D->D->Option D}{ea eb:EvE}(ho:OpR X (compareOp op) r/\Op2 X r g)(ha:PE X a (tR X O ea))(hb:PE X b (tR X O eb))(hm:behindInMarks op b=false):PT X (.Compare a [op] [b] pos) (tDT X O (eOp g ea eb)):=PT.imp (Qke ho.1 ha hb hm) λσ H Q h=>QhE ho.2 (Qrg h)
theorem Je{ev:EvE}(h:PE X e (tR X O ev))(he:∀whole,isTrue e X.env whole=(do let v<-whole;standAt e.pos;holding [v] (truthy v)):=by intro _;rfl):PT X e (tDT X O ev):=PT.imp (QrP h he) λσ H Q h=>QtK h
theorem Vb{α:Type}{o:Option D}{x y:Option α}{r:α}(h:ifO o x y=some r):∃c,o=some (.bl c)/\(if c=true then x else y)=some r:=by cases o with|none=>cases h|some d=>cases d with|bl c=>exact⟨c,rfl,h⟩|_=>cases h
theorem tDT.of{ev:EvE}{F0:Fz}{F:Hp}{en:Qh}{σ:L2.St}{H:Hp}{Q:Bool->Hp->Prop}{b:Bool}(rs:RS X.K X.H₀ F0 F H σ en O)(w:ev en=some (.bl b))(k:∀F' H',Gr F H F' H'->Q b H'):tDT X O ev σ H Q:=⟨F0,F,en,b,rs,w,k⟩
theorem QtC{ea eb:EvE}{σ:L2.St}{H:Hp}{Q:Bool->Hp->Prop}(h:tDT X O (Qz ea eb) σ H Q):Qrh (tDT X O ea) (tDT X O eb) σ H Q:=by obtain⟨F0,F,en,b,rs,w,k⟩:=h;obtain⟨c,e1,e2⟩:=Vb w;refine⟨F0,F,en,c,rs,e1,λF1 H1 g1=>?_⟩;cases c with|true=>exact Qga (.of (rs.grow g1) e2 λF' H' g=>k F' H' (g1.trans g))|false=>cases e2;exact Qgb (k F1 H1 g1)
theorem QtX{ea eb:EvE}{σ:L2.St}{H:Hp}{Q:Bool->Hp->Prop}(h:tDT X O (eOr ea eb) σ H Q):tOr (tDT X O ea) (tDT X O eb) σ H Q:=by obtain⟨F0,F,en,b,rs,w,k⟩:=h;obtain⟨c,e1,e2⟩:=Vb w;refine⟨F0,F,en,c,rs,e1,λF1 H1 g1=>?_⟩;cases c with|true=>cases e2;exact Qga (k F1 H1 g1)|false=>exact Qgb (.of (rs.grow g1) e2 λF' H' g=>k F' H' (g1.trans g))
theorem Q8{ev:EvE}{op}(h:PT X a (tDT X O ev)):PW X (.BoolOp op [a] pos) (tDT X O ev):=by
 cases op;·exact Qqb h
 ·exact QrN h
theorem ZH{rest:List Expr}{ea eb:EvE}(ha:PT X a (tDT X O ea))(hb:PW X (.BoolOp .And (b::rest) pos) (tDT X O eb)):PW X (.BoolOp .And (a::b::rest) pos) (tDT X O (Qz ea eb)):=PW.imp (QrO ha hb) λσ H Q h=>QtC h
theorem Z7{rest:List Expr}{ea eb:EvE}(ha:PT X a (tDT X O ea))(hb:PW X (.BoolOp .Or (b::rest) pos) (tDT X O eb)):PW X (.BoolOp .Or (a::b::rest) pos) (tDT X O (eOr ea eb)):=PW.imp (Qs4 ha hb) λσ H Q h=>QtX h
theorem Qfu{ev:EvE}(ha:PT X a (tDT X O ev)):PT X (.UnaryOp .Not a pos) (tDT X O (Jg ev)):=PT.imp (QrR ha) λσ H Q⟨F0,F,en,b,rs,w,k⟩=>by have w':Qf8 (ev en)=some (.bl b):=w;cases q:ev en with|none=>rw[q]at w';cases w'|some d=>rw[q]at w';cases d with|bl c=>cases w';exact⟨F0,F,en,c,rs,q,k⟩|_=>cases w'
theorem QdU{ev:EvE}{op}(h:PE X a (tD X O ev)):PE X (.BoolOp op [a] pos) (tD X O ev):=QrW h
theorem QdW{rest:List Expr}{ea eb:EvE}(ha:PE X a (tR X O ea))(hb:PE X (.BoolOp .And (b::rest) pos) (tD X O eb)):PE X (.BoolOp .And (a::b::rest) pos) (tD X O (Qz ea eb)):=PE.imp (QrZ ha hb) λσ H Q⟨F0,F,en,d,rs,w,k⟩=>by obtain⟨c,e1,e2⟩:=Vb w;refine⟨F0,F,en,.bl c,rs,e1,λv F1 H1 g1 r1=>⟨c,r1.bl,?_⟩⟩;cases c with|true=>exact Qga ⟨F0,F1,en,d,rs.grow g1,e2,λv F' H' g r=>k v F' H' (g1.trans g) r⟩|false=>cases e2;exact Qgb (k _ F1 H1 g1 (.bl _))
theorem Qle{ec ea eb:EvE}(hc:PT X c (tDT X O ec))(ha:PE X a (tD X O ea))(hb:PE X b (tD X O eb)):PE X (.IfExp c a b pos) (tD X O (eIf ec ea eb)):=PE.imp (Qoy hc ha hb) λσ H Q⟨F0,F,en,d,rs,w,k⟩=>by obtain⟨c,e1,e2⟩:=Vb w;refine⟨F0,F,en,c,rs,e1,λF1 H1 g1=>?_⟩;cases c with|true=>exact Qga ⟨F0,F1,en,d,rs.grow g1,e2,λv F' H' g r=>k v F' H' (g1.trans g) r⟩|false=>exact Qgb ⟨F0,F1,en,d,rs.grow g1,e2,λv F' H' g r=>k v F' H' (g1.trans g) r⟩
theorem Qbw{ev:EvE}(ha:PE X a (tR X O ev)):PE X (.UnaryOp .USub a pos) (tD X O (eUn D.neg ev)):=PE.imp (Qs7 Qrz ha) λσ H Q⟨F0,F,en,d,rs,w,k⟩=>by obtain⟨x,e1,e2⟩:=QL w;cases x with|int i=>cases e2;exact⟨F0,F,en,.int i,rs,e1,λv F' H' g r=>⟨i,r.int,k _ F' H' g (.int _)⟩⟩|_=>cases e2
theorem Qrb{g g':D->D->Option D}{r r':R2}{ea eb ec:EvE}(ho:Op2 X r g)(cq:Op2 X r' g'){σ:L2.St}{H:Hp}{Q:VK}(h:tD X O (JO g g' ea eb ec) σ H Q):Ql4 r r' (tR X O ea) (tR X O eb) (tR X O ec) σ H Q:=by obtain⟨F0,F,en,d,rs,w,k⟩:=h;obtain⟨dx,dy,e1,e2,e3⟩:=Qa9 w;obtain⟨c,e4,e5⟩:=Vb e3;refine⟨F0,F,en,dx,rs,e1,λx F1 H1 g1 r1=>?_⟩;refine⟨F0,F1,en,dy,rs.grow g1,e2,λy F2 H2 g2 r2=>?_⟩;refine ho F2 H2 x y dx dy (.bl c) _ g2.fh (r1.gr g2) r2 e4 λv F3 H3 g3 r3=>?_;cases r3;refine⟨c,rfl,?_⟩;have dM:=(g1.trans g2).trans g3;cases c with|true=>obtain⟨dz,e6,e7⟩:=QL e5;refine Qga ⟨F0,F3,en,dz,rs.grow dM,e6,λz F4 H4 g4 r4=>?_⟩;exact cq F4 H4 y z dy dz d _ g4.fh ((r2.gr g3).gr g4) r4 e7 λv F' H' g5 r5=>k v F' H' ((dM.trans g4).trans g5) r5|false=>cases e5;exact Qgb (k _ F3 H3 dM (.bl _))
theorem QiJ{op d9:CmpOp}{g g':D->D->Option D}{r r':R2}{ea eb ec:EvE}(ho:OpR X (compareOp op) r/\Op2 X r g)(cq:OpR X (compareOp d9) r'/\Op2 X r' g')(ha:PE X a (tR X O ea))(hb:PE X b (tR X O eb))(hc:PE X c (tR X O ec))(hm:lastMarks [op,d9] [b,c]=false:=by with_unfolding_all rfl):PE X (.Compare a [op,d9] [b,c] pos) (tD X O (JO g g' ea eb ec)):=PE.imp (QoA ho.1 cq.1 ha hb hc hm) λσ H Q h=>Qrb ho.2 cq.2 h
theorem Dz:PA X [] (tL X O lN):=PA.imp ZV λσ H Q⟨F0,F,en,ds,rs,w,k⟩=>by cases w;exact k [] F H (.refl rs.fh) .nil
theorem YN{es:List Expr}{ea:EvE}{l:EvL}(ha:PE X a (tD X O ea))(hr:PA X es (tL X O l))(hs:starEach (a::es) X.env=(false,eval a X.env)::starEach es X.env:=by rfl):PA X (a::es) (tL X O (lC ea l)):=PA.imp (Q6 ha hr hs) λσ H Q⟨F0,F,en,ds,rs,w,k⟩=>by obtain⟨d,e1,e2⟩:=QL w;obtain⟨bR,e3,rfl⟩:=JI e2;refine⟨F0,F,en,d,rs,e1,λv F1 H1 g1 r1=>?_⟩;exact⟨F0,F1,en,bR,rs.grow g1,e3,λvs F2 H2 g2 r2=>k (v::vs) F2 H2 (g1.trans g2) (.cons (r1.mono g2.ff) r2)⟩
theorem Qat:∀(e:Qh)(d:List D),lN e=some d->d.length<=0:=λe d h=>by cases h;exact le_refl 0
theorem Jc{n:Nat}{ea:EvE}{l:EvL}(h:∀(e:Qh)(d:List D),l e=some d->d.length<=n):∀(e:Qh)(d:List D),lC ea l e=some d->d.length<=n+1:=λe d w=>by obtain⟨x,e1,e2⟩:=QL w;obtain⟨ds,e3,rfl⟩:=JI e2;exact succ_le_succ (h e ds e3)
theorem Qr{es:List Expr}{l:EvL}{x1}(h:PA X es (tL X O l))(hz:∀(e:Qh)(d:List D),l e=some d->d.length<=lI):PE X (.Tuple es x1 pos) (tD X O (Qi l)):=PE.imp (QrV h) λσ H Q⟨F0,F,en,d,rs,w,k⟩=>by obtain⟨ds,e1,rfl⟩:=JI w;refine⟨F0,F,en,ds,rs,e1,λvs F1 H1 g1 r1=>⟨by rw[r1.length,Z5];exact hz en ds e1,λp hp=>?_⟩⟩;have g:=Gr.new g1.fh hp (.tup vs);exact k _ _ _ (g1.trans g) (.tup QB (r1.mono g.ff))
theorem Qq{es:List Expr}{l:EvL}(h:PA X es (tL X O l))(hz:∀(e:Qh)(d:List D),l e=some d->d.length<=lI):PE X (.List es pos) (tD X O (Qf l)):=PE.imp (Qmd h) λσ H Q⟨F0,F,en,d,rs,w,k⟩=>by obtain⟨ds,e1,rfl⟩:=JI w;refine⟨F0,F,en,ds,rs,e1,λvs F1 H1 g1 r1=>⟨by rw[r1.length,Z5];exact hz en ds e1,λp hp=>?_⟩⟩;have g:=Gr.new g1.fh hp (.lst vs);exact k _ _ _ (g1.trans g) (.lst QB (r1.mono g.ff))
theorem Vx{es:List Expr}{l:EvL}(h:PA X es (tL X O l))(hz:∀(e:Qh)(d:List D),l e=some d->d.length<=lI):PE X (.List es pos) (tO X O (Qf l)):=PE.imp (Qmd h) λσ H Q⟨F0,F,en,d,rs,w,k⟩=>by obtain⟨ds,e1,rfl⟩:=JI w;refine⟨F0,F,en,ds,rs,e1,λvs F1 H1 g1 r1=>⟨by rw[r1.length,Z5];exact hz en ds e1,λp hp=>?_⟩⟩;have g:=Gr.newO g1.fh hp (.lst vs);exact k p none vs ds F1 _ (g1.trans g) (g1.hh.none hp) (g1.fh.none hp) QB r1 rfl trivial
theorem ZB:PO X none (tOI X O oNo):=λaa s σ H Q I⟨F0,F,en,o,rs,w,k⟩=>by cases w;exact Qqg aa s σ H Q I (k F H (.refl rs.fh))
theorem J3{ev:EvE}(h:PE X e (tR X O ev)):PO X (some e) (tOI X O (oAt ev)):=λaa s σ H Q I⟨F0,F,en,o,rs,w,k⟩=>by obtain⟨d,e1,e2⟩:=QL w;cases d with|int i=>cases e2;exact Qqf h aa s σ H Q I ⟨F0,F,en,.int i,rs,e1,λv F' H' g r=>⟨i,r.int,k F' H' g⟩⟩|_=>cases e2
theorem QeV{K:Fg}{F:Hp}{xs:List V}{ds:List D}(r:Reps K F xs ds)(lo hi:Option Int):Reps K F (Qa4 xs lo hi) (ZE ds lo hi):=by unfold Qa4 ZE;rw[r.length];exact(r.drop _).take _
def C1(X:Cx)(r:List V->Hp->VK->Prop)(g:D->Option D):Prop:=∀(F H:Hp)(x:V)(dx d:D)(Q:VK),Sm F H->RdD X.K F H x dx->g dx=some d->(∀v F' H',Gr F H F' H'->Rep X.K F' v d->Q v H')->r [x] H Q
theorem Qf7{ev:EvE}(ha:PE X a (tR X O ev))(hs:starEach [a] X.env=[(false,eval a X.env)]:=by rfl):PA X [a] (Qef (tR X O ev) QkU):=Q6 ha ZV hs
theorem QK{id:String}{x:Str}{p:Pos}{r:List V->Hp->VK->Prop}{g:D->Option D}{ev:EvE}(hc:CallR X (.builtin id) r/\C1 X r g)(hg:Gl X x)(hm:X.mg x=none)(hv:bootBuiltins x=some (.builtin id))(ha:PE X a (tR X O ev))(hn:x≠"__name__":=by decide)(aL:(x==("__debug__":Str))=false:=by decide)(he:starEach [a] X.env=[(false,eval a X.env)]:=by rfl):PE X (.Call (.Name x p) [a] [] pos) (tD X O (eUn g ev)):=PE.imp (QbC hc.1 hg hm hv (Qf7 ha he) hn aL he rfl) λσ H Q⟨F0,F,en,d,rs,w,k⟩=>by obtain⟨dx,e1,e2⟩:=QL w;exact⟨F0,F,en,dx,rs,e1,λv F' H' g r=>hc.2 F' H' v dx d Q g.fh r e2 λv2 F2 H2 g2 r2=>k v2 F2 H2 (g.trans g2) r2⟩
theorem VX{T:String}{x:Str}{p:Pos}{r:List V->Hp->VK->Prop}{g:D->Option D}{ev:EvE}(hc:CallR X (.type T) r/\C1 X r g)(hg:Gl X x)(hm:X.mg x=none)(hv:bootBuiltins x=some (.type T))(ha:PE X a (tR X O ev))(hn:x≠"__name__":=by decide)(aL:(x==("__debug__":Str))=false:=by decide)(he:starEach [a] X.env=[(false,eval a X.env)]:=by rfl):PE X (.Call (.Name x p) [a] [] pos) (tD X O (eUn g ev)):=PE.imp (QgQ hc.1 hg hm hv (Qf7 ha he) hn aL he rfl) λσ H Q⟨F0,F,en,d,rs,w,k⟩=>by obtain⟨dx,e1,e2⟩:=QL w;exact⟨F0,F,en,dx,rs,e1,λv F' H' g r=>hc.2 F' H' v dx d Q g.fh r e2 λv2 F2 H2 g2 r2=>k v2 F2 H2 (g.trans g2) r2⟩
theorem Qw:CallR X (.builtin "len") (λxs H Q=>(∃p ys,xs=[.ref p]/\(SqL X.K H p ys\/SqT X.K H p ys)/\Q (.int ys.length) H)\/∃z,xs=[.str z]/\z.length<=sizeLine/\Q (.int z.length) H)/\C1 X (λxs H Q=>(∃p ys,xs=[.ref p]/\(SqL X.K H p ys\/SqT X.K H p ys)/\Q (.int ys.length) H)\/∃z,xs=[.str z]/\z.length<=sizeLine/\Q (.int z.length) H) D.len:=by refine⟨CallR.or Qjt Qjs,λF H x dx d Q s rx e k=>?_⟩;cases dx with
 |str z=>
  simp only[D.len]at e;split at e
  ·rename_i hz;cases e;exact .inr ⟨z,by rw[rx.str],by rw[Z5];exact hz,k _ F H (.refl s) (.int _)⟩
  ·cases e|tup ds=>cases e;obtain⟨p,xs,rfl,h,r⟩:=rx.tup;exact .inl ⟨p,xs,rfl,.inr (SqT.of (s _ _ h)),by rw[r.length];exact k _ F H (.refl s) (.int _)⟩|lst ds=>cases e;obtain⟨p,xs,rfl,h,r⟩:=rx.lst s;exact .inl ⟨p,xs,rfl,.inl (SqL.of h),by rw[r.length];exact k _ F H (.refl s) (.int _)⟩|scr ns=>cases e;obtain⟨p,rfl,h⟩:=rx.scr;exact .inl ⟨p,_,rfl,.inl (s.sqL h),by rw[length_map];exact k _ F H (.refl s) (.int _)⟩|_=>cases e
theorem log2_lt{n:Nat}(h:n<2^1900):n.log2<1920:=by
 by_cases z:n=0;·subst z;decide
 ·have:=Nat.log2_lt z (k:=1900).mpr h;omega
theorem Qb7:CallR X (.type "str") (λxs H Q=>∃i,xs=[.int i]/\i.natAbs.log2<1920/\Q (.str (toString i)) H)/\C1 X (λxs H Q=>∃i,xs=[.int i]/\i.natAbs.log2<1920/\Q (.str (toString i)) H) D.strI:=by
 refine⟨Qjq,λF H x dx d Q s rx e k=>?_⟩;cases dx with
 |int i=>
  simp only[D.strI]at e;split at e
  ·rename_i hz;cases e;exact⟨i,by rw[rx.int],log2_lt hz,k _ F H (.refl s) (.str _)⟩
  ·cases e|_=>cases e
theorem Qa0:CallR X (.type "int") (λxs H Q=>(∃i,xs=[.int i]/\Q (.int i) H)\/∃k,xs=[.bl k]/\Q (.int (if k then 1 else 0)) H)/\C1 X (λxs H Q=>(∃i,xs=[.int i]/\Q (.int i) H)\/∃k,xs=[.bl k]/\Q (.int (if k then 1 else 0)) H) D.intB:=by refine⟨QnN,λF H x dx d Q s rx e k=>?_⟩;cases dx with|int i=>cases e;exact .inl ⟨i,by rw[rx.int],k _ F H (.refl s) (.int _)⟩|bl b=>cases e;exact .inr ⟨b,by rw[rx.bl],k _ F H (.refl s) (.int _)⟩|_=>cases e
def C2(X:Cx)(r:List V->Hp->VK->Prop)(g:D->D->Option D):Prop:=∀(F H:Hp)(x y:V)(dx dy d:D)(Q:VK),Sm F H->RdD X.K F H x dx->RdD X.K F H y dy->g dx dy=some d->(∀v F' H',Gr F H F' H'->Rep X.K F' v d->Q v H')->r [x,y] H Q
theorem Vm{id:String}{x:Str}{p:Pos}{r:List V->Hp->VK->Prop}{g:D->D->Option D}{ea eb:EvE}(hc:CallR X (.builtin id) r/\C2 X r g)(hg:Gl X x)(hm:X.mg x=none)(hv:bootBuiltins x=some (.builtin id))(ha:PE X a (tR X O ea))(hb:PE X b (tR X O eb))(hn:x≠"__name__":=by decide)(aL:(x==("__debug__":Str))=false:=by decide)(he:starEach [a,b] X.env=[(false,eval a X.env),(false,eval b X.env)]:=by rfl)(bF:starEach [b] X.env=[(false,eval b X.env)]:=by rfl):PE X (.Call (.Name x p) [a,b] [] pos) (tD X O (eOp g ea eb)):=PE.imp (QbC hc.1 hg hm hv (Q6 ha (Qf7 hb bF) (by rw[he,bF])) hn aL (by rw[he,bF]) (by rw[bF];rfl)) λσ H Q⟨F0,F,en,d,rs,w,k⟩=>by obtain⟨dx,dy,e1,e2,e3⟩:=Qa9 w;refine⟨F0,F,en,dx,rs,e1,λv F1 H1 g1 r1=>?_⟩;exact⟨F0,F1,en,dy,rs.grow g1,e2,λu F2 H2 g2 r2=>hc.2 F2 H2 v u dx dy d Q g2.fh (r1.gr g2) r2 e3 λv3 F3 H3 g3 r3=>k v3 F3 H3 ((g1.trans g2).trans g3) r3⟩
theorem J5(hc:X.calm=true):CallR X (.builtin "max") (λxs H Q=>∃i j,xs=[.int i,.int j]/\Q (.int (if j>i then j else i)) H)/\C2 X (λxs H Q=>∃i j,xs=[.int i,.int j]/\Q (.int (if j>i then j else i)) H) D.max2:=by
 refine⟨QnM hc,λF H x y dx dy d Q s rx ry e k=>?_⟩;cases dx<;>cases dy<;>try(simp[D.max2]at e;done)
 case int.int i j=>cases e;exact⟨i,j,by rw[rx.int,ry.int],k _ F H (.refl s) (.int _)⟩
theorem QnJ(hc:X.calm=true):CallR X (.builtin "min") (λxs H Q=>∃i j,xs=[.int i,.int j]/\Q (.int (if j<i then j else i)) H)/\C2 X (λxs H Q=>∃i j,xs=[.int i,.int j]/\Q (.int (if j<i then j else i)) H) D.min2:=by
 refine⟨QnK hc,λF H x y dx dy d Q s rx ry e k=>?_⟩;cases dx<;>cases dy<;>try(simp[D.min2]at e;done)
 case int.int i j=>cases e;exact⟨i,j,by rw[rx.int,ry.int],k _ F H (.refl s) (.int _)⟩
noncomputable def Qs2(X:Cx)(T:String):List V->Hp->VK->Prop:=λxs H Q=>∃x t b,xs=[x,.ty T]/\TyOf X.K H x t/\W.kitOne X.K t (.type T)=some b/\Q (.bl b) H
theorem QlX(T:String):CallR X (.builtin "isinstance") (Qs2 X T):=by intro aa s σ H xs us Q I r⟨x,t,b,hx,ty,e,q⟩;subst hx;obtain⟨u,w,rfl,rx,cY⟩:=QhC r;cases show w=Value.type T from cY;exact Qnl I rx ty e λtk=>⟨.bl b,H,I.tok tk,rfl,q⟩
def PlD(d:D):Prop:=(∀ns,d≠.scr ns)/\∀c n,d≠.exc c n
def Kit(K:Fg)(T:String):Prop:=∀d:D,PlD d->W.kitOne K (.type (tyD d)) (.type T)=some (decide (tyD d=T)||decide (T="int")&&decide (tyD d="bool"))
theorem QpX{F H:Hp}{x:V}{d:D}(s:Sm F H)(hd:PlD d)(r:RdD X.K F H x d):TyOf X.K H x (.type (tyD d)):=by cases d with|non=>rw[r.non];exact .non|bl b=>rw[r.bl];exact .bl b|int i=>rw[r.int];exact .int i|str z=>rw[r.str];exact .str z|tup ds=>obtain⟨p,xs,rfl,h,_⟩:=r.tup;exact .tup (s _ _ h)|lst ds=>obtain⟨p,xs,rfl,h,_⟩:=r.lst s;exact .lst h|dic ks ds=>obtain⟨p,xs,rfl,h,_⟩:=r.dic s;rcases h with h|⟨o,h⟩;exact .dK h;exact .frzD h|scr ns=>exact absurd rfl (hd.1 ns)|exc c n=>exact absurd rfl (hd.2 c n)
theorem QcP{T:String}{x y:Str}{p p2:Pos}{ev:EvE}(kt:Kit X.K T)(hg:Gl X x)(hm:X.mg x=none)(hv:bootBuiltins x=some (.builtin "isinstance"))(fM:Gl X y)(iu:X.mg y=none)(kK:bootBuiltins y=some (.type T))(ha:PE X a (tR X O ev))(hn:x≠"__name__":=by decide)(aL:(x==("__debug__":Str))=false:=by decide)(et:y≠"__name__":=by decide)(eJ:(y==("__debug__":Str))=false:=by decide)(he:starEach [a,.Name y p2] X.env=[(false,eval a X.env),(false,eval (.Name y p2) X.env)]:=by rfl)(bF:starEach [.Name y p2] X.env=[(false,eval (.Name y p2) X.env)]:=by rfl):PE X (.Call (.Name x p) [a,.Name y p2] [] pos) (tD X O (Za T ev)):=PE.imp (QbC (QlX T) hg hm hv (Q6 ha (Q6 (Qkh fM iu kK (show RelV (.ty T) (.type T)from rfl) et eJ) ZV bF) (by rw[he,bF])) hn aL (by rw[he,bF]) (by rw[bF];rfl)) λσ H Q⟨F0,F,en,d,rs,w,k⟩=>by
  obtain⟨dx,e1,e2⟩:=QL w;have hs:PlD dx/\d=.bl (decide (tyD dx=T)||(decide (T="int")&&decide (tyD dx="bool"))):=by cases dx with|scr ns=>cases e2|exc c n=>cases e2|_=>cases e2;exact⟨⟨(λ_ z=>nomatch z),(λ_ _ z=>nomatch z)⟩,rfl⟩
  refine⟨F0,F,en,dx,rs,e1,λv F1 H1 g1 r1=>?_⟩;refine⟨v,_,_,rfl,QpX g1.fh hs.1 r1,kt dx hs.1,?_⟩;rw[hs.2]at k;exact k _ F1 H1 g1 (.bl _)
end
structure Ex(H₀:Hp)(F0:Fz)(F H:Hp):Prop where
 fh:Sm F H
 hh:Sm F0.h H
 ff:Sm F0.f F
 fr:∀a o,F a=some o->F0.f a=some o\/F0.h a=none
theorem RS.ex{K:Fg}{H₀:Hp}{F0:Fz}{F H:Hp}{σ:L2.St}{e:Qh}{O:List Nat}(r:RS K H₀ F0 F H σ e O):Ex H₀ F0 F H:=⟨r.fh,r.hh,r.ff,r.fr⟩
theorem Ex.gr{H₀:Hp}{F0:Fz}{F H:Hp}(x:Ex H₀ F0 F H):Gr F0.f F0.h F H:=⟨x.ff,x.hh,x.fh,x.fr⟩
def Qt7(K:Fg)(H₀ F H:Hp)(w:Bool)(v:V)(d:D):Prop:=if w=true then∃p k xs ds,v=.ref p/\H₀ p=none/\F p=none/\H p=some (ho k xs)/\Reps K F xs ds/\d=dOf k ds/\Y6 k xs else Rep K F v d
def Fly(s₀:Heap)(H:Hp)(ea:Addr)(h:Heap):Prop:=s₀.objs.size<=ea/\∃oe vs,h.get? ea=some oe/\oe.data=.fields vs/\vs.size=6/\(vs[1]?=some .none\/∃T oT ts,vs[1]?=some (.ref T)/\s₀.objs.size<=T/\H T=none/\T≠ea/\h.get? T=some oT/\oT.data=.fields ts/\ts[3]?=some .none)
def XW(X:Cx)(F0:Fz)(c:Nat)(n:D):Prop:=∀(aa:List (Addr×Obj))(σ:L2.St)(F H:Hp)(s:Shared)(ea:Addr),Inv X aa σ H s->Ex X.H₀ F0 F H->Rep X.K F (.ref ea) (.exc c n)->Fly X.s₀.heap H ea s.heap->X.xe (.ref ea) s
def FlOk(X:Cx)(O' OL:List Nat)(w:Bool)(F0:Fz)(F:Hp)(Dn:Ends):Fl->Prop|.nx e'=>∀σ' F' H',Sm F F'->RS X.K X.H₀ F0 F' H' σ' e' O'->Dn.nx σ' H'|.bk e'=>∀σ' F' H',Sm F F'->RS X.K X.H₀ F0 F' H' σ' e' OL->Dn.bk σ' H'|.ct e'=>∀σ' F' H',Sm F F'->RS X.K X.H₀ F0 F' H' σ' e' OL->Dn.ct σ' H'|.rt d=>∀v F' H',Ex X.H₀ F0 F' H'->Qt7 X.K F0.h F' H' w v d->Dn.rt v H'|.rz c n=>XW X F0 c n|.rm d z=>∀v F' H',Ex X.H₀ F0 F' H'->Rep X.K F' v d->(∃p k xs ds,F0.p=some p/\F' p=none/\H' p=some (ho k xs)/\Reps X.K F' xs ds/\z=dOf k ds/\Y6 k xs)->Dn.rt v H'
def tS(X:Cx)(O O' OL:List Nat)(w:Bool)(b:EvS):TS:=λDn σ H=>∃F0 F e fl,RS X.K X.H₀ F0 F H σ e O/\b e=some fl/\FlOk X O' OL w F0 F Dn fl
theorem FlOk.mono{X:Cx}{O' OL:List Nat}{w:Bool}{F0:Fz}{F F1:Hp}{Dn:Ends}{fl:Fl}(h:FlOk X O' OL w F0 F Dn fl)(s:Sm F F1):FlOk X O' OL w F0 F1 Dn fl:=by cases fl with|nx e=>exact λσ' F' H' q r=>h σ' F' H' (s.trans q) r|bk e=>exact λσ' F' H' q r=>h σ' F' H' (s.trans q) r|ct e=>exact λσ' F' H' q r=>h σ' F' H' (s.trans q) r|rt d=>exact h|rz c d=>exact h|rm d z=>exact h
section
variable{X:Cx}{O O1 O2 O' OL:List Nat}{w:Bool}{st:Stmt}{rest:List Stmt}{e:Expr}{pos:Pos}
theorem Sn:PSs X [] (tS X O O OL w sNx):=PSs.imp Qqd λDn σ H⟨F0,F,en,fl,rs,z,k⟩=>by cases z;exact k σ F H (.refl _) rs
theorem So{b:EvS}(h:PS X st (tS X O O' OL w b)):PSs X [st] (tS X O O' OL w b):=Qkf h
theorem Ss{a b:EvS}(h1:PS X st (tS X O O1 OL w a))(h2:PSs X rest (tS X O1 O' OL w b)):PSs X (st::rest) (tS X O O' OL w (sQ a b)):=PSs.imp (Qil h1 h2) λDn σ H⟨F0,F,en,fl,rs,z,k⟩=>by have z':Qcf (a en) b=some fl:=z;cases q:a en with|none=>rw[q]at z';cases z'|some f1=>rw[q]at z';refine⟨F0,F,en,f1,rs,q,?_⟩;cases f1 with|nx e1=>exact λσ' F' H' s r=>⟨F0,F',e1,fl,r,z',k.mono s⟩|bk e1=>cases z';exact k|ct e1=>cases z';exact k|rt d=>cases z';exact k|rz c d=>cases z';exact k|rm d z=>cases z';exact k
theorem QqV:PS X (.Continue pos) (tS X O O' O w Vs):=PS.imp QjI λDn σ H⟨F0,F,en,fl,rs,z,k⟩=>by cases z;exact k σ F H (.refl _) rs
theorem RS.exg{K:Fg}{H₀:Hp}{F0:Fz}{F H F' H':Hp}{σ:L2.St}{e:Qh}{O:List Nat}(r:RS K H₀ F0 F H σ e O)(g:Gr F H F' H'):Ex H₀ F0 F' H':=(r.grow g).ex
theorem Qm{ev:EvE}(h:PE X e (tD X O ev)):PS X (.Return (some e) pos) (tS X O O' OL false (Qj ev)):=PS.imp (QhX h) λDn σ H⟨F0,F,en,fl,rs,z,k⟩=>by obtain⟨d,e1,rfl⟩:=JI z;exact⟨F0,F,en,d,rs,e1,λv F' H' g r=>k v F' H' (rs.exg g) r⟩
theorem Qk{c:Expr}{a b:List Stmt}{ec:EvE}{ea eb:EvS}(hc:PT X c (tDT X O ec))(ha:PSs X a (tS X O O' OL w ea))(hb:PSs X b (tS X O O' OL w eb)):PS X (.If c a b pos) (tS X O O' OL w (sIf ec ea eb)):=PS.imp (Qs5 hc ha hb) λDn σ H⟨F0,F,en,fl,rs,z,k⟩=>by obtain⟨c,e1,e2⟩:=Vb z;refine⟨F0,F,en,c,rs,e1,λF1 H1 g1=>?_⟩;cases c with|true=>exact Qga ⟨F0,F1,en,fl,rs.grow g1,e2,k.mono g1.ff⟩|false=>exact Qgb ⟨F0,F1,en,fl,rs.grow g1,e2,k.mono g1.ff⟩
noncomputable def dl(i:Nat)(O:List Nat):List Nat:=O.filter λj=>! j==i
noncomputable def ad(i:Nat)(O:List Nat):List Nat:=O.filter (λj=>decide (j<i))++i::O.filter λj=>decide (i<j)
theorem mem_dl{i j:Nat}:j∈dl i O↔j∈O/\j≠i:=by unfold dl;simp
theorem mem_ad{i j:Nat}:j∈ad i O↔j=i\/j∈O:=by
 unfold ad;simp only[List.mem_append,List.mem_filter,mem_cons,decide_eq_true_eq];constructor
 ·rintro(h|h|h);·exact .inr h.1
  ·exact .inl h
  ·exact .inr h.1
 ·rintro(h|h);·exact .inr (.inl h)
  ·rcases Nat.lt_trichotomy j i with z|z|z;·exact .inl ⟨h,z⟩
   ·exact .inr (.inl z)
   ·exact .inr (.inr ⟨h,z⟩)
theorem QU{α:Type}{l:List α}{i j:Nat}{x:α}(hi:i<l.length):(l.set i x)[j]?=if i=j then some x else l[j]?:=by
 rw[List.getElem?_set];split;·rename_i h;subst h;simp[hi]
 ·rfl
theorem RS.put{K:Fg}{H₀:Hp}{F0:Fz}{F H:Hp}{σ:L2.St}{en:Qh}{i:Nat}{v:V}{d:D}(r:RS K H₀ F0 F H σ en O)(h:Rep K F v d)(hi:i<en.length)(hq:JW i∉O):RS K H₀ F0 F H (σ.set i (some v)) (en.set i (some d)) (dl i O)where
 fh:=r.fh
 hh:=r.hh
 ff:=r.ff
 fr:=r.fr
 slot:=λj d' e1 hj=>by
  rw[QU hi]at e1;rw[QU (by rw[r.len];exact hi)];split at e1;·rename_i z;cases e1;rw[if_pos z];exact⟨v,rfl,h⟩
  ·rename_i z;rw[if_neg z];exact r.slot j d' e1 λq=>hj (mem_dl.mpr ⟨q,λw=>z w.symm⟩)
 own:=λj d' e1 hj=>by
  obtain⟨h1,h2⟩:=mem_dl.mp hj;rw[QU hi,if_neg (Ne.symm h2)]at e1;rw[QU (by rw[r.len];exact hi),if_neg (Ne.symm h2)];exact r.own j d' e1 h1
 dis:=λj k p d1 d2 hj hk f1 f2 e1 e2=>by
  obtain⟨h1,h2⟩:=mem_dl.mp hj;obtain⟨h3,h4⟩:=mem_dl.mp hk;rw[QU (by rw[r.len];exact hi),if_neg (Ne.symm h2)]at e1;rw[QU (by rw[r.len];exact hi),if_neg (Ne.symm h4)]at e2;rw[QU hi,if_neg (Ne.symm h2)]at f1;rw[QU hi,if_neg (Ne.symm h4)]at f2;exact r.dis j k p d1 d2 h1 h3 f1 f2 e1 e2
 pin:=λj hj=>by
  obtain⟨h1,_⟩:=mem_dl.mp hj;obtain⟨p,e1,e2⟩:=r.pin j h1;refine⟨p,e1,? _⟩;rw[getElem?_set_ne λz:i=j=>hq (by rw[z];exact h1)];exact e2
 len:=by rw[length_set,length_set];exact r.len
theorem RS.putO{K:Fg}{H₀:Hp}{F0:Fz}{F H:Hp}{σ:L2.St}{en:Qh}{i:Nat}{p:Addr}{kk:Option (List Kd)}{xs:List V}{ds:List D}(r:RS K H₀ F0 F H σ en O)(h0:F0.h p=none)(hf:F p=none)(hp:H p=some (ho kk xs))(hk:Y6 kk xs)(hr:Reps K F xs ds)(hi:i<en.length)(hq:JW i∉O)(fb:∀j,i≠JW j)(hn:∀j d,j∈O->en[j]?=some (some d)->j≠i->σ[j]?≠some (some (.ref p))):RS K H₀ F0 F H (σ.set i (some (.ref p))) (en.set i (some (dOf kk ds))) (ad i O)where
 fh:=r.fh
 hh:=r.hh
 ff:=r.ff
 fr:=r.fr
 slot:=λj d' e1 hj=>by
  have jJ:j≠i:=λz=>hj (mem_ad.mpr (.inl z));have iA:j∉O:=λz=>hj (mem_ad.mpr (.inr z));rw[QU hi,if_neg (Ne.symm jJ)]at e1;rw[QU (by rw[r.len];exact hi),if_neg (Ne.symm jJ)];exact r.slot j d' e1 iA
 own:=λj d' e1 hj=>by
  rw[QU hi]at e1;rw[QU (by rw[r.len];exact hi)];split at e1;·rename_i z;cases e1;rw[if_pos z];exact⟨p,kk,xs,ds,rfl,h0,hf,hp,hr,rfl,hk⟩
  ·rename_i z;rw[if_neg z];rcases mem_ad.mp hj with q|q;·exact absurd q.symm z
   ·exact r.own j d' e1 q
 dis:=λj k q d1 d2 hj hk f1 f2 e1 e2=>by
  rw[QU (by rw[r.len];exact hi)]at e1 e2;rw[QU hi]at f1 f2;by_cases z1:i=j
  ·by_cases z2:i=k;·rw[<-z1,<-z2]
   ·rw[if_pos z1]at e1;cases e1;rw[if_neg z2]at e2;rcases mem_ad.mp hk with w|w;·exact absurd w.symm z2
    ·rw[if_neg z2]at f2;exact absurd e2 (hn k d2 w f2 (Ne.symm z2))
  ·rw[if_neg z1]at e1;rcases mem_ad.mp hj with w|w;·exact absurd w.symm z1
   ·by_cases z2:i=k
    ·rw[if_pos z2]at e2;cases e2;rw[if_neg z1]at f1;exact absurd e1 (hn j d1 w f1 (Ne.symm z1))
    ·rw[if_neg z2]at e2;rcases mem_ad.mp hk with w2|w2;·exact absurd w2.symm z2
     ·rw[if_neg z1]at f1;rw[if_neg z2]at f2;exact r.dis j k q d1 d2 w w2 f1 f2 e1 e2
 pin:=λj hj=>by
  rcases mem_ad.mp hj with z|h1;·exact absurd z.symm (fb j)
  ·obtain⟨p,e1,e2⟩:=r.pin j h1;refine⟨p,e1,? _⟩;rw[getElem?_set_ne λz:i=j=>hq (by rw[z];exact h1)];exact e2
 len:=by rw[length_set,length_set];exact r.len
theorem RS.write{K:Fg}{H₀:Hp}{F0:Fz}{F H:Hp}{σ:L2.St}{en:Qh}{i:Nat}{p:Addr}{kk:Option (List Kd)}{xs:List V}{ds:List D}(r:RS K H₀ F0 F H σ en O)(hi:i∈O){d0:D}(he:en[i]?=some (some d0))(hσ:σ[i]?=some (some (.ref p)))(h0:F0.h p=none)(hf:F p=none)(hk:Y6 kk xs)(hr:Reps K F xs ds):RS K H₀ F0 F (upd H p (ho kk xs)) σ (en.set i (some (dOf kk ds))) O:=have hl:i<en.length:=by cases lt_or_ge i en.length with|inl h=>exact h|inr h=>rw[getElem?_eq_none h]at he;cases he
 {
 fh:=r.fh.upd _ hf
 hh:=r.hh.upd _ h0
 ff:=r.ff
 fr:=r.fr
 slot:=λj d' e1 hj=>by
  have z:i≠j:=λz=>hj (z▸hi);rw[QU hl,if_neg z]at e1;exact r.slot j d' e1 hj
 own:=λj d' e1 hj=>by
  rw[QU hl]at e1;split at e1
  ·rename_i z;cases e1;subst z;exact⟨p,kk,xs,ds,hσ,h0,hf,QB,hr,rfl,hk⟩
  ·rename_i z;obtain⟨q,k2,ys,es,h1,h2,h3,h4,h5,h6⟩:=r.own j d' e1 hj;refine⟨q,k2,ys,es,h1,h2,h3,? _,h5,h6⟩;rw[Qt λw:q=p=>z (r.dis i j p _ _ hi hj he e1 hσ (by rw[<-w];exact h1))];exact h4
 dis:=λj k q d1 d2 hj hk f1 f2 g1 g2=>by
  rw[QU hl]at f1 f2;have k1:∃d,en[j]?=some (some d):=by
   split at f1;·rename_i z;subst z;exact⟨_,he⟩
   ·exact⟨_,f1⟩
  have k2:∃d,en[k]?=some (some d):=by
   split at f2;·rename_i z;subst z;exact⟨_,he⟩
   ·exact⟨_,f2⟩
  obtain⟨_,k1⟩:=k1;obtain⟨_,k2⟩:=k2;exact r.dis j k q _ _ hj hk k1 k2 g1 g2
 pin:=r.pin
 len:=by rw[length_set];exact r.len}
theorem RS.rel{K:Fg}{H₀:Hp}{F0:Fz}{F H:Hp}{σ:L2.St}{en:Qh}(ob:Addr->Obj)(i:Nat)(r:RS K H₀ F0 F H σ en O):∃F' H',Sm F F'/\RS K H₀ F0 F' H' σ en (dl i O)/\(H'=H\/∃p kk xs,H p=some (ho kk xs)/\H'=upd H p (hz (ob p) kk xs)):=by
 have none_:(∀d,en[i]?=some (some d)->i∉O)->∃F' H',Sm F F'/\RS K H₀ F0 F' H' σ en (dl i O)/\(H'=H\/∃p kk xs,H p=some (ho kk xs)/\H'=upd H p (hz (ob p) kk xs)):=λhn=>by
  refine⟨F,H,.refl F,⟨r.fh,r.hh,r.ff,r.fr,λj d e1 hj=>?_,λj d e1 hj=>r.own j d e1 (mem_dl.mp hj).1,λj k p d1 d2 hj hk=>r.dis j k p d1 d2 (mem_dl.mp hj).1 (mem_dl.mp hk).1,λj hj=>r.pin j (mem_dl.mp hj).1,r.len⟩,.inl rfl⟩;exact r.slot j d e1 λw=>hj (mem_dl.mpr ⟨w,λz=>hn d (z▸e1) (z▸w)⟩)
 by_cases hi:i∈O;·cases q:en[i]? with
  |none=>exact none_ λd e=>by rw[q]at e;cases e|some o=>cases o with
   |none=>exact none_ λd e=>by rw[q]at e;cases e|some d0=>
    obtain⟨p,kk,xs,ds,h1,h2,h3,h4,h5,h6,h7⟩:=r.own i d0 q hi;have sf:Sm F (upd F p (hz (ob p) kk xs)):=(Sm.refl F).upd _ h3;refine⟨upd F p (hz (ob p) kk xs),upd H p (hz (ob p) kk xs),sf,⟨λa o e1=>?_,λa o e1=>?_,r.ff.trans sf,λa o e1=>?_,λj d e1 hj=>?_,λj d e1 hj=>?_,λj k p d1 d2 hj hk=>r.dis j k p d1 d2 (mem_dl.mp hj).1 (mem_dl.mp hk).1,λj hj=>r.pin j (mem_dl.mp hj).1,r.len⟩,.inr ⟨p,kk,xs,h4,rfl⟩⟩
    ·by_cases z:a=p;·subst z;rw[QB]at e1⊢;exact e1
     ·rw[Qt z]at e1⊢;exact r.fh a o e1
    ·have z:a≠p:=λz=>by rw[z,h2]at e1;cases e1
     rw[Qt z];exact r.hh a o e1
    ·by_cases z:a=p;·subst z;exact .inr h2
     ·rw[Qt z]at e1;exact r.fr a o e1
    ·by_cases z:j=i
     ·subst z;rw[q]at e1;cases e1;subst h6;exact⟨_,h1,Rep.hz QB h7 (h5.mono sf)⟩
     ·obtain⟨v,w1,w2⟩:=r.slot j d e1 λw=>hj (mem_dl.mpr ⟨w,z⟩);exact⟨v,w1,w2.mono sf⟩
    ·obtain⟨w1,w2⟩:=mem_dl.mp hj;obtain⟨p',g9,ys,es,k1,k2,k3,k4,k5,k6⟩:=r.own j d e1 w1;have ne:p'≠p:=λz:p'=p=>w2 (r.dis j i p _ _ w1 hi e1 q (by rw[<-z];exact k1) h1);refine⟨p',g9,ys,es,k1,k2,?_,?_,k5.mono sf,k6⟩;·rw[Qt ne];exact k3
     ·rw[Qt ne];exact k4
 ·exact none_ λ_ _=>hi
theorem RS.put'{K:Fg}{H₀:Hp}{F0:Fz}{F H:Hp}{σ:L2.St}{en:Qh}(i:Nat){v:V}{d:D}(r:RS K H₀ F0 F H σ en O)(h:Rep K F v d)(hq:JW i∉O):RS K H₀ F0 F H (σ.set i (some v)) (en.set i (some d)) (dl i O):=by
 by_cases hi:i<en.length;·exact r.put h hi hq
 ·have e1:en.set i (some d)=en:=List.set_eq_of_length_le (by omega);have e2:σ.set i (some v)=σ:=List.set_eq_of_length_le (by rw[r.len];omega);rw[e1,e2];refine⟨r.fh,r.hh,r.ff,r.fr,λj d f1 hj=>?_,λj d f1 hj=>r.own j d f1 (mem_dl.mp hj).1,λj k p d1 d2 hj hk=>r.dis j k p d1 d2 (mem_dl.mp hj).1 (mem_dl.mp hk).1,λj hj=>r.pin j (mem_dl.mp hj).1,r.len⟩;have:j≠i:=λz=>by
   rw[z,getElem?_eq_none (by omega)]at f1;cases f1
  exact r.slot j d f1 λw=>hj (mem_dl.mpr ⟨w,this⟩)
theorem RS.putO'{K:Fg}{H₀:Hp}{F0:Fz}{F H:Hp}{σ:L2.St}{en:Qh}(i:Nat){p:Addr}{kk:Option (List Kd)}{xs:List V}{ds:List D}(r:RS K H₀ F0 F H σ en O)(h0:F0.h p=none)(hf:F p=none)(hp:H p=some (ho kk xs))(hk:Y6 kk xs)(hr:Reps K F xs ds)(hn:∀j d,j∈O->en[j]?=some (some d)->j≠i->σ[j]?≠some (some (.ref p)))(hq:JW i∉O)(fb:∀j,i≠JW j):RS K H₀ F0 F H (σ.set i (some (.ref p))) (en.set i (some (dOf kk ds))) (ad i O):=by
 by_cases hi:i<en.length;·exact r.putO h0 hf hp hk hr hi hq fb hn
 ·have e1:en.set i (some (dOf kk ds))=en:=List.set_eq_of_length_le (by omega);have e2:σ.set i (some (V.ref p))=σ:=List.set_eq_of_length_le (by rw[r.len];omega);have n1:en[i]?=none:=getElem?_eq_none (by omega);have n2:σ[i]?=none:=getElem?_eq_none (by rw[r.len];omega);rw[e1,e2];refine⟨r.fh,r.hh,r.ff,r.fr,λj d f1 hj=>r.slot j d f1 λw=>hj (mem_ad.mpr (.inr w)),λj d f1 hj=>?_,λj k q d1 d2 hj hk g1 g2 f1 f2=>?_,λj hj=>?_,r.len⟩
  ·rcases mem_ad.mp hj with z|z;·rw[z,n1]at f1;cases f1
   ·exact r.own j d f1 z
  ·rcases mem_ad.mp hj with z|z;·rw[z,n2]at f1;cases f1
   ·rcases mem_ad.mp hk with z2|z2;·rw[z2,n2]at f2;cases f2
    ·exact r.dis j k q d1 d2 z z2 g1 g2 f1 f2
  ·rcases mem_ad.mp hj with z|h1;·exact absurd z.symm (fb j)
   ·exact r.pin j h1
theorem QpE{X:Cx}{aa:List (Addr×Obj)}{σ:L2.St}{H:Hp}{s:Shared}(I:Inv X aa σ H s){p:Addr}{kk:Option (List Kd)}{xs:List V}(h:H p=some (ho kk xs)):Inv X aa σ (upd H p (hz ((s.heap.get? p).getD default) kk xs)) s:=by cases kk with
 |none=>
  have e:upd H p (hz ((s.heap.get? p).getD default) none xs)=H:=by
   funext b;by_cases z:b=p;·subst z;rw[QB];exact h.symm
   ·rw[Qt z]
  rw[e];exact I|some ks=>
  have h':H p=some (.dK (ks.zip xs)):=h;have ok:ObjOk X.prog X.w H s.heap p (.dK (ks.zip xs)):=I.hok p _ h';obtain⟨z1,z2,vs,rel,o,es,ep,ho,rest⟩:=ok;rw[ho];show Inv X aa σ (upd H p (.frz o (.dK (ks.zip xs)))) s;have ne:∀{b:Addr}{u:HO},H b=some u->(∀aj,u≠.dK aj)->b≠p:=λe n z=>by rw[z,h']at e;cases e;exact n _ rfl
  have I2:=I.step (h':=s.heap) (H':=upd H p (.frz o (.dK (ks.zip xs)))) (g':=s.gens) (d':=s.drawn) (t':=s.toks) (ch:=[]) (λb hb=>by cases hb) (λb o _ _ _ e _=>e) (λb o _ _ _ e _=>⟨o.slots,e⟩) (λb o _ e n=>by rw[Qt λz=>by rw[z,h']at n;cases n];exact n) (λb o _ e=>⟨o,e⟩) (λb xs e=>by rw[Qt (ne e λ_ z=>nomatch z)];exact e) (λb xs u e=>by rw[Qt (ne e λ_ z=>nomatch z)];exact e) (λb ps e=>⟨#[],by rw[Qt (ne e λ_ z=>nomatch z),e];simp⟩) (λm hm=>hm) (λb u e=>? _) I.bare;·exact I2
  ·by_cases hb:b=p
   ·subst hb;rw[QB]at e;cases e;exact⟨ho,z1,z2,vs,rel,o,es,ep,ho,rest⟩
   ·rw[Qt hb]at e;exact(I.hok b u e).stay (λc v _ q=>q) (λc q=>by rw[Qt (ne q λ_ z=>nomatch z)];exact q) λc xs q=>by rw[Qt (ne q λ_ z=>nomatch z)];exact q
theorem Qrl{X:Cx}{aa:List (Addr×Obj)}{F0:Fz}{F H:Hp}{σ:L2.St}{en:Qh}{s:Shared}(i:Nat)(I:Inv X aa σ H s)(r:RS X.K X.H₀ F0 F H σ en O):∃F' H',Inv X aa σ H' s/\Sm F F'/\RS X.K X.H₀ F0 F' H' σ en (dl i O):=by
 obtain⟨F',H',sf,r',h⟩:=r.rel (λp=>(s.heap.get? p).getD default) i;refine⟨F',H',?_,sf,r'⟩;rcases h with h|⟨p,kk,xs,hp,h⟩;·rw[h];exact I
 ·rw[h];exact QpE I hp
theorem YL(i:Nat){b:EvS}{fq:List Stmt}(h:PSs X fq (tS X (dl i O) O' OL w b)):PSs X fq (tS X O O' OL w b):=by rintro aa s σ H D I⟨F0,F,en,fl,rs,z,k⟩;obtain⟨F',H',I',sf,b4⟩:=Qrl i I rs;exact h aa s σ H' D I' ⟨F0,F',en,fl,b4,z,k.mono sf⟩
theorem QiF(i:Nat)(O1:List Nat){b:EvS}{fq:List Stmt}(h:PSs X fq (tS X O O1 OL w b))(e:O'=dl i O1:=by rfl):PSs X fq (tS X O O' OL w b):=by
 subst e;rintro aa s σ H D I⟨F0,F,en,fl,rs,z,k⟩;refine thn (h aa s σ H {D with nx:=λσ' H'=>∃F' e',fl=.nx e'/\Sm F F'/\RS X.K X.H₀ F0 F' H' σ' e' O1} I ⟨F0,F,en,fl,rs,z,?_⟩) λf s' sp=>?_;·cases fl with
  |nx e=>exact λσ' F' H' s r=>⟨F',e,rfl,s,r⟩|bk e=>exact k|ct e=>exact k|rt d=>exact k|rz c d=>exact k|rm d z=>exact k
 ·cases f with|next=>obtain⟨σ',H',I',F',e',rfl,s1,r⟩:=sp;obtain⟨F2,H2,I2,s2,r2⟩:=Qrl i I' r;exact⟨σ',H2,I2,k σ' F2 H2 (s1.trans s2) r2⟩|_=>exact sp
end
section
variable{X:Cx}{O O1 O2 O' OL:List Nat}{w:Bool}{st:Stmt}{rest:List Stmt}{e:Expr}{pos:Pos}
def tG(X:Cx)(O O':List Nat)(g:EvG):TG:=λv σ H Q=>∃F0 F en d e',RS X.K X.H₀ F0 F H σ en O/\Rep X.K F v d/\g d en=some e'/\∀σ' H' F',Gr F H F' H'->RS X.K X.H₀ F0 F' H' σ' e' O'->Q σ' H'
def tGs(X:Cx)(O O':List Nat)(gs:List EvG):TGs:=λvs σ H Q=>∃F0 F en ds e',RS X.K X.H₀ F0 F H σ en O/\Reps X.K F vs ds/\ZI gs ds en=some e'/\∀σ' H' F',Gr F H F' H'->RS X.K X.H₀ F0 F' H' σ' e' O'->Q σ' H'
theorem PG.imp{t t':TG}(h:PG X e t)(q:∀v σ H Q,t' v σ H Q->t v σ H Q):PG X e t':=λaa s σ H v u Q I r z=>h aa s σ H v u Q I r (q v σ H Q z)
theorem PGs.imp{es:List Expr}{t t':TGs}(h:PGs X es t)(q:∀v σ H Q,t' v σ H Q->t v σ H Q):PGs X es t':=λaa s σ H v u Q I r z=>h aa s σ H v u Q I r (q v σ H Q z)
theorem Ql(i:Nat){x:Str}(hN:X.N.Nodup)(hi:X.N[i]?=some x:=by rfl)(hx:Loc X.env.scope x:=by first|exact Or.inl rfl|exact Or.inr rfl)(hf:X.fn x=true\/X.env.scope.names.lookup x=some .local:=by first|exact .inl rfl|exact .inr rfl)(hq:JW i∉O:=by decide):PG X (.Name x pos) (tG X O (dl i O) (gS i)):=PG.imp (Qqj hN hi hx hf) λv σ H Q⟨F0,F,en,d,e',rs,r,z,k⟩=>by cases z;exact k _ H F (.refl rs.fh) (rs.put' i r hq)
theorem YM:PGs X [] (tGs X O O []):=PGs.imp Qqi λvs σ H Q⟨F0,F,en,ds,e',rs,r,z,k⟩=>by cases r with|nil=>cases z;exact⟨rfl,k σ H F (.refl rs.fh) rs⟩|cons h r=>simp[ZI]at z
theorem QV{es:List Expr}{g:EvG}{gs:List EvG}(h1:PG X e (tG X O O1 g))(h2:PGs X es (tGs X O1 O' gs))(hs:(assignEach (e::es) X.env).map (·.2)=assign e X.env::(assignEach es X.env).map (·.2):=by rfl):PGs X (e::es) (tGs X O O' (g::gs)):=PGs.imp (Qow h1 h2 hs) λvs σ H Q⟨F0,F,en,ds,e',rs,r,z,k⟩=>by cases r with|nil=>simp[ZI]at z|@cons x d xs ds h r=>have z':((g d en).bind λe'=>ZI gs ds e')=some e':=z;obtain⟨e1,q1,q2⟩:=QL z';refine⟨x,xs,rfl,F0,F,en,d,e1,rs,h,q1,λσ' H' F' s b4=>?_⟩;exact⟨F0,F',e1,ds,e',b4,r.mono s.ff,q2,λσ2 H2 F2 s2 eS=>k σ2 H2 F2 (s.trans s2) eS⟩
theorem Vw{es:List Expr}{k0:Nat}{gs:List EvG}(hc:X.calm=true)(h:PGs X es (tGs X O O' gs))(hl:gs.length=es.length)(hn:(assignEach es X.env).length=es.length:=by rfl)(b5:(assignEach es X.env).findIdx? (·.1)=none:=by rfl):PG X (.Tuple es k0 pos) (tG X O O' (Q4 gs)):=PG.imp (QrU hc h hn b5) λv σ H Q⟨F0,F,en,d,e',rs,r,z,k⟩=>by cases r with
  |@tup a xs ds h r=>
   have z':ZI gs ds en=some e':=z;have len:∀(gs:List EvG)(ds:List D)(en e':Qh),ZI gs ds en=some e'->ds.length=gs.length:=by intro gs;induction gs with
    |nil=>intro ds en e' h;cases ds with|nil=>rfl|cons _ _=>simp[ZI]at h
    |cons g gs ih=>intro ds en e' h;cases ds with
     |nil=>simp[ZI]at h|cons d ds=>
      have h':((g d en).bind λe'=>ZI gs ds e')=some e':=h;obtain⟨e1,_,q2⟩:=QL h';rw[length_cons,length_cons,ih ds e1 e' q2]
   exact⟨a,xs,rfl,SqT.of (rs.fh _ _ h),by rw[r.length,len gs ds en e' z',hl],F0,F,en,ds,e',rs,r,z',k⟩|_=>cases z
theorem QtA{ev:EvE}{g:EvG}{Dn:Ends}{σ:L2.St}{H:Hp}(h:tS X O O' OL w (Qe ev g) Dn σ H):QnV (tD X O ev) (tG X O O' g) Dn σ H:=by obtain⟨F0,F,en,fl,rs,z,k⟩:=h;obtain⟨d,e1,e2⟩:=QL z;obtain⟨e',e3,rfl⟩:=JI e2;refine⟨F0,F,en,d,rs,e1,λv F1 H1 g1 r1=>?_⟩;exact⟨F0,F1,en,d,e',rs.grow g1,r1,e3,λσ' H' F' s b4=>k σ' F' H' (g1.ff.trans s.ff) b4⟩
theorem Qcx{tg:Expr}{ev:EvE}{g:EvG}(he:PE X e (tD X O ev))(hg:PG X tg (tG X O O' g))(hs:swapsWithSole [tg] e pos.line X.env=pure false:=by rfl)(hw:swappedStores [tg] e X.env=pure none:=by rfl)(h1:(assignEach [tg] X.env).map (·.2)=[assign tg X.env]:=by rfl):PS X (.Assign [tg] e pos) (tS X O O' OL w (Qe ev g)):=PS.imp (Qma he hg hs hw h1) λDn σ H h=>QtA h
theorem Qo(i:Nat){x:Str}{p:Pos}{ev:EvE}(hN:X.N.Nodup)(he:PE X e (tD X O ev))(hi:X.N[i]?=some x:=by rfl)(hx:Loc X.env.scope x:=by first|exact Or.inl rfl|exact Or.inr rfl)(hs:swapsWith e (some (.Name x p)) pos.line X.env=pure false:=by rfl)(hf:X.fn x=true\/X.env.scope.names.lookup x=some .local:=by first|exact .inl rfl|exact .inr rfl)(hq:JW i∉O:=by decide):PS X (.Assign [.Name x p] e pos) (tS X O (dl i O) OL w (Qe ev (gS i))):=PS.imp (Ql9 hN hi hx he hs hf) λDn σ H⟨F0,F,en,fl,rs,z,k⟩=>by obtain⟨d,e1,e2⟩:=QL z;obtain⟨e',e3,rfl⟩:=JI e2;cases e3;exact⟨F0,F,en,d,rs,e1,λv F1 H1 g1 r1=>k _ F1 H1 g1.ff ((rs.grow g1).put' i r1 hq)⟩
theorem JR(i:Nat){x:Str}{p:Pos}{ev:EvE}(hN:X.N.Nodup)(he:PE X e (tO X O ev))(hi:X.N[i]?=some x:=by rfl)(hx:Loc X.env.scope x:=by first|exact Or.inl rfl|exact Or.inr rfl)(hs:swapsWith e (some (.Name x p)) pos.line X.env=pure false:=by rfl)(hf:X.fn x=true\/X.env.scope.names.lookup x=some .local:=by first|exact .inl rfl|exact .inr rfl)(hq:JW i∉O:=by decide)(iB:i<1000:=by decide):PS X (.Assign [.Name x p] e pos) (tS X O (ad i O) OL w (Qe ev (gS i))):=PS.imp (Ql9 hN hi hx he hs hf) λDn σ H⟨F0,F,en,fl,rs,z,k⟩=>by obtain⟨d,e1,e2⟩:=QL z;obtain⟨e',e3,rfl⟩:=JI e2;cases e3;refine⟨F0,F,en,d,rs,e1,λp kk xs ds F1 H1 g1 n1 n2 h r e4 hk=>?_⟩;subst e4;refine k _ F1 H1 g1.ff ((rs.grow g1).putO' i (rs.hh.none n1) n2 h hk r (λj d' hj q2 _ q=>?_) hq (λj z=>by unfold JW at z;omega));obtain⟨p',_,ys,es,h1,_,_,h4,_⟩:=rs.own j d' q2 hj;rw[h1]at q;cases q;rw[n1]at h4;cases h4
end
section
variable{X:Cx}{O O1 O2 O' OL:List Nat}{w:Bool}{st:Stmt}{rest:List Stmt}{e a:Expr}{pos:Pos}
theorem QqG:PIp X .Sub (rI0 λi j=>.int (i-j))/\Op2 X (rI0 λi j=>.int (i-j)) D.sub:=⟨QqH,Qfr (fd:=λi j=>.int (i-j)) (λdx dy d e=>by cases dx<;>cases dy<;>simp[D.sub]at e⊢) (λi j d e=>by cases e;rfl) λ_ _ _ _=>.int _⟩
theorem QsD(i:Nat){x:Str}{p:Pos}{op:Operator}{r:R2}{g:D->D->Option D}{ev:EvE}(hN:X.N.Nodup)(hO:i∉O)(he:PE X e (tR X O ev))(ho:PIp X op r/\Op2 X r g)(hi:X.N[i]?=some x:=by rfl)(hx:Loc X.env.scope x:=by first|exact Or.inl rfl|exact Or.inr rfl)(hf:X.fn x=true\/X.env.scope.names.lookup x=some .local:=by first|exact .inl rfl|exact .inr rfl)(hq:JW i∉O:=by decide):PS X (.AugAssign (.Name x p) op e pos) (tS X O (dl i O) OL w (Vt i g ev)):=PS.imp (QrT hN hi hx he ho.1 hf) λDn σ H⟨F0,F,en,fl,rs,z,k⟩=>by obtain⟨dx,dy,e1,e2,e3⟩:=Qa9 z;obtain⟨dz,e4,rfl⟩:=JI e3;obtain⟨v,h1,h2⟩:=rs.slot i dx (Jn e1) hO;refine⟨v,h1,F0,F,en,dy,rs,e2,λy F1 H1 g1 r1=>?_⟩;exact ho.2 F1 H1 v y dx dy dz _ g1.fh (.inl (h2.mono g1.ff)) r1 e4 λu F2 H2 g2 r2=>k _ F2 H2 (g1.ff.trans g2.ff) ((rs.grow (g1.trans g2)).put' i r2 hq)
theorem Zs(i:Nat)(hi:i∈O){x:Str}{p apos ak:Pos}{ev:EvE}(he:PE X e (tD X O ev))(hN:X.N[i]?=some x:=by rfl)(hv:Vis X.env.scope x:=by first|exact Or.inl rfl|exact Or.inr (Or.inl rfl)|exact Or.inr (Or.inr rfl))(hd:(x==("__debug__":Str))=false:=by decide)(bC:(x==("__classdict__":Str))=false:=by decide)(aS:attributeBase (.Name x p) "append" X.env (eval (.Name x p) X.env)=eval (.Name x p) X.env:=by rfl)(bq:(apos.endLine==ak.line)=true:=by rfl)(hs:starEach [e] X.env=[(false,eval e X.env)]:=by rfl)(cO:((backTo ak (starEach [e] X.env)).all (λx=>!x.1)&&(backToKw ak (keywordEach [] X.env)).all (λx=>x.1.isSome)&&decide ([e].length+([]:List Keyword).length+(if([]:List Keyword).isEmpty then 0 else 1)<30))=true:=by rfl)(cz:swapsWith (.Call (.Attribute (.Name x p) "append" apos) [e] [] ak) none pos.line X.env=pure false:=by rfl):PS X (.Expr (.Call (.Attribute (.Name x p) "append" apos) [e] [] ak) pos) (tS X O O OL w (sP i ev)):=PS.imp (Qeo (Qpx PySem.F.plainAttrs_list PySem.F.slot_list_append PySem.F.type_list_append QgT (Ji hN hv hd bC) (Q6 he ZV hs) aS cO bq hs rfl) cz) λDn σ H⟨F0,F,en,fl,rs,z,k⟩=>by obtain⟨dx,dy,e1,e2,e3⟩:=Qa9 z;obtain⟨dz,e4,rfl⟩:=JI e3;obtain⟨q,kk,xs,ds,h1,h2,h3,h4,h5,h6,h7⟩:=rs.own i dx (Jn e1) hi;subst h6;cases kk with|some ks=>cases e4|none=>
  simp only[ho,dOf]at h4 e4 e1;refine⟨_,h1,.inl ⟨rfl,xs,SqL.of h4⟩,F0,F,en,dy,rs,e2,λy F1 H1 g1 r1=>?_⟩;simp only[D.app]at e4;split at e4;·rename_i hz;cases e4;have bb:=rs.grow g1;obtain⟨q',bM,bp,bR,k1,k2,k3,k4,k5,k6,k7⟩:=bb.own i _ (Jn e1) hi;rw[h1]at k1;cases k1;cases bM with|some ks=>cases k6|none=>
   cases k6;simp only[ho]at k4;have hx:bp=xs:=by
    have:=g1.hh _ _ h4;rw[k4]at this;cases this;rfl
   subst hx;refine⟨q,bp,y,rfl,rfl,k4,?_,?_⟩;·rw[Z5,k5.length];exact hz
   ·exact k _ F1 _ g1.ff (bb.write (kk:=none) hi (Jn e1) h1 k2 k3 trivial (k5.append (.cons r1 .nil)))
  ·cases e4
theorem QsC(i:Nat)(hi:i∈O){x:Str}{p apos ak:Pos}{ev:EvE}(he:PE X e (tR X O ev))(hN:X.N[i]?=some x:=by rfl)(hv:Vis X.env.scope x:=by first|exact Or.inl rfl|exact Or.inr (Or.inl rfl)|exact Or.inr (Or.inr rfl))(hd:(x==("__debug__":Str))=false:=by decide)(bC:(x==("__classdict__":Str))=false:=by decide)(aS:attributeBase (.Name x p) "extend" X.env (eval (.Name x p) X.env)=eval (.Name x p) X.env:=by rfl)(bq:(apos.endLine==ak.line)=true:=by rfl)(hs:starEach [e] X.env=[(false,eval e X.env)]:=by rfl)(cO:((backTo ak (starEach [e] X.env)).all (λx=>!x.1)&&(backToKw ak (keywordEach [] X.env)).all (λx=>x.1.isSome)&&decide ([e].length+([]:List Keyword).length+(if([]:List Keyword).isEmpty then 0 else 1)<30))=true:=by rfl)(cz:swapsWith (.Call (.Attribute (.Name x p) "extend" apos) [e] [] ak) none pos.line X.env=pure false:=by rfl):PS X (.Expr (.Call (.Attribute (.Name x p) "extend" apos) [e] [] ak) pos) (tS X O O OL w (QnW i ev)):=PS.imp (Qeo (Qpx PySem.F.plainAttrs_list PySem.F.slot_list_extend PySem.F.type_list_extend Qne (Ji hN hv hd bC) (Qf7 he hs) aS cO bq hs rfl) cz) λDn σ H⟨F0,F,en,fl,rs,z,k⟩=>by
  obtain⟨dx,dy,e1,e2,e3⟩:=Qa9 z;obtain⟨dz,e4,rfl⟩:=JI e3;obtain⟨q,kk,xs,ds,h1,h2,h3,h4,h5,h6,h7⟩:=rs.own i dx (Jn e1) hi;subst h6;cases kk with
  |some ks=>cases e4|none=>
  simp only[ho,dOf]at h4 e4 e1;refine⟨_,h1,.inl ⟨rfl,xs,SqL.of h4⟩,F0,F,en,dy,rs,e2,λy F1 H1 g1 r1=>?_⟩;cases dy with
  |lst es=>
   simp only[D.ext]at e4;split at e4;·rename_i hz;cases e4;obtain⟨q2,ys,rfl,m1,m2⟩:=r1.lst g1.fh;have bb:=rs.grow g1;obtain⟨q',bM,bp,bR,k1,k2,k3,k4,k5,k6,k7⟩:=bb.own i _ (Jn e1) hi;rw[h1]at k1;cases k1;cases bM with|some ks=>cases k6|none=>
    cases k6;simp only[ho]at k4;have hx:bp=xs:=by
     have:=g1.hh _ _ h4;rw[k4]at this;cases this;rfl
    subst hx;refine⟨q,q2,bp,ys,rfl,rfl,k4,m1,?_,?_⟩;·rw[Z5,k5.length,m2.length];exact hz
    ·exact k _ F1 _ g1.ff (bb.write (kk:=none) hi (Jn e1) h1 k2 k3 trivial (k5.append m2))
   ·cases e4|_=>cases e4
end
noncomputable def spD(K:Fg)(f:List D->Option D):Sp:=λvs H Q _=>∃F ds d,Sm F H/\Reps K F vs ds/\f ds=some d/\∀v F' H',Gr F H F' H'->Rep K F' v d->Q v H'
def Cal(P:Program)(w:World)(K:Fg)(mg:Str->Option Value)(ae:Heap)(k:Nat)(x:Str)(ps:List Str)(sp:Sp):Prop:=∃f fd,FnOk P w K mg ae CX0 k f fd ps sp/\Binds K fd ps []/\W.keepIn K (.ref f)=true/\mg x=some (.ref f)
def Df(K:Fg)(mg:Str->Option Value)(x:Str)(st:Stmt)(ps:List Str):Prop:=∃f fd,Fun K x x st f fd/\Binds K fd ps []/\mg x=some (.ref f)
section
variable{X:Cx}{O:List Nat}{e:Expr}{es:List Expr}{p pos:Pos}{x:Str}{ps:List Str}{k:Nat}
theorem Qph{f:List D->Option D}{l:EvL}(c:Cal X.prog X.w X.K X.mg X.ae k x ps (spD X.K f))(hr:Room k X.A)(hg:Gl X x)(ha:PA X (e::es) (tL X O l))(aL:(x==("__debug__":Str))=false:=by decide)(he:starEach (e::es) X.env=(false,eval e X.env)::starEach es X.env:=by rfl)(bc:(backTo pos (starEach es X.env)).any (·.1)=false:=by rfl):PE X (.Call (.Name x p) (e::es) [] pos) (tD X O (eK f l)):=by obtain⟨fa,fd,F,hb,hk,hm⟩:=c;refine PE.imp (QcE F hr hg hm hk hb (.nil:Vals [] []) Qpy ha aL he bc) λσ H Q⟨F0,F,en,d,rs,z,k⟩=>?_;obtain⟨ds,e1,e2⟩:=QL z;refine⟨F0,F,en,ds,rs,e1,λvs F1 H1 g1 r1=>⟨F1,ds,d,g1.fh,?_,e2,λv F' H' g r=>k v F' H' (g1.trans g) r⟩⟩;rw[append_nil];exact r1
theorem JZ{ev:EvE}(h:PE X e (tO X O ev)):PE X e (tD X O ev):=by
 rintro aa s σ H Q I⟨F0,F,en,d,rs,z,k⟩;refine thn (h aa s σ H (λx H'=>∃p kk xs ds F',x=.ref p/\Gr F H F' H'/\H p=none/\F' p=none/\H' p=some (ho kk xs)/\Reps X.K F' xs ds/\d=dOf kk ds/\Y6 kk xs) I ⟨F0,F,en,d,rs,z,λp kk xs ds F' H' g n1 n2 hp r e3 hk=>⟨p,kk,xs,ds,F',rfl,g,n1,n2,hp,r,e3,hk⟩⟩) λv s1⟨x,H1,I1,r1,p,kk,xs,ds,F',hx,g,n1,n2,hp,r,e3,hk⟩=>?_;subst hx e3;have s2:Sm F' (upd F' p (hz ((s1.heap.get? p).getD default) kk xs)):=(Sm.refl F').upd _ n2;refine⟨.ref p,_,QpE I1 hp,r1,k _ (upd F' p (hz ((s1.heap.get? p).getD default) kk xs)) _ ⟨g.ff.trans s2,λa o q=>?_,λa o q=>?_,λa o q=>?_⟩ (Rep.hz QB hk (r.mono s2))⟩;·rw[Qt (λw:a=p=>by rw[w,n1]at q;cases q)];exact g.hh a o q
 ·by_cases w:a=p;·subst w;rw[QB]at q⊢;exact q
  ·rw[Qt w]at q⊢;exact g.fh a o q
 ·by_cases w:a=p;·subst w;exact .inr n1
  ·rw[Qt w]at q;exact g.fr a o q
end
section
variable{P:Program}{w:World}{K:Fg}{mg:Str->Option Value}{ae:Heap}{x:Str}{st:Stmt}{N ps:List Str}{k:Nat}{b:EvS}
theorem QeM{F H:Hp}{vs:List V}{ds:List D}(n:Nat)(s:Sm F H)(r:Reps K F vs ds):RS K H ⟨F,H,none⟩ F H (vs.map some++List.replicate (n-vs.length) none) (sD n ds) []where
 fh:=s
 hh:=.refl H
 ff:=.refl F
 fr:=λ_ _ h=>.inl h
 slot:=λi d h _=>by
  unfold sD at h;rcases lt_or_ge i ds.length with hi|hi
  ·rw[getElem?_append_left (by rw[length_map];exact hi),getElem?_map,getElem?_eq_getElem hi]at h;have hd:ds[i]?=some d:=by rw[getElem?_eq_getElem hi];simpa using h
   obtain⟨v,h1,h2⟩:=r.get hd;refine⟨v,?_,h2⟩;rw[getElem?_append_left (by rw[length_map,r.length];exact hi),getElem?_map,h1];rfl
  ·rw[getElem?_append_right (by rw[length_map];exact hi),getElem?_replicate]at h;split at h<;>cases h
 own:=λi d _ h=>by cases h
 dis:=λi j p _ _ h=>by cases h
 pin:=λi h=>by cases h
 len:=by unfold sD;simp[r.length]
theorem okC(h:Df K mg x st ps)(S:FnScope N ps (Qc st)){O' OL:List Nat}(hb:∀(f:Addr)(ao:Value)(A:Around)(ag:List Env)(s:Shared)(H:Hp)(E:XK),Room k (A.deeper (envOfC x (Qc st) s.heap.objs.size f ao))->PSs (ZJ CX0 P w K mg ae N x (Qc st) f ao A ag s H E).nox (QY st) (tS (ZJ CX0 P w K mg ae N x (Qc st) f ao A ag s H E).nox [] O' OL false b)):Cal P w K mg ae (k+1) x ps (spD K (QO N.length ps.length b)):=by
 obtain⟨f,fd,F,eA,hm⟩:=h;refine⟨f,fd,F.ok S (λvs H Q E⟨F,ds,d,s,r,e,_⟩=>?_) (λao A ag s H vs Q E hr⟨Fz,ds,d,sm,r,e,k⟩=>?_),eA,F.kp,hm⟩
 ·unfold QO at e;split at e;·rename_i z;rw[r.length];exact z
  ·cases e
 ·refine⟨_,hb f ao A ag s H E hr,?_⟩;unfold QO at e;split at e
  ·rename_i z;have e':QdH (b (sD N.length ds))=some d:=e;cases q:b (sD N.length ds)with|none=>rw[q]at e';cases e'|some fl=>
    rw[q]at e';have b5:YV N vs=vs.map some++List.replicate (N.length-vs.length) none:=rfl;rw[b5];refine⟨⟨Fz,H,none⟩,Fz,sD N.length ds,fl,QeM N.length sm r,q,?_⟩;cases fl with
    |nx en=>cases e';exact λσ' F' H' s' rs=>k .non F' H' rs.ex.gr .non|rt d'=>cases e';exact λv F' H' x r=>k v F' H' x.gr r|rz c d'=>cases e'|rm d' z'=>cases e'|bk en=>cases e'|ct en=>cases e'
  ·cases e
end
structure ItOk(K:Fg)(F:Hp)(J:It)(ds:List D):Prop where
 go:∀i F' H',Sm F F'->Sm F' H'->i<ds.length->J.go i H'
 yld:∀i F' H' x H2,Sm F F'->Sm F' H'->i<ds.length->J.yld i H' x H2->∃F2 d,Gr F' H' F2 H2/\ds[i]?=some d/\Rep K F2 x d
 stop:∀i F' H',Sm F F'->Sm F' H'->ds.length<=i->J.stop i H'
noncomputable def tI(X:Cx)(O:List Nat)(it:EvI):TI:=λσ H R=>∃F0 F e ds,RS X.K X.H₀ F0 F H σ e O/\it e=some ds/\∀F' H' J,Gr F H F' H'->ItOk X.K F' J ds->R J H'
section
variable{X:Cx}{O OL:List Nat}{w:Bool}{tg iter:Expr}{body:List Stmt}{pos:Pos}
theorem PI.imp{t t':TI}(h:PI X tg iter t)(q:∀σ H R,t' σ H R->t σ H R):PI X tg iter t':=λaa s σ H R I z=>h aa s σ H R I (q σ H R z)
theorem QmI{o:Option Fl}{k:EvS}{fl:Fl}(h:Z4 o k=some fl):∃f,o=some f/\Z4 (some f) k=some fl:=by cases o with|none=>cases h|some f=>exact⟨f,rfl,h⟩
theorem Jr{it:EvI}{g:EvG}{b:EvS}(hc:X.calm=true)(hp:PassesOwn (model X.prog X.w) X.A X.env X.xe)(hi:PI X tg iter (tI X O it))(hg:PG X tg (tG X O O g))(hb:PSs X body (tS X O O O w b))(hs:∀x,foldedSetIterable iter X.env x=pure x:=by intro _;rfl):PS X (.For tg iter body [] pos) (tS X O O OL w (QP it g b)):=PS.imp (QrS hp hc hi hg hb hs) λDn σ H⟨F0,F,en,fl,rs,z,k⟩=>by
  obtain⟨ds,e1,e2⟩:=QL z;refine⟨F0,F,en,ds,rs,e1,λF1 H1 J g1 io=>?_⟩;refine⟨λi m σ' H'=>m=ds.length-i/\i<=ds.length/\∃F' cc,Sm F1 F'/\RS X.K X.H₀ F0 F' H' σ' cc O/\QA g b (ds.drop i) cc=some fl,⟨ds.length,by omega,by omega,F1,en,.refl F1,rs.grow g1,by rw[drop_zero];exact e2⟩,?_⟩;rintro i m σ' H'⟨rfl,hle,F',cc,s',b4,e3⟩;rcases lt_or_ge i ds.length with hi|hi
  ·refine .inr ⟨io.go i F' H' s' b4.fh hi,λσ2 H2=>∃m',m'<ds.length-i/\m'=ds.length-(i+1)/\i+1<=ds.length/\∃F' cc,Sm F1 F'/\RS X.K X.H₀ F0 F' H2 σ2 cc O/\QA g b (ds.drop (i+1)) cc=some fl,λσ2 H2⟨m',h1,h2⟩=>⟨m',h1,h2⟩,λx H2 hy=>?_⟩;obtain⟨F2,d,g2,hd,r2⟩:=io.yld i F' H' x H2 s' b4.fh hi hy;have iF:ds.drop i=d::ds.drop (i+1):=by
    rw[List.drop_eq_getElem_cons hi];rw[getElem?_eq_getElem hi]at hd;cases hd;rfl
   rw[iF]at e3;obtain⟨f,e4,e5⟩:=QmI (show Z4 ((g d cc).bind b) (QA g b (ds.drop (i+1)))=some fl from e3);obtain⟨jX,e6,e7⟩:=QL (show((g d cc).bind λx=>b x)=some f from e4);refine⟨F0,F2,cc,d,jX,b4.grow g2,r2,e6,λσ3 H3 F3 s3 cU=>?_⟩;refine⟨F0,F3,jX,f,cU,e7,?_⟩;have sA:Sm F1 F3:=(s'.trans g2.ff).trans s3.ff;cases f with
   |nx e=>exact λσ4 F4 H4 s4 fz=>⟨_,by omega,rfl,hi,F4,e,sA.trans s4,fz,e5⟩|ct e=>exact λσ4 F4 H4 s4 fz=>⟨_,by omega,rfl,hi,F4,e,sA.trans s4,fz,e5⟩|bk e=>cases e5;exact λσ4 F4 H4 s4 fz=>k σ4 F4 H4 (g1.ff.trans (sA.trans s4)) fz|rt d=>cases e5;exact k|rz c d=>cases e5;exact k|rm d z=>cases e5;exact k
  ·have hz:ds.drop i=[]:=drop_eq_nil_of_le hi;rw[hz]at e3;cases e3;exact .inl ⟨io.stop i F' H' s' b4.fh hi,k σ' F' H' (g1.ff.trans s') b4⟩
theorem Qd2(lo:Int)(n:Nat):(rD lo n).length=n:=by unfold rD;simp
theorem Ja{ev:EvE}(h:PE X iter (tD X O ev)):PI X tg iter (tI X O (QC ev)):=PI.imp (Qkg h) λσ H R⟨F0,F,en,ds,rs,z,k⟩=>by obtain⟨d,e1,e2⟩:=QL z;refine⟨F0,F,en,d,rs,e1,λv F1 H1 g1 r1=>?_⟩;have fin:∀(a:Addr)(xs:List V),SqL X.K F1 a xs->Reps X.K F1 xs ds->R (Itl X.K a) H1:=λa xs ha r=>k F1 H1 _ g1 ⟨λi F' H' s s' hi=>by obtain⟨v,h1,_⟩:=r.get (getElem?_eq_getElem hi);exact⟨xs,v,s'.sqL (s.sqL ha),h1⟩,λi F' H' x H2 s s' hi⟨hH,hx⟩=>by subst hH;have fG:=hx xs (s'.sqL (s.sqL ha));obtain⟨d,h1,h2⟩:=r.getV fG;exact⟨F',d,.refl s',h1,h2.mono s⟩,λi F' H' s s' hi=>⟨xs,s'.sqL (s.sqL ha),by rw[r.length];exact hi⟩⟩;cases r1 with|@lst a xs bR ha r=>cases e2;exact⟨a,rfl,⟨xs,SqL.of (g1.fh _ _ ha)⟩,fin a xs (SqL.of ha) r⟩|@scr a ns ha=>cases e2;exact⟨a,rfl,⟨_,g1.fh.sqL ha⟩,fin a _ ha (Reps.ints ns)⟩|_=>cases e2
theorem Yt{a:Expr}{p:Pos}{ev:EvE}(hg:Gl X "range")(hm:X.mg "range"=none)(ha:PE X a (tR X O ev))(hs:starEach [a] X.env=[(false,eval a X.env)]:=by rfl):PI X tg (.Call (.Name "range" p) [a] [] pos) (tI X O (JB ev)):=PI.imp (QmZ hg hm (Qf7 ha hs) hs) λσ H R⟨F0,F,en,ds,rs,z,k⟩=>by obtain⟨d,e1,e2⟩:=QL z;cases d with
  |int n=>
   simp only[D.rng]at e2;split at e2
   ·rename_i hz;cases e2;refine⟨F0,F,en,.int n,rs,e1,λv F1 H1 g1 r1=>⟨n,by rw[r1.int],by omega,by omega,k F1 H1 _ g1 ⟨λi F' H' s s' hi=>?_,λi F' H' x H2 s s' hi⟨hH,hx⟩=>?_,λi F' H' s s' hi=>?_⟩⟩⟩;·rw[Qd2]at hi;exact hi
    ·subst hH hx;have cA:i<n.toNat:=by rw[Qd2]at hi;exact hi
     exact⟨F',.int (0+(i:Int)),.refl s',by simp[rD,cA],.int _⟩
    ·rw[Qd2]at hi;exact hi
   ·cases e2|_=>cases e2
end
section
variable{P:Program}{w:World}{K:Fg}{mg:Str->Option Value}{ae:Heap}{x:Str}{st:Stmt}{N ps:List Str}{k:Nat}{b:EvS}
theorem okF{f:Addr}{fd:FuncData}(F:Fun K x x st f fd)(S:FnScope N ps (Qc st)){O' OL:List Nat}(hb:∀(ao:Value)(A:Around)(ag:List Env)(s:Shared)(H:Hp)(E:XK),Room k (A.deeper (envOfC x (Qc st) s.heap.objs.size f ao))->PSs (ZJ CX0 P w K mg ae N x (Qc st) f ao A ag s H E).nox (QY st) (tS (ZJ CX0 P w K mg ae N x (Qc st) f ao A ag s H E).nox [] O' OL false b)):FnOk P w K mg ae CX0 (k+1) f fd ps (spD K (QO N.length ps.length b)):=by
 refine F.ok S (λvs H Q E⟨F,ds,d,s,r,e,_⟩=>?_) (λao A ag s H vs Q E hr⟨Fz,ds,d,sm,r,e,k⟩=>?_)
 ·unfold QO at e;split at e;·rename_i z;rw[r.length];exact z
  ·cases e
 ·refine⟨_,hb ao A ag s H E hr,?_⟩;unfold QO at e;split at e;·rename_i z;have e':QdH (b (sD N.length ds))=some d:=e;cases q:b (sD N.length ds)with|none=>rw[q]at e';cases e'|some fl=>
    rw[q]at e';have b5:YV N vs=vs.map some++List.replicate (N.length-vs.length) none:=rfl;rw[b5];refine⟨⟨Fz,H,none⟩,Fz,sD N.length ds,fl,QeM N.length sm r,q,?_⟩;cases fl with
    |nx en=>cases e';exact λσ' F' H' s' rs=>k .non F' H' rs.ex.gr .non|rt d'=>cases e';exact λv F' H' x r=>k v F' H' x.gr r|rz c d'=>cases e'|rm d' z'=>cases e'|bk en=>cases e'|ct en=>cases e'
  ·cases e
section
variable{h:Heap}{f:Addr}{oc kV dc pm cd ct:Value}{od an:Option Addr}{osl:Array (Option Value)}
theorem df_mk(X:K.In h)(G:h.Ns mainGlobals mg)(hb:∀(kV doc pm:Value)(an:Option Addr)(ao ct:Value)(us:List Value),us.length=ps.length->bindArgs (W.fnOf x x (JE st) (QY st) (Qc st) .none kV doc pm an ao ct) ⟨us,[]⟩=pure (ps.zip us))(a:W.nsIn K mainGlobals x=some (some (.ref f)))(l:K.lookup f=some ⟨oc,od,.func (W.fnOf x x (JE st) (QY st) (Qc st) .none kV dc pm an cd ct),osl⟩)(c:W.codeIn K cd x=true)(k:W.keepIn K (.ref f)=true):Df K mg x st ps:=⟨f,_,Qh2 l c k,(Qh2 l c k).binds hb,W.mg_of X G a⟩
theorem gint_mk{v:Value}{i:Int}(X:K.In h)(G:h.Ns mainGlobals mg)(a:W.nsIn K mainGlobals x=some (some v))(e:∃t,v=.int i t):∃t,mg x=some (.int i t):=by obtain⟨t,rfl⟩:=e;exact⟨t,W.mg_of X G a⟩
theorem law_mk{fa:Addr}{y:Str}(X:K.In h)(G:h.Ns mainGlobals mg)(lF:mg x=some (.ref fa))(hb:∀(kV doc pm:Value)(an:Option Addr)(ao ct:Value)(u:Value),bindArgs (W.fnOf x x (JE st) (QY st) (Qc st) .none kV doc pm an ao ct) ⟨[u],[]⟩=pure [(y,u)])(a:W.nsIn K mainGlobals x=some (some (.ref f)))(l:K.lookup f=some ⟨oc,od,.func (W.fnOf x x (JE st) (QY st) (Qc st) .none kV dc pm an cd ct),osl⟩)(c:W.codeIn K cd x=true)(k:W.keepIn K (.ref f)=true):∃fd,(∀(s:Shared)(u:Value),BindsTo s fd ⟨[u],[]⟩ [(y,u)])/\Fun K x x st fa fd:=by have e:=lF.symm.trans (W.mg_of X G a);cases e;exact⟨_,λs u=>.of_eq (hb _ _ _ _ _ _ u),Qh2 l c k⟩
end
end
theorem Qsf(K:Fg)(f:List D->Option D)(h:∀ns,f [.scr ns]=some (.bl true))(H:Hp)(a:Addr)(ns:List Int)(hS:SqL K H a (ns.map V.int)):spD K f [.ref a] H (λv _=>v=.bl true) λ_ _ _=>False:=⟨H,[.scr ns],.bl true,.refl H,.cons (.scr hS) .nil,h ns,λv F' H' g r=>by cases r;rfl⟩
theorem Qkn(K:Fg):Kit K "int":=λd hd=>by cases d<;>first|rfl|exact absurd rfl (hd.1 _)|exact absurd rfl (hd.2 _ _)
theorem QeQ(K:Fg):Kit K "bool":=λd hd=>by cases d<;>first|rfl|exact absurd rfl (hd.1 _)|exact absurd rfl (hd.2 _ _)
section
variable{X:Cx}{aa:List (Addr×Obj)}{σ:L2.St}{H:Hp}{s:Shared}{h':Heap}
theorem QpY{t':Nat}{ch:List Addr}{p:Addr}{o:HO}(I:Inv X aa σ H s)(k:∀b u,b∉ch->s.heap.get? b=some u->h'.get? b=some u)(hf:∀b∈ch,VR X aa H b)(hp:s.heap.objs.size<=p)(new:ObjOk X.prog X.w (upd H p o) h' p o):Inv X aa σ (upd H p o) {s with heap:=h',toks:=t'}:=by
 have hn:H p=none:=I.hok.fresh hp;have dD:∀b u,H b=some u->b∉ch:=λb u e z=>by rw[(hf b z).1]at e;cases e
 refine I.step (g':=s.gens) (d':=s.drawn) (ch:=ch) (λb hb=>?_) (λb o _ _ hc e _=>k b o hc e) (λb o _ _ hc e _=>⟨o.slots,k b o hc e⟩) (λb o _ e n=>?_) (λb o hc e=>⟨o,k b o hc e⟩) (λb xs e=>?_) (λb xs u e=>?_) (λb ps e=>⟨#[],?_⟩) (λm hm=>?_) (λb u e=>?_) I.bare
 ·obtain⟨f0,f1,f2,f3,f4,f5⟩:=hf b hb;exact⟨f3,f1,f4,f5⟩
 ·rw[Qt (ne_of_lt (lt_of_lt_of_le (Heap.lt_size e) hp))];exact n
 ·rw[Qt (JF e hn)];exact e
 ·rw[Qt (JF e hn)];exact e
 ·rw[Qt (JF e hn),e];simp
 ·obtain⟨o,es,ep,ho,r⟩:=hm;exact⟨o,es,ep,k _ o (λz=>(hf _ z).2.1 rfl) ho,r⟩
 ·by_cases hb:b=p;·subst hb;rw[QB]at e;cases e;exact new
  ·rw[Qt hb]at e;refine(I.hok b u e).stay (λc v hc q=>k c v ?_ q) (λc q=>by rw[Qt (JF q hn)];exact q) λc xs q=>by rw[Qt (JF q hn)];exact q
   rcases hc with z|z;·rw[z];exact dD b u e
   ·exact dD c _ z
theorem QpZ{t':Nat}{ch:List Addr}(I:Inv X aa σ H s)(k:∀b u,b∉ch->s.heap.get? b=some u->h'.get? b=some u)(hf:∀b∈ch,VR X aa H b):Inv X aa σ H {s with heap:=h',toks:=t'}:=by
 have dD:∀b u,H b=some u->b∉ch:=λb u e z=>by rw[(hf b z).1]at e;cases e
 refine I.step (g':=s.gens) (d':=s.drawn) (ch:=ch) (λb hb=>?_) (λb o _ _ hc e _=>k b o hc e) (λb o _ _ hc e _=>⟨o.slots,k b o hc e⟩) (λ_ _ _ _ n=>n) (λb o hc e=>⟨o,k b o hc e⟩) (λ_ _ e=>e) (λ_ _ _ e=>e) (λb ps e=>⟨#[],by rw[e];simp⟩) (λm hm=>?_) (λb u e=>?_) I.bare
 ·obtain⟨f0,f1,f2,f3,f4,f5⟩:=hf b hb;exact⟨f3,f1,f4,f5⟩
 ·obtain⟨o,es,ep,ho,r⟩:=hm;exact⟨o,es,ep,k _ o (λz=>(hf _ z).2.1 rfl) ho,r⟩
 ·refine(I.hok b u e).stay (λc v hc q=>k c v ?_ q) (λ_ q=>q) λ_ _ q=>q;rcases hc with z|z;·rw[z];exact dD b u e
  ·exact dD c _ z
end
def Ite(K:Fg)(a:Addr):It:=⟨λi H=>∃xs x,SqL K H a xs/\xs[i]?=some x,λi H x H'=>∃p y,H p=none/\x=.ref p/\H'=upd H p (.tup [.int i,y])/\∀xs,SqL K H a xs->xs[i]?=some y,λi H=>∃xs,SqL K H a xs/\xs.length<=i⟩
theorem QmK{P:Program}{w:World}{K:Fg}{elts:List Expr}{x1:Nat}{pos:Pos}(a e it:Addr)(da:e≠it):Turn P w K (.Tuple elts x1 pos) (Ite K a) [e,it] e (λi h=>∃old,IsEnum h e it i old/\h.IsListIter it a i)where
 mem:=by simp
 obj:=λi h st b hb=>by
  obtain⟨old,he,o,ho,c,d⟩:=st;rcases List.mem_cons.mp hb with z|z;·subst z;exact⟨_,he,λv z=>by have z':Data.fields _=Data.cell v:=z;cases z'⟩
  ·have z:=List.mem_singleton.mp z;subst z;exact⟨o,ho,λv z=>by rw[d]at z;cases z⟩
 keep:=λi h h' st k=>by
  obtain⟨old,he,hi⟩:=st;exact⟨old,k e (by simp) _ he,hi.at λo q=>k it (by simp) o q⟩
 item:=by
  intro X hP hw hK hc i aa s σ H E I hf st hg;subst hP hw hK;obtain⟨old,he,hi⟩:=st;obtain⟨xs,x,hq,hx⟩:=hg;obtain⟨its,rv,p,hz⟩:=I.list hq;obtain⟨u,hu,ru⟩:=rv.get hx;refine wpAny_pyNext_enum_item he hi p.isList (x:=u) (by simpa using hu) da λh' eo cA ht hsz kk=>?_;refine⟨_,rfl,wpAny_letOwnedTupleGo_enum eo λh2 bF sb=>?_⟩;have k2:∀b o,b∉[e,it]->s.heap.get? b=some o->h2.get? b=some o:=λb o hb q=>by
   have h1:b≠e:=λz=>hb (by simp[z]);have h3:b≠it:=λz=>hb (by simp[z]);exact(sb.2 b h1).trans (kk b o h1 h3 q)
  have fe:H s.heap.objs.size=none:=I.hok.fresh (le_refl _);have le:e<s.heap.objs.size:=Heap.lt_size he;have kN:h2.get? s.heap.objs.size=some {cls:=.type "tuple",data:=.seq #[.int i s.toks,u]}:=(sb.2 _ (ne_of_gt le)).trans ht;have li:it<s.heap.objs.size:=by obtain⟨o,ho,_⟩:=hi;exact Heap.lt_size ho
  have I2:Inv X aa σ (upd H s.heap.objs.size (.tup [.int i,x])) {s with heap:=h2,toks:=s.toks+1}:=QpY (t':=s.toks+1) I k2 hf (le_refl _) (show ObjOk X.prog X.w _ h2 _ (.tup [.int i,x])from⟨by show 2<=sizeLine;decide,[.int i s.toks,u],.cons ⟨_,rfl⟩ (.cons ru .nil),⟨_,kN,rfl,_,rfl⟩⟩);refine⟨.ref s.heap.objs.size,_,I2,rfl,⟨_,x,fe,rfl,rfl,λys hy=>by rw[I.list_inj hy hq];exact hx⟩,⟨u,bF,?_⟩,λb hb=>?_⟩;·exact cA.at λo q=>(sb.2 it (Ne.symm da)).trans q
  ·have:b≠s.heap.objs.size:=by
    rcases List.mem_cons.mp hb with z|z;·rw[z];exact ne_of_lt le
    ·rw[List.mem_singleton.mp z];exact ne_of_lt li
   rw[Qt this];exact(hf b hb).1
 done:=by
  intro X hP hw hK hc i aa s σ H E I hf st hg;subst hP hw hK;obtain⟨old,he,hi⟩:=st;obtain⟨xs,hq,hx⟩:=hg;obtain⟨its,rv,p,hz⟩:=I.list hq;have hl:=rv.length;exact wpAny_pyNext_enum_end (I.ok.hd hc) he hi p.isList (by simp;omega) λh' eb=>⟨rfl,QpZ (t':=s.toks) I (λb o hb q=>eb b o (λz=>hb (by simp[z])) q) hf⟩
 self:=λ_ _ _ _ _ st h=>by obtain⟨old,he,_⟩:=st;exact wpAny_pyIter_enum he h
section
variable{X:Cx}{O:List Nat}{a:Expr}{p pos:Pos}
def Qss(K:Fg)(ta:TA):TI:=λσ H R=>ta σ H λvs H1=>∃l,vs=[.ref l]/\(∃xs,SqL K H1 l xs)/\R (Ite K l) H1
theorem Qqh{elts:List Expr}{x1:Nat}{cL:Pos}{ta:TA}(hg:Gl X "enumerate")(hm:X.mg "enumerate"=none)(ha:PA X [a] ta)(hs:starEach [a] X.env=[(false,eval a X.env)]:=by rfl):PI X (.Tuple elts x1 cL) (.Call (.Name "enumerate" p) [a] [] pos) (Qss X.K ta):=by
 intro aa s σ H R I h;refine Call_ (QdS I hg hm boot_enumerate (PyProof.Rows.callWith_type1 (thn (ha pos aa s σ H _ I h) λus s1⟨vs,H1,I1,r1,q1⟩=>?_) hs rfl));obtain⟨l,e,⟨xs,hq⟩,q⟩:=q1;subst e;obtain⟨u,rfl,rx⟩:=QaK r1;cases rx;obtain⟨its,rv,pl,hz⟩:=I1.list hq;refine call_enumerate_list pl.isList λh' he hi hsz hk=>?_;have I2:Inv X aa σ H1 {s1 with heap:=h'}:=I1.kept (t':=s1.toks) hk;have fe:∀b,s1.heap.objs.size<=b->H1 b=none:=λb hb=>I1.hok.fresh hb;refine wpAny_pyIter_enum he ⟨_,[s1.heap.objs.size+1,s1.heap.objs.size],_,_,H1,rfl,I2,QmK l _ _ (Nat.succ_ne_self _),⟨.none,he,hi⟩,λb hb=>?_,q⟩;have:s1.heap.objs.size<=b:=by
  rcases List.mem_cons.mp hb with z|z;·rw[z];exact le_succ _
  ·rw[List.mem_singleton.mp z];exact le_refl _
 exact I1.fpOk this (fe b this)
theorem Qg7:∀(ds:List D)(n i:Nat)(d:D),ds[i]?=some d->(VE n ds)[i]?=some (.tup [.int ((n+i:Nat):Int),d])|[],_,_,_,h=>by simp at h|d::ds,n,0,_,h=>by simp at h;subst h;simp[VE]|d::ds,n,i+1,x,h=>by have:=Qg7 ds (n+1) i x (by simpa using h);rw[VE,getElem?_cons_succ,this,show n+1+i=n+(i+1)by omega]
theorem Qd4:∀(ds:List D)(n:Nat),(VE n ds).length=ds.length|[],_=>rfl|d::ds,n=>by rw[VE,length_cons,length_cons,Qd4]
theorem Qes{elts:List Expr}{x1:Nat}{cL:Pos}{ev:EvE}(hg:Gl X "enumerate")(hm:X.mg "enumerate"=none)(ha:PE X a (tD X O ev))(hs:starEach [a] X.env=[(false,eval a X.env)]:=by rfl):PI X (.Tuple elts x1 cL) (.Call (.Name "enumerate" p) [a] [] pos) (tI X O (VD ev)):=PI.imp (Qqh hg hm (Q6 ha ZV hs) hs) λσ H R⟨F0,F,en,ds0,rs,z,k⟩=>by obtain⟨d,e1,e2⟩:=QL z;obtain⟨ds,e3,rfl⟩:=JI e2;refine⟨F0,F,en,d,rs,e1,λv F1 H1 g1 r1=>?_⟩;have fin:∀(l:Addr)(xs:List V),SqL X.K F1 l xs->Reps X.K F1 xs ds->R (Ite X.K l) H1:=λl xs hl r=>k F1 H1 _ g1 ⟨λi F' H' s s' hi=>by rw[Qd4]at hi;obtain⟨v,h1,_⟩:=r.get (getElem?_eq_getElem hi);exact⟨xs,v,s'.sqL (s.sqL hl),h1⟩,λi F' H' x H2 s s' hi hy=>by obtain⟨p,y,hp,rfl,rfl,hx⟩:=hy;have fG:=hx xs (s'.sqL (s.sqL hl));obtain⟨d,h1,h2⟩:=r.getV fG;have g:=Gr.new s' hp (.tup [.int i,y]);refine⟨_,.tup [.int i,d],g,?_,.tup QB (.cons (.int _) (.cons ((h2.mono s).mono g.ff) .nil))⟩;have:=Qg7 ds 0 i d h1;rw[this,Nat.zero_add],λi F' H' s s' hi=>⟨xs,s'.sqL (s.sqL hl),by rw[Qd4]at hi;rw[r.length];exact hi⟩⟩;cases r1 with|@lst l xs bR hl r=>cases e3;exact⟨l,rfl,⟨xs,SqL.of (g1.fh _ _ hl)⟩,fin l xs (SqL.of hl) r⟩|@scr l ns hl=>cases e3;exact⟨l,rfl,⟨_,g1.fh.sqL hl⟩,fin l _ hl (Reps.ints ns)⟩|_=>cases e3
end
section
variable{env:Env}
theorem Qdp:∀(names:List (Str×NameKind))(cs:List (Str×Addr)),(∀x∈names,x.2=.free->∃c,env.cells.lookup x.1=some c)->(∀x c,cs.lookup x=some c->env.cells.lookup x=some c)->∃cl,(forIn (m:=Sem) names cs ((λx r=>match x with|(name,kind)=>if(kind==NameKind.free)=true then do let c<-cellOf env name;pure (ForInStep.yield ((name,c)::r))else pure (ForInStep.yield r)):(Str×NameKind)->List (Str×Addr)->Sem (ForInStep (List (Str×Addr)))))=pure cl/\(∀x c,cl.lookup x=some c->env.cells.lookup x=some c)/\∀x,((∃c,cs.lookup x=some c)\/(x,NameKind.free)∈names)->∃c,cl.lookup x=some c
 |[],cs,_,hP=>⟨cs,rfl,hP,λx h=>by
   rcases h with h|h;·exact h
   ·cases h⟩|(n,k)::names,cs,hf,hP=>by
  rw[List.forIn_cons];by_cases hk:k=.free
  ·subst hk;obtain⟨c,hc⟩:=hf (n,.free) mem_cons_self rfl;have bO:cellOf env n=pure c:=by unfold cellOf;rw[hc]
   obtain⟨cl,h1,h2,h3⟩:=Qdp names ((n,c)::cs) (λx hx=>hf x (mem_cons_of_mem _ hx)) (λx c' h=>by
    rw[lookup_cons]at h;split at h
    ·rename_i z;cases h;rw[eq_of_beq z];exact hc
    ·exact hP x c' h);refine⟨cl,?_,h2,λx h=>h3 x ?_⟩
   ·rw[<-h1];simp only[beq_self_eq_true,if_true,bO];rfl
   ·rcases h with⟨c',h⟩|h
    ·left;rw[lookup_cons];split;·exact⟨_,rfl⟩
     ·exact⟨c',h⟩
    ·rcases List.mem_cons.mp h with h|h
     ·cases h;left;exact⟨c,by simp⟩
     ·exact .inr h
  ·have hb:(k==NameKind.free)=false:=by simpa using hk
   obtain⟨cl,h1,h2,h3⟩:=Qdp names cs (λx hx=>hf x (mem_cons_of_mem _ hx)) hP;refine⟨cl,?_,h2,λx h=>h3 x ?_⟩
   ·rw[<-h1];simp only[hb,Bool.false_eq_true,if_false];rfl
   ·rcases h with h|h;·exact .inl h
    ·rcases List.mem_cons.mp h with h|h
     ·cases h;exact absurd rfl hk
     ·exact .inr h
theorem QhB{scope:Scope}(hf:∀x∈scope.names,x.2=.free->∃c,env.cells.lookup x.1=some c):∃cl,closureFor scope env=pure cl/\(∀x c,cl.lookup x=some c->env.cells.lookup x=some c)/\∀x,(x,NameKind.free)∈scope.names->∃c,cl.lookup x=some c:=by obtain⟨cl,h1,h2,h3⟩:=Qdp scope.names [] hf (λx c h=>by cases h);refine⟨cl,?_,h2,λx h=>h3 x (.inr h)⟩;have e:closureFor scope env=((forIn (m:=Sem) scope.names [] ((λx r=>match x with|(name,kind)=>if(kind==NameKind.free)=true then do let c<-cellOf env name;pure (ForInStep.yield ((name,c)::r))else pure (ForInStep.yield r)):(Str×NameKind)->List (Str×Addr)->Sem (ForInStep (List (Str×Addr)))))>>=λr=>pure r):=rfl;rw[e,h1];rfl
theorem QaC(env:Env):∀(names:List (Str×NameKind))(x:Str),(names.map λ(n,k)=>if(k==NameKind.free&&env.scope.kind==.function&&env.kindOf n==some .cell)then(n,NameKind.cell)else(n,k)).lookup x=(names.lookup x).map λk=>if(k==NameKind.free&&env.scope.kind==.function&&env.kindOf x==some .cell)then NameKind.cell else k
 |[],_=>rfl|(n,k)::names,x=>by
  have ih:=QaC env names x;rw[map_cons,lookup_cons];show List.lookup x ((if(k==NameKind.free&&env.scope.kind==.function&&env.kindOf n==some .cell)=true then(n,NameKind.cell)else(n,k))::_)=_;cases hx:x==n with
  |true=>
   have:=eq_of_beq hx;subst this;by_cases hc:(k==NameKind.free&&env.scope.kind==.function&&env.kindOf x==some .cell)=true
   ·rw[if_pos hc,lookup_cons,hx];rw[lookup_cons,hx];simp only[map_some];rw[if_pos hc]
   ·rw[if_neg hc,lookup_cons,hx];rw[lookup_cons,hx];simp only[map_some];rw[if_neg hc]|false=>
   by_cases hc:(k==NameKind.free&&env.scope.kind==.function&&env.kindOf n==some .cell)=true;·rw[if_pos hc,lookup_cons,lookup_cons,hx];exact ih
   ·rw[if_neg hc,lookup_cons,lookup_cons,hx];exact ih
theorem mem_of_lookup{α β:Type}[BEq α][LawfulBEq α]:∀{l:List (α×β)}{x:α}{y:β},l.lookup x=some y->(x,y)∈l
 |[],_,_,h=>by cases h|(a,b)::l,x,y,h=>by
  rw[lookup_cons]at h;split at h;·rename_i z;cases h;rw[eq_of_beq z];exact mem_cons_self
  ·exact mem_cons_of_mem _ (mem_of_lookup h)
end
noncomputable def Qbx(X:Cx)(scope:Scope)(N':List Str)(cl:List (Str×Addr))(C:Addr)(ex:List Addr)(s:Shared)(H:Hp)(pn:List (Addr×Obj)):Cx:={X with N:=N',env:=compEnvC scope cl C X.env,s₀:=s,H₀:=H,ag:=X.stack,ex:=ex,fn:=λ_=>false,pn:=pn,xe:=λ_ _=>False}
structure CompSc(X:Cx)(scope:Scope)(n:Nat)(N':List Str)(caps:List Nat):Prop where
 kind:scope.kind=.function
 nocell:∀y∈scope.names,y.2≠.cell
 loc:∀x∈scope.names,x.2=.local->scope.names.lookup x.1=some .local
 fre:∀x∈scope.names,x.2=.free->X.env.kindOf x.1=some .cell\/X.env.kindOf x.1=some .free
 len:N'.length=n+caps.length
 cap:∀(j i:Nat),caps[j]?=some i->∃x,N'[n+j]?=some x/\X.N[i]?=some x/\scope.names.lookup x=some .free
 nd:N'.Nodup
section
variable{X:Cx}{aa:List (Addr×Obj)}{σ:L2.St}{H:Hp}{s:Shared}{scope:Scope}{n:Nat}{N':List Str}{caps:List Nat}{cl:List (Str×Addr)}{C:Addr}{ex:List Addr}
theorem QnE(S:CompSc X scope n N' caps){x:Str}(h:(compEnvC scope cl C X.env).kindOf x=some .cell\/(compEnvC scope cl C X.env).kindOf x=some .free):(x,NameKind.free)∈scope.names:=by have e:(compEnvC scope cl C X.env).kindOf x=(scope.names.lookup x).map λk=>if(k==NameKind.free&&X.env.scope.kind==.function&&X.env.kindOf x==some .cell)then NameKind.cell else k:=QaC X.env scope.names x;rw[e]at h;cases q:scope.names.lookup x with|none=>rw[q]at h;rcases h with h|h<;>cases h|some k=>have m:=mem_of_lookup q;cases k with|free=>exact m|cell=>exact absurd rfl (S.nocell _ m)|_=>rw[q]at h;rcases h with h|h<;>simp at h
theorem QnF(I:Inv X aa σ H s)(S:CompSc X scope n N' caps)(hC:s.heap.objs.size<=C)(b8:∀x c,cl.lookup x=some c->X.env.cells.lookup x=some c)(cC:∀x,(x,NameKind.free)∈scope.names->∃c,cl.lookup x=some c)(hex:∀b∈ex,VR X aa H b/\b≠C)(pn:List (Addr×Obj)):(Qbx X scope N' cl C ex s H pn).Ok where
 mod:=I.ok.mod
 kind:=S.kind
 glob:=I.ok.glob
 blt:=I.ok.blt
 above:=hC
 inj:=λx y c h1 h2=>I.ok.inj x y c (b8 x c h1) (b8 y c h2)
 has:=λx h=>cC x (QnE (cl:=cl) (C:=C) S h)
 cab:=λx c h=>by cases h
 hd:=I.ok.hd
 frames:=I.ok.frames
 stk:=.inl rfl
 exf:=λb hb=>⟨(hex b hb).2,λx c h=>(hex b hb).1.2.2.2.2.1 x c (b8 x c h)⟩
 bs:=I.bs
 bsz:=le_trans I.ok.bsz I.sz
 noex:=λb o e hb=>by
  rcases(hex b hb).1.2.2.2.1 with z|z;·exact I.ok.noex b o e z
  ·exact absurd (lt_of_lt_of_le (Heap.lt_size e) (le_trans I.ok.bsz z)) (lt_irrefl _)
 exfs:=λb hb hf=>by
  obtain⟨⟨_,h1,h2,_⟩,_⟩:=hex b hb;rcases List.mem_cons.mp (I.stkSub b hf)with z|z;·exact h1 z
  ·exact h2 z
 funs:=I.stack
 frf:=I.stkFree
end
theorem QnD{prog:Program}{w:World}{A:Around}{R:Result->Shared->Prop}{s:Shared}{elt target iter:Expr}{ifs:List Expr}{scope:Scope}{pos:Pos}{it acc:Value}{env:Env}{E:Value->Shared->Prop}(hE:∀x s,¬E x s)(J:Nat->Shared->Prop)(turn:∀n s,J n s->wpAny (model prog w) A (pyNext it) (λr s₁=>match r with|none=>R (.ok .next) s₁|some v=>wpAny (model prog w) A (letOwnedTupleGo target it v) (λ_ s₁=>wpAny (model prog w) A (assign target env v) (λ_ s₂=>wpAny (model prog w) A (forIn ifs true λc r=>if r=true then do let ok<-isTrue c env (eval c env);pure (ForInStep.yield ok)else pure (ForInStep.yield r)) (λok s₃=>if ok=true then wpAny (model prog w) A (eval elt env) (λx s₄=>wpAny (model prog w) A (call (.builtin "list.append") [acc,x]) (λ_ s₅=>∃m,m<n/\J m s₅) E s₄) E s₃ else∃m,m<n/\J m s₃) E s₂) E s₁) E s₁) E s)(n:Nat)(h:J n s):codeAny (model prog w) A (.compLoop (.ListComp elt [⟨target,iter,ifs,0⟩] scope pos) 0 it acc env) R s:=by have no:∀{E':Value->Shared->Prop}x s,E x s->E' x s:=λx s h=>absurd h (hE x s);refine codeAny_loop rfl J (λn s hI=>?_) n h;show wpAny _ A ((compTurn (.ListComp elt [⟨target,iter,ifs,0⟩] scope pos) 0 it acc env).onRaise (λx=>do noteFrame x env;theTreesLotGoes x)) _ _ s;refine wpAny_noted ?_;rw[compTurn_list];refine wpAny_bind (wpAny_standAt (wpAny_bind (wpAny_mono (turn n s hI) (λr s₁ h₁=>?_) λx s h'=>no x s h')));cases r with|none=>exact wpAny_pure h₁|some v=>refine wpAny_bind (wpAny_mono h₁ (λ_ s₂ h₂=>wpAny_bind (wpAny_mono h₂ (λ_ s₂ h₂=>wpAny_bind (wpAny_mono h₂ (λok s₃ h₃=>?_) λx s h'=>no x s h')) λx s h'=>no x s h')) λx s h'=>no x s h');cases ok with|false=>exact wpAny_pure ⟨rfl,h₃⟩|true=>exact wpAny_bind (wpAny_bind (wpAny_mono h₃ (λx s₄ h₄=>wpAny_bind (wpAny_mono h₄ (λ_ s₅ h₅=>wpAny_pure (wpAny_pure ⟨rfl,h₅⟩)) λx s h'=>no x s h')) λx s h'=>no x s h'))
def PIf(X:Cx)(ifs:List Expr)(t:TT):Prop:=∀(aa:List (Addr×Obj))(s:Shared)(σ:L2.St)(H:Hp)(Q:Bool->Hp->Prop),Inv X aa σ H s->t σ H Q->wpAny (model X.prog X.w) X.A (forIn ifs true λc r=>if r=true then do let ok<-isTrue c X.env (eval c X.env);pure (ForInStep.yield ok)else pure (ForInStep.yield r)) (TP X aa σ Q) X.xe s
section
variable{X:Cx}
theorem Zg{O:List Nat}:PIf X [] (tDT X O (eC (.bl true))):=λaa s σ H Q I⟨F0,F,en,b,rs,w,k⟩=>by cases w;exact wpAny_pure ⟨H,I,k F H (.refl rs.fh)⟩
theorem Vp{O:List Nat}{c:Expr}{ev:EvE}(h:PT X c (tDT X O ev)):PIf X [c] (tDT X O ev):=λaa s σ H Q I t=>by simp only[List.forIn_cons,List.forIn_nil,if_true];exact wpAny_bind (wpAny_bind (wpAny_mono (h aa s σ H Q I t) (λb s' hb=>wpAny_pure (wpAny_pure hb)) λ_ _ x=>x))
end
section
variable{X:Cx}{aa:List (Addr×Obj)}{σ:L2.St}{H:Hp}{s:Shared}{scope:Scope}{n:Nat}{N':List Str}{caps:List Nat}{cl:List (Str×Addr)}{fp:List Addr}
noncomputable def QdI(n:Nat)(caps:List Nat)(σ:L2.St):L2.St:=List.replicate n none++caps.map λi=>(σ[i]?).join
theorem QlV(I:Inv X aa σ H s)(S:CompSc X scope n N' caps)(b8:∀x c,cl.lookup x=some c->X.env.cells.lookup x=some c)(cC:∀x,(x,NameKind.free)∈scope.names->∃c,cl.lookup x=some c)(eu:∀b∈fp,VR X aa H b/\b<s.heap.objs.size){h1:Heap}{tk:Nat}(cE:h1.Ns (s.heap.objs.size+1) λ_=>none)(old:∀b o,(s.heap.push {cls:=.type "list",data:=.seq #[]}).get? b=some o->h1.get? b=some o):Inv (Qbx X scope N' cl (s.heap.objs.size+1) (s.heap.objs.size::fp) {s with heap:=s.heap.push {cls:=.type "list",data:=.seq #[]}} H (X.pn++aa)) [] (QdI n caps σ) (upd H s.heap.objs.size (.lst [])) {s with heap:=h1,toks:=tk}:=by
 have hz:(s.heap.push {cls:=.type "list",data:=.seq #[]}).objs.size=s.heap.objs.size+1:=Heap.size_push ..;have up:∀b o,s.heap.get? b=some o->h1.get? b=some o:=λb o e=>old b o (Heap.get?_push_of_some _ e);have bG:H s.heap.objs.size=none:=I.hok.fresh (le_refl _);have hC:H (s.heap.objs.size+1)=none:=I.hok.fresh (le_succ _);have I3:Inv X aa σ H {s with heap:=s.heap.push {cls:=.type "list",data:=.seq #[]}}:=I.kept (t':=s.toks) λb o e=>Heap.get?_push_of_some _ e;have eQ:∀x c,X.env.cells.lookup x=some c->c<s.heap.objs.size:=λx c e=>by
  obtain⟨v,o,ho,_⟩:=I.cell x c e;exact Heap.lt_size ho
 refine⟨QnF I3 S (by rw[hz];exact le_refl _) b8 cC (λb hb=>?_) _,rfl,I.bare,⟨λb o e _ _ _=>old b o e,λb o e _ _ _=>⟨o.slots,old b o e⟩,λb o e n hb=>?_,λb o e _=>⟨o,old b o e⟩,λb xs e=>?_,λb o u e=>?_,λb ps e=>⟨#[],?_⟩⟩,⟨_,cE,λi x v e1 e2 _=>?_⟩,λx c e=>?_,?_,λx c e=>?_,λp hp=>?_,I.hok.laid up (le_refl _) ⟨zero_le _,[],0,.nil,old _ _ (Heap.get?_push_size _ rfl)⟩,?_⟩
 ·rcases List.mem_cons.mp hb with z|z;·subst z;exact⟨I.fpOk (le_refl _) bG,ne_of_lt (Nat.lt_succ_self _)⟩
  ·exact⟨(eu b z).1,ne_of_lt (lt_succ_of_lt (eu b z).2)⟩
 ·rw[Qt (λz=>hb (by rw[z];exact mem_cons_self))];exact n
 ·rw[Qt (JF e bG)];exact e
 ·rw[Qt (JF e bG)];exact e
 ·have e':H b=some (.tbl ps):=e;rw[Qt (JF e' bG),e'];simp
 ·unfold QdI at e2;rcases lt_or_ge i n with hi|hi
  ·rw[getElem?_append_left (by simpa using hi),getElem?_replicate,if_pos hi]at e2;cases e2
  ·rw[getElem?_append_right (by simpa using hi),length_replicate,getElem?_map]at e2;cases q:caps[i-n]? with
   |none=>rw[q]at e2;cases e2|some j=>
    rw[q]at e2;obtain⟨x',f1,f2,f3⟩:=S.cap (i-n) j q;rw[show n+(i-n)=i by omega]at f1;have j0:N'[i]?=some x:=e1;rw[f1]at j0;cases j0;have fY:(σ[j]?).join=some v:=Option.some.inj e2;have e3:σ[j]?=some (some v):=by cases w:σ[j]? with|none=>rw[w]at fY;cases fY|some o=>rw[w]at fY;cases o with|none=>cases fY|some u=>cases fY;rfl
    have hm:=mem_of_lookup f3;have kx:=S.fre _ hm rfl;obtain⟨m,_,hl⟩:=I.loc;obtain⟨u,r,lk⟩:=hl j x v f2 e3 (by
     rcases kx with z|z;·exact .inr (.inl z)
     ·exact .inr (.inr z));refine⟨u,r,.inr ⟨?_,?_⟩⟩
    ·have e:(compEnvC scope cl (s.heap.objs.size+1) X.env).kindOf x=(scope.names.lookup x).map λk=>if(k==NameKind.free&&X.env.scope.kind==.function&&X.env.kindOf x==some .cell)then NameKind.cell else k:=QaC X.env scope.names x;have e':(compEnvC scope cl (s.heap.objs.size+1) X.env).kindOf x=some (if(NameKind.free==NameKind.free&&X.env.scope.kind==.function&&X.env.kindOf x==some .cell)then NameKind.cell else NameKind.free):=by rw[e,f3];rfl
     show(compEnvC scope cl (s.heap.objs.size+1) X.env).kindOf x=some .cell\/(compEnvC scope cl (s.heap.objs.size+1) X.env).kindOf x=some .free;rw[e'];split;·exact .inl rfl
     ·exact .inr rfl
    ·obtain⟨c,hc⟩:=cC x hm;rcases lk with⟨z,_⟩|⟨_,c',fQ,o,ho,hd⟩;·rcases kx with w|w<;>(rw[z]at w;cases w)
     ·have:=b8 x c hc;rw[fQ]at this;cases this;exact⟨c,hc,o,up c o ho,hd⟩
 ·obtain⟨v,o,ho,hd⟩:=I.cell x c (b8 x c e);exact⟨v,o,up c o ho,hd⟩
 ·show upd H s.heap.objs.size (.lst []) (s.heap.objs.size+1)=none;rw[Qt (Nat.succ_ne_self _)];exact hC
 ·rw[Qt (ne_of_lt (eQ x c (b8 x c e)))];exact I.freeC x c (b8 x c e)
 ·have kS:p∈X.pn++aa:=by simpa[Qbx]using hp
  obtain⟨k1,k2,k3,k4,k5⟩:=I.pin p kS;have lt:p.1<s.heap.objs.size:=Heap.lt_size k1;refine⟨up _ _ k1,?_,ne_of_lt (lt_succ_of_lt lt),λhb=>?_,k5⟩;·rw[Qt (ne_of_lt lt)];exact k2
  ·rcases List.mem_cons.mp (I.stkSub _ hb)with z|z;·exact k3 z
   ·exact k4 z
 ·show(QdI n caps σ).length=N'.length;rw[S.len];simp[QdI]
end
def Qba(X:Cx)(scope:Scope)(N':List Str)(P:Cx->Prop):Prop:=∀(cl:List (Str×Addr))(C:Addr)(ex:List Addr)(s:Shared)(H:Hp)(pn:List (Addr×Obj)),P (Qbx X scope N' cl C ex s H pn)
section
variable{X:Cx}{O:List Nat}{scope:Scope}{n:Nat}{N':List Str}{caps:List Nat}{tg iter elt:Expr}{ifs:List Expr}{pos:Pos}{it:EvI}{g:EvG}{c el:EvE}
theorem QrJ{K:Fg}{H₀:Hp}{F0:Fz}{F H:Hp}{σ:L2.St}{en:Qh}(r:RS K H₀ F0 F H σ en O)(hO:∀i∈caps,i∉O):RS K H ⟨F,H,none⟩ F H (QdI n caps σ) (Qci n caps en) []where
 fh:=r.fh
 hh:=.refl H
 ff:=.refl F
 fr:=λ_ _ h=>.inl h
 slot:=λi d h _=>by
  unfold Qci at h;unfold QdI;rcases lt_or_ge i n with hi|hi;·rw[getElem?_append_left (by simpa using hi),getElem?_replicate,if_pos hi]at h;cases h
  ·rw[getElem?_append_right (by simpa using hi),length_replicate,getElem?_map]at h;rw[getElem?_append_right (by simpa using hi),length_replicate,getElem?_map];cases q:caps[i-n]? with
   |none=>rw[q]at h;cases h|some j=>
    rw[q]at h;have h':(en[j]?).join=some d:=Option.some.inj h;have e3:en[j]?=some (some d):=by cases w:en[j]? with|none=>rw[w]at h';cases h'|some o=>rw[w]at h';cases o with|none=>cases h'|some u=>cases h';rfl
    have hj:j∈caps:=List.mem_of_getElem? q;obtain⟨v,h1,h2⟩:=r.slot j d e3 (hO j hj);refine⟨v,?_,h2⟩;simp[h1]
 own:=λi d _ h=>by cases h
 dis:=λi j p _ _ h=>by cases h
 pin:=λi h=>by cases h
 len:=by unfold QdI Qci;simp
theorem Ql6{K:Fg}{H₀:Hp}{F0:Fz}{F H:Hp}{σ:L2.St}{en:Qh}{p:Addr}{o:HO}(r:RS K H₀ F0 F H σ en [])(h0:F0.h p=none)(hf:F p=none):RS K H₀ F0 F (upd H p o) σ en []where
 fh:=r.fh.upd o hf
 hh:=r.hh.upd o h0
 ff:=r.ff
 fr:=r.fr
 slot:=r.slot
 own:=λi d _ h=>by cases h
 dis:=λi j p _ _ h=>by cases h
 pin:=λi h=>by cases h
 len:=r.len
theorem Qo8{α:Type}{o:Option D}{x y:Option α}{r:α}(h:ifO o x y=some r):∃b,o=some (.bl b)/\(b=true->x=some r)/\(b=false->y=some r):=by
 obtain⟨b,h1,h2⟩:=Vb h;refine⟨b,h1,λz=>?_,λz=>?_⟩;·subst z;exact h2
 ·subst z;exact h2
structure ItOkH(K:Fg)(F H:Hp)(J:It)(ds:List D):Prop where
 go:∀i F' H',Sm F F'->Sm F' H'->Sm H H'->i<ds.length->J.go i H'
 yld:∀i F' H' x H2,Sm F F'->Sm F' H'->Sm H H'->i<ds.length->J.yld i H' x H2->∃F2 d,Gr F' H' F2 H2/\ds[i]?=some d/\Rep K F2 x d
 stop:∀i F' H',Sm F F'->Sm F' H'->Sm H H'->ds.length<=i->J.stop i H'
noncomputable def tIH(X:Cx)(O:List Nat)(it:EvI):TI:=λσ H R=>∃F0 F e ds,RS X.K X.H₀ F0 F H σ e O/\it e=some ds/\∀F' H' J,Gr F H F' H'->ItOkH X.K F' H' J ds->R J H'
theorem dih(h:PI X tg iter (tI X O it)):PI X tg iter (tIH X O it):=PI.imp h λσ H R⟨F0,F,en,ds,rs,z,k⟩=>⟨F0,F,en,ds,rs,z,λF' H' J g io=>k F' H' J g ⟨λi F2 H2 a b _=>io.go i F2 H2 a b,λi F2 H2 x H3 a b _=>io.yld i F2 H2 x H3 a b,λi F2 H2 a b _=>io.stop i F2 H2 a b⟩⟩
theorem QsF(i:Nat){x:Str}{p:Pos}(hN:X.N[i]?=some x:=by rfl)(hv:Vis X.env.scope x:=by first|exact Or.inl rfl|exact Or.inr (Or.inl rfl)|exact Or.inr (Or.inr rfl))(hd:(x==("__debug__":Str))=false:=by decide)(bC:(x==("__classdict__":Str))=false:=by decide):PI X tg (.Name x p) (tIH X O (QC (eV i))):=PI.imp (Qkg (Jk (O:=O) i hN hv hd bC)) λσ H R⟨F0,F,en,ds,rs,z,k⟩=>by obtain⟨d,e1,e2⟩:=QL z;refine⟨F0,F,en,d,rs,e1,λv F1 H1 g1 r1=>?_⟩;have fin:∀(a:Addr)(xs:List V),SqL X.K H1 a xs->Reps X.K F1 xs ds->R (Itl X.K a) H1:=λa xs ha r=>k F1 H1 _ g1 ⟨λi F' H' s s' sh hi=>by obtain⟨v,h1,_⟩:=r.get (getElem?_eq_getElem hi);exact⟨xs,v,sh.sqL ha,h1⟩,λi F' H' x H2 s s' sh hi⟨hH,hx⟩=>by subst hH;have fG:=hx xs (sh.sqL ha);obtain⟨d,h1,h2⟩:=r.getV fG;exact⟨F',d,.refl s',h1,h2.mono s⟩,λi F' H' s s' sh hi=>⟨xs,sh.sqL ha,by rw[r.length];exact hi⟩⟩;cases d with|lst bR=>cases e2;obtain⟨a,xs,rfl,h,r⟩:=r1.lst g1.fh;exact⟨a,rfl,⟨xs,SqL.of h⟩,fin a xs (SqL.of h) r⟩|scr ns=>cases e2;obtain⟨a,rfl,h⟩:=r1.scr;exact⟨a,rfl,⟨_,g1.fh.sqL h⟩,fin a _ (g1.fh.sqL h) (Reps.ints ns)⟩|_=>cases e2
theorem Qhb(hx:X.xe=λ_ _=>False)(hc:X.calm=true)(S:CompSc X scope n N' caps)(hO:∀i∈caps,i∉O)(hi:PI X tg iter (tIH X O it))(hg:Qba X scope N' λY=>PG Y tg (tG Y [] [] g))(ht:Qba X scope N' λY=>PIf Y ifs (tDT Y [] c))(he:Qba X scope N' λY=>PE Y elt (tD Y [] el))(hs:∀x,foldedSetIterable iter X.env x=pure x){use:Option (Value->Sem Unit)}{Qv:Value->Shared->Prop}{ak:Pos}{aa:List (Addr×Obj)}{σ:L2.St}{H:Hp}{s:Shared}(I:Inv X aa σ H s){F0:Fz}{F:Hp}{en:Qh}{ds tot:List D}(rs:RS X.K X.H₀ F0 F H σ en O)(e1:it en=some ds)(hlen:ds.length<=lI)(e3:VU g c el ds (Qci n caps en)=some tot)(jl:∀acc C s' H' F' xs m,H acc=none->Inv X aa σ H' s'->VR X aa H' C->s'.heap.Ns C m->Gr F H F' H'->F' acc=none->H' acc=some (.lst xs)->Reps X.K F' xs tot->compPost (model X.prog X.w) X.A X.xe use Qv (.ref acc) C (.ok .next) s'):wpAny (model X.prog X.w) X.A (comprehension (.ListComp elt [⟨tg,iter,ifs,0⟩] scope pos) scope X.env ak (newList []) false (eval iter X.env) use) Qv X.xe s:=by
 obtain⟨cl,jj,b8,cC⟩:=QhB (scope:=scope) (env:=X.env) λx hx hk=>I.ok.has x.1 (S.fre x hx hk);refine wpAny_comprehension_free (use:=use) rfl hs jj S.kind S.loc ?_;refine thn (hi aa s σ H _ I ⟨F0,F,en,ds,rs,e1,λF' H' J gr io=>⟨F',gr,io⟩⟩:wpAny (model X.prog X.w) X.A (eval iter X.env) (λv s1=>wpAny (model X.prog X.w) X.A (pyIter v) (PIE X aa σ tg λJ H'=>∃F',Gr F H F' H'/\ItOkH X.K F' H' J ds) X.xe s1) X.xe s) λv s1 h1=>?_;refine thn h1 λhG s2 h2=>?_;obtain⟨hJ,fp,tn,J,H2,rfl,I2,T,dB,f2,F2,gr,io⟩:=h2;have fW:∀b∈fp,VR X aa H2 b/\b<s2.heap.objs.size:=λb hb=>by
  obtain⟨o,ho,_⟩:=T.obj 0 _ dB b hb;exact⟨f2 b hb,Heap.lt_size ho⟩
 have bG:H2 s2.heap.objs.size=none:=I2.hok.fresh (le_refl _);have hz:(s2.heap.push {cls:=.type "list",data:=.seq #[]}).objs.size=s2.heap.objs.size+1:=Heap.size_push ..;refine wpAny_newObj_type (wpAny_newFunctionEnv S.nocell (by intro y hy;simp at hy) (λh1 gc f9=>?_) S.kind);dsimp only at gc f9⊢;have cE:h1.Ns (s2.heap.objs.size+1) λ_=>none:=by
  have q:=gc;rw[hz]at q;exact q
 have old:∀b o,(s2.heap.push {cls:=.type "list",data:=.seq #[]}).get? b=some o->h1.get? b=some o:=λb o e=>f9.extBut b o (ne_of_lt (Heap.lt_size e)) (Heap.get?_push_of_some _ e);have I4:=QlV (tk:=s2.toks+([]:List (Str×Value)).length) I2 S b8 cC fW cE old;have loop:∀(R:Result->Shared->Prop),(∀s' H' F' xs m,Inv (Qbx X scope N' cl (s2.heap.objs.size+1) (s2.heap.objs.size::fp) {s2 with heap:=s2.heap.push {cls:=.type "list",data:=.seq #[]}} H2 (X.pn++aa)) [] m H' s'->Gr F2 H2 F' H'->F' s2.heap.objs.size=none->H' s2.heap.objs.size=some (.lst xs)->Reps X.K F' xs tot->R (.ok .next) s')->codeAny (model X.prog X.w) X.A (.compLoop (.ListComp elt [⟨tg,iter,ifs,0⟩] scope pos) 0 (.ref hJ) (.ref s2.heap.objs.size) (compEnvC scope cl (s2.heap.objs.size+1) X.env)) R {s2 with heap:=h1,toks:=s2.toks+([]:List (Str×Value)).length}:=by
  intro R hR;have gY:=hg cl (s2.heap.objs.size+1) (s2.heap.objs.size::fp) {s2 with heap:=s2.heap.push {cls:=.type "list",data:=.seq #[]}} H2 (X.pn++aa);have tY:=ht cl (s2.heap.objs.size+1) (s2.heap.objs.size::fp) {s2 with heap:=s2.heap.push {cls:=.type "list",data:=.seq #[]}} H2 (X.pn++aa);have eY:=he cl (s2.heap.objs.size+1) (s2.heap.objs.size::fp) {s2 with heap:=s2.heap.push {cls:=.type "list",data:=.seq #[]}} H2 (X.pn++aa);generalize hY:Qbx X scope N' cl (s2.heap.objs.size+1) (s2.heap.objs.size::fp) {s2 with heap:=s2.heap.push {cls:=.type "list",data:=.seq #[]}} H2 (X.pn++aa)=Y at I4 gY tY eY hR;have yK:Y.K=X.K:=by rw[<-hY];rfl
  have yP:Y.prog=X.prog:=by rw[<-hY];rfl
  have yW:Y.w=X.w:=by rw[<-hY];rfl
  have yA:Y.A=X.A:=by rw[<-hY];rfl
  have yH:Y.H₀=H2:=by rw[<-hY];rfl
  have yE:Y.env=compEnvC scope cl (s2.heap.objs.size+1) X.env:=by rw[<-hY];rfl
  have yX:Y.xe=λ_ _=>False:=by rw[<-hY];rfl
  have yc:Y.calm=true:=by rw[<-hY];exact hc
  have yf:Y.fs=frs X.stack:=by rw[<-hY];rfl
  have yx:Y.ex=s2.heap.objs.size::fp:=by rw[<-hY];rfl
  have yp:Y.pn=X.pn++aa:=by rw[<-hY];rfl
  have stat:∀{H':Hp},(∀b∈fp,H' b=none)->∀b∈fp,VR Y [] H' b:=λhn b hb=>by
   obtain⟨⟨_,q1,q2,q3,q4,q5⟩,q6⟩:=fW b hb;refine⟨hn b hb,?_,?_,.inl ?_,λx c e=>?_,λp hp=>q5 p ?_⟩;·rw[yE];exact ne_of_lt (lt_succ_of_lt q6)
   ·rw[yf];intro hf;rcases List.mem_cons.mp (I2.stkSub b hf)with w|w;·exact q1 w
    ·exact q2 w
   ·rw[yx];exact mem_cons_of_mem _ hb
   ·rw[yE]at e;exact q4 x c (b8 x c e)
   ·rw[yp]at hp;simpa using hp
  rw[<-yP,<-yW,<-yA,<-yE];have T':Turn Y.prog Y.w Y.K tg J fp hJ tn:=by rw[yP,yW,yK];exact T
  have i6:∀b∈fp,b≠s2.heap.objs.size:=λb hb=>ne_of_lt (fW b hb).2;refine QnD (E:=Y.xe) (λx s h=>by rw[yX]at h;exact h) (λm s'=>∃i σ' H' F' cc xs done rest,m=ds.length-i/\i<=ds.length/\Inv Y [] σ' H' s'/\tn i s'.heap/\(∀b∈fp,H' b=none)/\RS X.K H2 ⟨F2,H2,none⟩ F' H' σ' cc []/\H' s2.heap.objs.size=some (.lst xs)/\F' s2.heap.objs.size=none/\Reps X.K F' xs done/\VU g c el (ds.drop i) cc=some rest/\done++rest=tot/\done.length<=i) ?_ ds.length ⟨0,QdI n caps σ,_,F2,Qci n caps en,[],[],tot,by omega,by omega,I4,T.keep 0 _ _ dB (λb hb o e=>old b o (Heap.get?_push_of_some _ e)),λb hb=>?_,Ql6 (QrJ (rs.grow gr) hO) bG ((rs.grow gr).fh.none bG),QB,(rs.grow gr).fh.none bG,.nil,by rw[drop_zero];exact e3,rfl,le_refl _⟩
  ·rintro m s3⟨i,σ3,H3,F3,iS,xs,done,rest,rfl,hle,I3,d7,fV,cU,iI,jS,r3,q3,dh,dl3⟩;have gQ:Gr F2 H2 F3 H3:=cU.ex.gr;rcases lt_or_ge i ds.length with hi|hi
   ·refine thn (T'.item Y rfl rfl rfl yc i [] s3 σ3 H3 Y.xe I3 (stat fV) d7 (io.go i F3 H3 gQ.ff cU.fh cU.hh hi)) λr s4⟨u,hr,h4⟩=>?_;subst hr;refine thn h4 λ_ s5⟨x,H5,I5,r5,y5,d6,iP⟩=>?_;obtain⟨F5,dx,g5,jO,kc⟩:=io.yld i F3 H3 x H5 gQ.ff cU.fh cU.hh hi y5;have iF:ds.drop i=dx::ds.drop (i+1):=by
     rw[List.drop_eq_getElem_cons hi];rw[getElem?_eq_getElem hi]at jO;cases jO;rfl
    rw[iF]at q3;obtain⟨fi,q4,q5⟩:=QL (show((g dx iS).bind λe1=>ifO (c e1) ((el e1).bind λx=>(VU g c el (ds.drop (i+1)) e1).map λr=>x::r) (VU g c el (ds.drop (i+1)) e1))=some rest from q3);obtain⟨b,q6,qt,qf⟩:=Qo8 q5;have iW:=I5.pinned (stat iP) (T.obj _ _ d6);have a5:H5 s2.heap.objs.size=some (.lst xs):=g5.hh _ _ iI;have n5:F5 s2.heap.objs.size=none:=by cases w:F5 s2.heap.objs.size with|none=>rfl|some o=>
      rcases g5.fr _ o w with z|z;·rw[jS]at z;cases z
      ·rw[iI]at z;cases z
    have ke:RS Y.K Y.H₀ ⟨F2,H2,none⟩ F5 H5 σ3 iS []:=by rw[yK,yH];exact cU.grow g5
    refine thn (gY _ s5 σ3 H5 x u (λσ' H'=>∃F',Gr F5 H5 F' H'/\RS Y.K Y.H₀ ⟨F2,H2,none⟩ F' H' σ' fi []) iW r5 ⟨⟨F2,H2,none⟩,F5,iS,dx,fi,ke,by rw[yK];exact kc,q4,λσ' H' F' g' r'=>⟨F',g',r'⟩⟩) λ_ s6⟨σ6,H6,I6,F6,g6,jt⟩=>?_;have cQ:∀{Fa Ha Fb Hb:Hp},Gr Fa Ha Fb Hb->Ha s2.heap.objs.size=some (.lst xs)->Fa s2.heap.objs.size=none->Hb s2.heap.objs.size=some (.lst xs)/\Fb s2.heap.objs.size=none:=λ{Fa Ha Fb Hb}gg ha fa=>by refine⟨gg.hh _ _ ha,?_⟩;cases w:Fb s2.heap.objs.size with|none=>rfl|some o=>
      rcases gg.fr _ o w with z|z;·rw[fa]at z;cases z
      ·rw[ha]at z;cases z
    obtain⟨a6,n6⟩:=cQ g6 a5 n5;refine thn (tY _ s6 σ6 H6 (λb' H'=>b'=b/\∃F',Gr F6 H6 F' H') I6 ⟨⟨F2,H2,none⟩,F6,fi,b,jt,q6,λF' H' g'=>⟨rfl,F',g'⟩⟩) λok s7⟨H7,I7,hb,F7,g7⟩=>?_;subst hb;obtain⟨a7,n7⟩:=cQ g7 a6 n6;have gA:=jt.grow g7;have jr:Sm F3 F7:=(g5.ff.trans g6.ff).trans g7.ff;have back:∀{σ8:L2.St}{H8:Hp}{s8:Shared},Inv Y ([]++QdL fp s5.heap) σ8 H8 s8->Inv Y [] σ8 H8 s8/\tn (i+1) s8.heap/\∀b∈fp,H8 b=none:=λ{σ8 H8 s8}I8=>by
     refine⟨I8.unpinned,T.keep _ _ _ d6 λb hb o e=>(I8.pin (b,o) (mem_append_right _ (mem_append_right _ (Qbc hb e)))).1,λb hb=>?_⟩;obtain⟨o,e,_⟩:=T.obj _ _ d6 b hb;exact(I8.pin (b,o) (mem_append_right _ (mem_append_right _ (Qbc hb e)))).2.1
    cases ok with
    |false=>rw[if_neg Bool.false_ne_true];obtain⟨k1,k2,k3⟩:=back I7;exact⟨_,by omega,i+1,σ6,H7,F7,fi,xs,done,rest,rfl,hi,k1,k2,k3,by rw[yK,yH]at gA;exact gA,a7,n7,r3.mono jr,qf rfl,dh,by omega⟩|true=>
     rw[if_pos rfl];obtain⟨dy,q8,q9⟩:=QL (qt rfl);obtain⟨gq,kh,kg⟩:=JI q9;refine thn (eY _ s7 σ6 H7 (λv' H'=>∃F',Gr F7 H7 F' H'/\Rep Y.K F' v' dy) I7 ⟨⟨F2,H2,none⟩,F7,fi,dy,gA,q8,λv' F' H' g' r'=>⟨F',g',r'⟩⟩) λy s8⟨y',H8,I8,ka,F8,g8,ju⟩=>?_;obtain⟨a8,n8⟩:=cQ g8 a7 n7;have js:=gA.grow g8;have j8:Sm F3 F8:=jr.trans g8.ff;have i8:xs.length<sizeLine:=by rw[Z5,r3.length];omega
     refine thn (QgT (X:=Y) _ s8 σ6 H8 (.ref s2.heap.objs.size) [y'] (.ref s2.heap.objs.size) [y] (λv' H'=>H'=upd H8 s2.heap.objs.size (.lst (xs++[y']))) I8 rfl (.cons ka .nil) ⟨_,xs,y',rfl,rfl,a8,i8,rfl⟩) λ_ s9⟨v9,H9,I9,_,lU⟩=>?_;subst lU;obtain⟨k1,k2,k3⟩:=back I9;rw[yK,yH]at js;rw[yK]at ju;refine⟨_,by omega,i+1,σ6,_,F8,fi,xs++[y'],done++[dy],gq,rfl,hi,k1,k2,k3,Ql6 js bG n8,QB,n8,(r3.mono j8).append (.cons ju .nil),kh,?_,?_⟩;·rw[append_assoc];rw[<-dh,<-kg];rfl
     ·rw[length_append,length_singleton];omega
   ·have kE:ds.drop i=[]:=drop_eq_nil_of_le hi;rw[kE]at q3;cases q3;rw[append_nil]at dh;subst dh;refine thn (T'.done Y rfl rfl rfl yc i [] s3 σ3 H3 Y.xe I3 (stat fV) d7 (io.stop i F3 H3 gQ.ff cU.fh cU.hh hi)) λr s4⟨hr,mH⟩=>?_;subst hr;exact hR s4 H3 F3 xs σ3 mH gQ jS iI r3
  ·rw[Qt (i6 b hb)];exact(fW b hb).1.1
 have I3:Inv X aa σ H2 {s2 with heap:=s2.heap.push {cls:=.type "list",data:=.seq #[]}}:=I2.kept (t':=s2.toks) λb o e=>Heap.get?_push_of_some _ e;have fin:∀s' H' F' xs m,Inv (Qbx X scope N' cl (s2.heap.objs.size+1) (s2.heap.objs.size::fp) {s2 with heap:=s2.heap.push {cls:=.type "list",data:=.seq #[]}} H2 (X.pn++aa)) [] m H' s'->Gr F2 H2 F' H'->F' s2.heap.objs.size=none->H' s2.heap.objs.size=some (.lst xs)->Reps X.K F' xs tot->compPost (model X.prog X.w) X.A X.xe use Qv (.ref s2.heap.objs.size) (s2.heap.objs.size+1) (.ok .next) s':=by
  intro s' H' F' xs m I' g' fa ha r';obtain⟨mm,fJ,_⟩:=id I'.loc;have fC:H' (s2.heap.objs.size+1)=none:=I'.free;have IX:Inv X aa σ H' s':=I3.call' (s':=s') (ch:=s2.heap.objs.size::fp) I'.os I'.ae I'.hok I'.bare λb hb=>by
   rcases List.mem_cons.mp hb with w|w
   ·obtain⟨_,q1,_,q3,q4,q5⟩:=I2.fpOk (b:=b) (H':=H2) (by rw[w];exact le_refl _) (by rw[w];exact bG);exact⟨q3,q1,q4,q5⟩
   ·obtain⟨⟨_,q1,_,q3,q4,q5⟩,_⟩:=fW b w;exact⟨q3,q1,q4,q5⟩
  exact jl s2.heap.objs.size (s2.heap.objs.size+1) s' H' F' xs mm (gr.hh.none bG) IX (I2.fpOk (H':=H') (le_succ _) fC) fJ (gr.trans g') fa ha r'
 have cT:tn 0 h1:=T.keep 0 _ _ dB (λb hb o e=>old b o (Heap.get?_push_of_some _ e));have L:=loop (compPost (model X.prog X.w) X.A X.xe use Qv (.ref s2.heap.objs.size) (s2.heap.objs.size+1)) fin;show codeAny (model X.prog X.w) X.A (.compStart (.ListComp elt [⟨tg,iter,ifs,0⟩] scope pos) 0 (.ref hJ) (.ref s2.heap.objs.size) (compEnvC scope cl (s2.heap.push {cls:=.type "list",data:=.seq #[]}).objs.size X.env)) (compPost (model X.prog X.w) X.A X.xe use Qv (.ref s2.heap.objs.size) (s2.heap.push {cls:=.type "list",data:=.seq #[]}).objs.size) _;rw[hz];exact codeAny_compStart_list L (T.self _ 0 _ _ _ cT L)
theorem Qfy{aa:List (Addr×Obj)}{σ:L2.St}{H:Hp}{s:Shared}{C:Addr}{h':Heap}(I:Inv X aa σ H s)(f:VR X aa H C)(sb:Heap.SameBut C s.heap h'):Inv X aa σ H {s with heap:=h'}:=by obtain⟨f0,f1,_,f3,f4,f5⟩:=f;exact I.turned (t':=s.toks) (λb o hb e=>(sb.2 b hb).trans e) f0 f1 f3 f4 f5
theorem JT(hx:X.xe=λ_ _=>False)(hc:X.calm=true)(S:CompSc X scope n N' caps)(hO:∀i∈caps,i∉O)(hi:PI X tg iter (tIH X O it))(hg:Qba X scope N' λY=>PG Y tg (tG Y [] [] g))(ht:Qba X scope N' λY=>PIf Y ifs (tDT Y [] c))(he:Qba X scope N' λY=>PE Y elt (tD Y [] el))(hs:∀x,foldedSetIterable iter X.env x=pure x:=by intro _;rfl):PE X (.ListComp elt [⟨tg,iter,ifs,0⟩] scope pos) (tO X O (QF n caps it g c el)):=by
 intro aa s σ H Q I⟨F0,F,en,d,rs,z,k⟩;obtain⟨ds,e1,e2⟩:=QL z;split at e2;case isFalse=>cases e2
 case isTrue hlen=>
 obtain⟨tot,e3,rfl⟩:=JI e2;rw[eval_ListComp];refine Qhb hx hc S hO hi hg ht he hs (use:=none) I rs e1 hlen e3 λacc C s' H' F' xs m n1 I' fC hn gr fa ha r'=>?_;exact⟨m,hn,λh' sb=>⟨.ref acc,H',Qfy I' fC sb,rfl,k acc none xs tot F' H' gr n1 fa ha r' rfl trivial⟩⟩
theorem V5(i:Nat){x:Str}{p fZ:Pos}{OL:List Nat}{w:Bool}(hN:X.N.Nodup)(hx:X.xe=λ_ _=>False)(hc:X.calm=true)(S:CompSc X scope n N' caps)(hO:∀i∈caps,i∉O)(hi:PI X tg iter (tIH X O it))(hg:Qba X scope N' λY=>PG Y tg (tG Y [] [] g))(ht:Qba X scope N' λY=>PIf Y ifs (tDT Y [] c))(he:Qba X scope N' λY=>PE Y elt (tD Y [] el))(kI:X.N[i]?=some x:=by rfl)(k9:Loc X.env.scope x:=by first|exact Or.inl rfl|exact Or.inr rfl)(hf:X.fn x=true\/X.env.scope.names.lookup x=some .local:=by first|exact .inl rfl|exact .inr rfl)(cz:swapsWith (.ListComp elt [⟨tg,iter,ifs,0⟩] scope pos) (some (.Name x p)) fZ.line X.env=pure true:=by rfl)(hs:∀x,foldedSetIterable iter X.env x=pure x:=by intro _;rfl)(hq:JW i∉O:=by decide)(iB:i<1000:=by decide):PS X (.Assign [.Name x p] (.ListComp elt [⟨tg,iter,ifs,0⟩] scope pos) fZ) (tS X O (ad i O) OL w (Qe (QF n caps it g c el) (gS i))):=by
 intro aa s σ H Dn I⟨F0,F,en,fl,rs,z,k⟩;obtain⟨d,z1,z2⟩:=QL z;obtain⟨cc,z3,rfl⟩:=JI z2;cases z3;obtain⟨ds,e1,e2⟩:=QL z1;split at e2;case isFalse=>cases e2
 case isTrue hlen=>
 obtain⟨tot,e3,rfl⟩:=JI e2;rw[exec_Assign_Name_used _ _ _ _ cz];refine wpAny_bind (wpAny_standAt (wpAny_bind ?_));show wpAny _ X.A (do let _<-comprehension (.ListComp elt [⟨tg,iter,ifs,0⟩] scope pos) scope X.env _ (newList []) false (eval iter X.env) (some (assign (.Name x p) X.env))) _ _ s;refine wpAny_bind (thn (Qhb hx hc S hO hi hg ht he hs (use:=some (assign (.Name x p) X.env)) (Qv:=λ_ s'=>SP X aa Dn .next s') I rs e1 hlen e3 λacc C s' H' F' xs m n1 I' fC hn gr fa ha r'=>?_) λ_ s' hq=>wpAny_pure (wpAny_pure hq));show wpAny _ X.A (assign (.Name x p) X.env (.ref acc)) _ _ s';refine wpAny_assign_Name (QgN I' hN kI k9 (show RelV (.ref acc) (.ref acc)from rfl) (λgz mI cG=>?_) hf);obtain⟨a,sb,fg⟩:=cG;have lX:C≠a:=by
  obtain⟨_,f1,_,_,f4,_⟩:=fC;rcases fg with q|q;·rw[q];exact f1
  ·exact λzz=>f4 x a q zz.symm
 have b4:=rs.grow gr;refine⟨m,hn.sameBut sb lX,λh' j9=>⟨_,H',Qfy mI fC j9,k _ F' H' gr.ff (b4.putO' (kk:=none) i (rs.hh.none n1) fa ha trivial r' (λj d' hj q2 _ q=>?_) hq (λj z=>by unfold JW at z;omega))⟩⟩;obtain⟨p',_,ys,es,h1,_,_,h4,_⟩:=rs.own j d' q2 hj;rw[h1]at q;cases q;rw[n1]at h4;cases h4
end
theorem QhA(cps:Array Nat)(i k:Nat):((List.range k).map λm=>i+m).filterMap (cps[·]?)=(cps.toList.drop i).take k:=by
 rw[List.filterMap_map];induction k generalizing i with
 |zero=>simp|succ k ih=>
  rw[List.range_succ_eq_map,filterMap_cons,List.filterMap_map];have e0:((λx=>cps[x]?)∘λm=>i+m) 0=cps[i]?:=by simp
  have e1:((λx=>cps[x]?)∘λm=>i+m)∘Nat.succ=(λx=>cps[x]?)∘λm=>i+1+m:=by funext m;simp only[Function.comp];rw[show i+Nat.succ m=i+1+m by omega]
  rw[e0,e1,ih (i+1)];cases q:cps[i]? with
  |none=>
   have hz:cps.toList.length<=i:=by
    rcases lt_or_ge i cps.size with h|h;·rw[Array.getElem?_eq_getElem h]at q;cases q
    ·simpa using h
   rw[drop_eq_nil_of_le hz,drop_eq_nil_of_le (Nat.le_succ_of_le hz)];simp|some v=>
   have hi:i<cps.toList.length:=by
    rcases lt_or_ge i cps.size with h|h;·simpa using h
    ·rw[Array.getElem?_eq_none h]at q;cases q
   have hv:cps.toList[i]=v:=by
    have:cps.toList[i]?=some v:=by simpa using q
    rw[getElem?_eq_getElem hi]at this;exact Option.some.inj this
   rw[List.drop_eq_getElem_cons hi,hv,List.take_succ_cons]
theorem QiN(v:Option Int)(n d:Nat)(hd:d<=n):(match v with|none=>(d:Int)|some i=>max 0 (min (if i<0 then i+(n:Int)else i) (n:Int)))=((Yh n d v:Nat):Int):=by cases v with|none=>rfl|some i=>simp only[Yh];split<;>omega
theorem QgG(a b:Nat):sliceRange (a:Int) (b:Int) 1=(List.range (b-a)).map λm=>a+m:=by
 unfold sliceRange;simp only[show(1:Int)>0 by decide,if_true];have hc:(if(a:Int)<(b:Int)then((b:Int)-(a:Int)+1-1)/1 else 0).toNat=b-a:=by
  split;·rw[Int.ediv_one];omega
  ·omega
 rw[hc];apply List.map_congr_left;intro m _;omega
theorem QlF(lo hi:Option Int)(n:Nat):Builtin.Str.strSliceIndices lo hi 1 n=(List.range (Yh n n hi-Yh n 0 lo)).map λm=>Yh n 0 lo+m:=by rw[<-QgG];unfold Builtin.Str.strSliceIndices;simp only[show(1:Int)>0 by decide,if_true];have h1:=QiN lo n 0 (zero_le _);have h2:=QiN hi n n (le_refl _);cases lo<;>cases hi<;>dsimp only at h1 h2⊢<;>rw[<-h1,<-h2]<;>rfl
theorem QmM(x:Str)(lo hi:Option Int):Txt.slice x lo hi=VQ x lo hi:=by
 unfold Txt.slice VQ ZE;have hl:x.cps.toList.length=x.length:=by simp[Str.length]
 rw[QlF,length_map,length_range,hl];split
 ·rename_i h;have h':Yh x.length x.length hi-Yh x.length 0 lo=x.length:=by simpa using h
  have b1:Yh x.length x.length hi<=x.length:=by cases hi with|none=>exact le_refl _|some v=>simp only[Yh];split<;>omega
  by_cases z:x.length=0
  ·have:x.cps.toList=[]:=List.length_eq_zero_iff.mp (by rw[hl];exact z);obtain⟨c⟩:=x;have hc:c=#[]:=by simpa using this
   subst hc;simp
  ·have b2:Yh x.length 0 lo=0:=by omega
   rw[h',b2,drop_zero,<-hl,take_length]
 ·rw[QhA]
section
variable{X:Cx}{O:List Nat}{e a b:Expr}{pos:Pos}
def QtU:V->Option Int->Option Int->Hp->VK->Prop:=λx lo hi H Q=>∃z,x=.str z/\z.length<=sizeLine/\Q (.str (VQ z lo hi)) H
theorem Qki{v:Value}{o:Option Int}(p:IsPart v o):∃l:Option (Int×Tok),partValue l=v/\l.map (·.1)=o:=by cases p with|none=>exact⟨none,rfl,rfl⟩|int i t=>exact⟨some (i,t),rfl,rfl⟩
theorem QrG:SlR X QtU:=by
 intro aa s σ H x v vl vu lo hi sl Q I rx hs pl pu h;obtain⟨z,rfl,hz,q⟩:=h;obtain⟨t,rfl⟩:=(show∃t,v=Value.str z t from rx);obtain⟨l,rfl,rfl⟩:=Qki pl;obtain⟨u,rfl,rfl⟩:=Qki pu;refine⟨"str",_,F.slot_str_getitem.lookup,typeIs_str _ _ _,wpAny_getItem_str_slice (l:=l) (u:=u) (st:=none) hs rfl ?_⟩;have e:=QmM z (l.map (·.1)) (u.map (·.1));refine post_val_or_str ⟨?_,λt' k=>?_⟩;·exact le_trans (Txt.slice_le z (l.map (·.1)) (u.map (·.1))) hz
 ·have:EP X aa σ Q (.str (Txt.slice z (l.map (·.1)) (u.map (·.1))) t') {s with toks:=k}:=by rw[e];exact⟨.str (VQ z _ _),H,I.tok k,⟨t',rfl⟩,q⟩
  exact this
theorem Zc{ev:EvE}{lo hi:Option Expr}{el eh:EvO}{p2:Pos}(he:PE X e (tR X O ev))(hl:PO X lo (tOI X O el))(hu:PO X hi (tOI X O eh)):PE X (.Subscript e (.Slice lo hi none p2) pos) (tD X O (Jh ev el eh)):=PE.imp (Qox (SlR.or QrG (SlR.or Qp2 QrF)) he hl hu) λσ H Q⟨F0,F,en,d,rs,w,k⟩=>by
  obtain⟨dx,e1,w1⟩:=QL w;obtain⟨l,u,e2,e3,e4⟩:=Qa9 w1;refine⟨F0,F,en,dx,rs,e1,λx F1 H1 g1 r1=>?_⟩;refine⟨F0,F1,en,l,rs.grow g1,e2,λF2 H2 g2=>?_⟩;refine⟨F0,F2,en,u,(rs.grow g1).grow g2,e3,λF3 H3 g3=>?_⟩;have dM:=(g1.trans g2).trans g3;have r3:=(r1.gr g2).gr g3;have s3:=g3.fh;cases dx with
  |str z=>
   simp only[ZF]at e4;split at e4
   ·rename_i hz;cases e4;exact .inl ⟨z,r3.str,by rw[Z5];exact hz,k _ F3 H3 dM (.str _)⟩
   ·cases e4|lst ds=>cases e4;obtain⟨p,xs,rfl,h,r⟩:=r3.lst s3;refine .inr (.inl ⟨p,xs,rfl,SqL.of h,λq hq=>?_⟩);have g:=Gr.new s3 hq (.lst (Qa4 xs l u));exact k _ _ _ (dM.trans g) (.lst QB ((QeV r l u).mono g.ff))|scr ns=>
   cases e4;obtain⟨p,rfl,h⟩:=r3.scr;refine .inr (.inl ⟨p,_,rfl,s3.sqL h,λq hq=>?_⟩);have g:=Gr.new s3 hq (.lst (Qa4 (ns.map V.int) l u));have r:Reps X.K F3 (Qa4 (ns.map V.int) l u) (ZE (ns.map D.int) l u):=QeV (Reps.ints ns) l u;have hc:ZE (ns.map D.int) l u=(ZE ns l u).map D.int:=by unfold ZE;rw[length_map,<-List.map_drop,<-List.map_take]
   rw[hc]at r;exact k _ _ _ (dM.trans g) (.lst QB (r.mono g.ff))|tup ds=>
   have e5:(if Yh ds.length 0 l=0/\Yh ds.length ds.length u=ds.length then none else some (D.tup (ZE ds l u)))=some d:=e4;split at e5;·cases e5
   ·rename_i hw;cases e5;obtain⟨p,xs,rfl,h,r⟩:=r3.tup;refine .inr (.inr ⟨p,xs,rfl,SqT.of (s3 _ _ h),?_,λq hq=>?_⟩);·rw[r.length];exact hw
    ·have g:=Gr.new s3 hq (.tup (Qa4 xs l u));exact k _ _ _ (dM.trans g) (.tup QB ((QeV r l u).mono g.ff))|_=>cases e4
def QrM:V->List V->Hp->VK->Prop:=λx xs H Q=>∃z,x=.str z/\xs=[]/\z.length<=sizeLine/\Q (.str (Txt.strip z)) H
theorem QoV:MtR X "str.strip" QrM:=by intro aa s σ H x xs v us Q I rx rs h;obtain⟨z,rfl,rfl,hz,q⟩:=h;obtain⟨t,rfl⟩:=show∃t,v=Value.str z t from rx;cases Vals.zero rs;exact SCL.strip (λt' k _=>⟨.str (Txt.strip z),H,I.tok k,⟨t',rfl⟩,q⟩) hz
theorem QiI{ev:EvE}{apos:Pos}(ha:PE X a (tR X O ev))(aS:attributeBase a "strip" X.env (eval a X.env)=eval a X.env:=by rfl)(bq:(apos.endLine==pos.line)=true:=by rfl):PE X (.Call (.Attribute a "strip" apos) [] [] pos) (tD X O (eUn D.strip ev)):=PE.imp (QrY PySem.F.plainAttrs_str PySem.F.slot_str_strip PySem.F.type_str_strip QoV ha aS bq) λσ H Q⟨F0,F,en,d,rs,w,k⟩=>by
  obtain⟨dx,e1,e2⟩:=QL w;refine⟨F0,F,en,dx,rs,e1,λv F1 H1 g1 r1=>?_⟩;cases dx with
  |str z=>
   simp only[D.strip]at e2;split at e2
   ·rename_i hz;cases e2;rw[r1.str];exact⟨rfl,z,rfl,rfl,by rw[Z5];exact hz,k _ F1 H1 g1 (.str _)⟩
   ·cases e2|_=>cases e2
theorem Qg5(c:Array Nat):∀(k:Nat)(acc:Array Nat),(List.replicate k c).foldl (·++·) acc=(acc.toList++(List.replicate k c.toList).flatten).toArray|0,acc=>by simp|k+1,acc=>by rw[replicate_succ,foldl_cons,Qg5 c k,replicate_succ,flatten_cons];simp
theorem Qsb(x:Str)(n:Int):Txt.mul x n=YS x n:=by
 unfold Txt.mul YS;split;·rename_i h;rw[show n.toNat=0 by omega];rfl
 ·split
  ·rename_i h1 h2;by_cases z:n=1
   ·subst z;obtain⟨c⟩:=x;simp
   ·have hx:x.length=0:=by
     rcases Bool.or_eq_true _ _|>.mp h2 with w|w;·exact absurd (eq_of_beq w) z
     ·exact eq_of_beq w
    obtain⟨c⟩:=x;have hc:c=#[]:=by simpa[Str.length]using hx
    subst hc;simp
  ·rw[Qg5];simp
def Qk5:R2:=λx y H Q=>∃z n,x=.str z/\y=.int n/\-1073741824<n/\n<1073741824/\z.length*n.toNat<=lI/\Q (.str (YS z n)) H
theorem Qqm:OpR X (binaryOp .Mult) Qk5:=by
 intro aa s σ H x y v u Q I rx ry h;obtain⟨z,n,rfl,rfl,h1,h2,h3,q⟩:=h;obtain⟨t,rfl⟩:=show∃t,v=Value.str z t from rx;obtain⟨t2,rfl⟩:=show∃t,u=Value.int n t from ry;have ok:MulOk z n:=by
  refine⟨? _,λhn hc=>? _,λhn hc=>? _⟩;·rw[decide_eq_false (by omega),decide_eq_false (by omega)];rfl
  ·have hz:z.length<=lI:=by
    have:1<=n.toNat:=by omega
    exact le_trans (Nat.le_mul_of_pos_right _ this) h3
   have:(9223372036854775807:Int)/n≥8589934591:=by apply Int.le_ediv_of_mul_le (by omega);omega
   have e:(2:Int)^63-1=9223372036854775807:=by decide
   rw[e];unfold lI at hz;omega
  ·have h4:z.length*n.toNat<=sizeLine:=by rw[Z5];exact h3
   unfold Builtin.Str.tooLong;simpa using h4
 exact SB.mul ok λt' k=>by rw[Qsb];exact⟨.str (YS z n),H,I.tok k,⟨t',rfl⟩,q⟩
theorem Jf:OpR X (binaryOp .Mult) (λx y H Q=>(rI CMul λi j=>.int (i*j)) x y H Q\/(Qk5 x y H Q\/QnX x y H Q))/\Op2 X (λx y H Q=>(rI CMul λi j=>.int (i*j)) x y H Q\/(Qk5 x y H Q\/QnX x y H Q)) D.mulA:=by
 refine⟨OpR.or Qmf (OpR.or Qqm Qr2),λF H x y dx dy d Q s rx ry e k=>?_⟩;cases dx<;>cases dy<;>try(simp[D.mulA]at e;done)
 case int.int i j=>exact .inl (Qqn.2 F H x y (.int i) (.int j) d Q s rx ry e k)
 case str.int z n=>
  simp only[D.mulA]at e;split at e
  ·rename_i h;cases e;exact .inr (.inl ⟨z,n,rx.str,ry.int,h.1,h.2.1,h.2.2,k _ F H (.refl s) (.str _)⟩)
  ·cases e
 case lst.int ds n=>
  simp only[D.mulA]at e;split at e
  ·rename_i h;cases e;obtain⟨p,xs,rfl,hp,r⟩:=rx.lst s;refine .inr (.inr ⟨p,n,xs,rfl,ry.int,hp,by omega,by omega,by rw[Z5,r.length];exact h.2.2,λq hq=>?_⟩);have g:=Gr.new s hq (.lst (List.replicate n.toNat xs).flatten);have rr:Reps X.K F (List.replicate n.toNat xs).flatten (List.replicate n.toNat ds).flatten:=by
    generalize n.toNat=m;induction m with
    |zero=>exact .nil|succ m ih=>rw[replicate_succ,replicate_succ,flatten_cons,flatten_cons];exact r.append ih
   exact k _ _ _ g (.lst QB (rr.mono g.ff))
  ·cases e
end
section
variable{X:Cx}{O:List Nat}{e a b:Expr}{pos:Pos}
theorem Qkr{K:Fg}{F H:Hp}{x:V}{d:D}(r:RdD K F H x d)(h:Jp d=true):QaM x=true/\Rep K F x d:=by cases d with|non=>rw[r.non];exact⟨rfl,.non⟩|bl b=>rw[r.bl];exact⟨rfl,.bl b⟩|int i=>rw[r.int];exact⟨rfl,.int i⟩|str z=>rw[r.str];exact⟨rfl,.str z⟩|_=>cases h
theorem Qto{K:Fg}{F:Hp}{x y:V}{dx dy:D}(rx:Rep K F x dx)(ry:Rep K F y dy)(hx:Jp dx=true)(hy:Jp dy=true):eqV y x=(D.eq dy dx==some true):=by cases rx with
 |non=>cases ry with
  |non=>rfl|bl q=>simp[D.eq,D.oth,eqV]|int q=>simp[D.eq,D.oth,eqV]|str q=>simp[D.eq,D.oth,eqV]|_=>cases hy
 |bl p=>cases ry with
  |non=>simp[D.eq,D.oth,eqV]|bl q=>cases p<;>cases q<;>rfl|int q=>
   have h:D.eq (.int q) (.bl p)=some (decide (q=b2i p)):=by rw[D.eq]
   rw[h];show(q==if p then 1 else 0)=(some (decide (q=b2i p))==some true);by_cases z:q=b2i p;·rw[decide_eq_true z,z];unfold b2i;simp
   ·rw[decide_eq_false z];have:(q==if p then 1 else 0)=false:=by apply beq_eq_false_iff_ne.mpr;intro w;exact z w
    rw[this];rfl|str q=>simp[D.eq,D.oth,eqV]|_=>cases hy
 |int p=>cases ry with
  |non=>simp[D.eq,D.oth,eqV]|bl q=>
   have h:D.eq (.bl q) (.int p)=some (decide (b2i q=p)):=by rw[D.eq]
   rw[h];show((if q then 1 else 0)==p)=(some (decide (b2i q=p))==some true);by_cases z:b2i q=p;·rw[decide_eq_true z,<-z];unfold b2i;simp
   ·rw[decide_eq_false z];have:((if q then 1 else 0)==p)=false:=by
     apply beq_eq_false_iff_ne.mpr;intro w;exact z w
    rw[this];rfl|int q=>
   rw[QM];show(q==p)=(some (decide (q=p))==some true);by_cases z:q=p;·rw[decide_eq_true z,z,beq_self_eq_true];rfl
   ·rw[decide_eq_false z,beq_eq_false_iff_ne.mpr z];rfl|str q=>simp[D.eq,D.oth,eqV]|_=>cases hy
 |str p=>cases ry with
  |non=>simp[D.eq,D.oth,eqV]|bl q=>simp[D.eq,D.oth,eqV]|int q=>simp[D.eq,D.oth,eqV]|str q=>
   rw[QG];show(q==p)=(some (decide (q=p))==some true);by_cases z:q=p;·rw[decide_eq_true z,z,beq_self_eq_true];rfl
   ·rw[decide_eq_false z,beq_eq_false_iff_ne.mpr z];rfl|_=>cases hy
 |_=>cases hx
theorem Qlb{K:Fg}{F:Hp}{x:V}{dx:D}(rx:Rep K F x dx)(hx:Jp dx=true):∀{ys:List V}{ds:List D},Reps K F ys ds->ds.all Jp=true->inV x ys=inD dx ds/\ys.all QaM=true
 |_,_,.nil,_=>⟨rfl,rfl⟩|_,_,.cons h r,hd=>by
  rw[all_cons,and_eq_true]at hd;obtain⟨i1,i2⟩:=Qlb rx hx r hd.2;refine⟨?_,?_⟩
  ·unfold inV at i1⊢;rw[any_cons,i1,Qto rx h hx hd.1];rfl
  ·rw[all_cons,i2,(Qkr (H:=F) (.inl h) hd.1).1];rfl
theorem Qmg{neg:Bool}{op:CmpOp}{g:D->D->Option D}(hr:OpR X (compareOp op) (rIn X.K neg))(h1:∀dx dy d,g dx dy=some d->∃ys,(dy=.tup ys\/dy=.lst ys)/\Jp dx=true/\ys.all Jp=true/\d=.bl (if neg then !inD dx ys else inD dx ys)):OpR X (compareOp op) (rIn X.K neg)/\Op2 X (rIn X.K neg) g:=by
 refine⟨hr,λF H x y dx dy d Q s rx ry e k=>?_⟩;obtain⟨ys,hy,fx,fy,rfl⟩:=h1 dx dy d e;obtain⟨fv,rp⟩:=Qkr rx fx;rcases hy with rfl|rfl;·obtain⟨p,xs,rfl,hp,r⟩:=ry.tup;obtain⟨i1,i2⟩:=Qlb rp fx r fy;refine⟨p,xs,rfl,.inr (SqT.of (s _ _ hp)),fv,i2,?_⟩;rw[i1];exact k _ F H (.refl s) (.bl _)
 ·obtain⟨p,xs,rfl,hp,r⟩:=ry.lst s;obtain⟨i1,i2⟩:=Qlb rp fx r fy;refine⟨p,xs,rfl,.inl (SqL.of hp),fv,i2,?_⟩;rw[i1];exact k _ F H (.refl s) (.bl _)
theorem QdQ:OpR X (compareOp .In) (rIn X.K false)/\Op2 X (rIn X.K false) D.inO:=Qmg Qm1 λdx dy d e=>by
 unfold D.inO at e;split at e
 ·split at e;·rename_i ys h;cases e;exact⟨ys,.inl rfl,h.1,h.2,rfl⟩
  ·cases e
 ·split at e;·rename_i ys h;cases e;exact⟨ys,.inr rfl,h.1,h.2,rfl⟩
  ·cases e
 ·cases e
theorem Qd3:OpR X (compareOp .NotIn) (rIn X.K true)/\Op2 X (rIn X.K true) D.notInO:=Qmg Qi9 λdx dy d e=>by
 unfold D.notInO at e;split at e
 ·split at e;·rename_i ys h;cases e;exact⟨ys,.inl rfl,h.1,h.2,rfl⟩
  ·cases e
 ·split at e;·rename_i ys h;cases e;exact⟨ys,.inr rfl,h.1,h.2,rfl⟩
  ·cases e
 ·cases e
theorem QkB{x:Str}{p:Pos}{ev:EvE}(hg:Gl X x)(hm:X.mg x=none)(hv:bootBuiltins x=some (.type "list"))(ha:PE X a (tR X O ev))(hn:x≠"__name__":=by decide)(aL:(x==("__debug__":Str))=false:=by decide)(he:starEach [a] X.env=[(false,eval a X.env)]:=by rfl):PE X (.Call (.Name x p) [a] [] pos) (tO X O (eUn D.listOf ev)):=PE.imp (QgQ Qjr hg hm hv (Qf7 ha he) hn aL he rfl) λσ H Q⟨F0,F,en,d,rs,w,k⟩=>by obtain⟨dx,e1,e2⟩:=QL w;refine⟨F0,F,en,dx,rs,e1,λv F1 H1 g1 r1=>? _⟩;have fin:∀(l:Addr)(xs:List V)(ds:List D),SqL X.K H1 l xs\/SqT X.K H1 l xs->Reps X.K F1 xs ds->d=.lst ds->∃p ys,[V.ref l]=[.ref p]/\(SqL X.K H1 p ys\/SqT X.K H1 p ys)/\∀l,H1 l=none->Q (.ref l) (upd H1 l (.lst ys)):=λl xs ds hl r hd=>⟨l,xs,rfl,hl,λq hq=>k q none xs ds F1 _ (g1.trans (Gr.newO g1.fh hq (.lst xs))) (g1.hh.none hq) (g1.fh.none hq) QB r hd trivial⟩;cases dx with|lst ds=>cases e2;obtain⟨l,xs,rfl,h,r⟩:=r1.lst g1.fh;exact fin l xs ds (.inl (SqL.of h)) r rfl|tup ds=>cases e2;obtain⟨l,xs,rfl,h,r⟩:=r1.tup;exact fin l xs ds (.inr (SqT.of (g1.fh _ _ h))) r rfl|scr ns=>cases e2;obtain⟨l,rfl,h⟩:=r1.scr;exact fin l _ _ (.inl (g1.fh.sqL h)) (Reps.ints ns) rfl|_=>cases e2
theorem Qj4{vs:List V}{us:List Value}(r:Vals vs us){i:Nat}{u:Value}(h:us[i]?=some u):∃v,vs[i]?=some v/\RelV v u:=by
 have hl:=r.length;rcases lt_or_ge i vs.length with hi|hi
 ·obtain⟨u',h1,h2⟩:=r.get (getElem?_eq_getElem hi);rw[h]at h1;cases h1;exact⟨_,getElem?_eq_getElem hi,h2⟩
 ·rw[getElem?_eq_none (by omega)]at h;cases h
theorem Qko{ns:List Int}{us:List Value}(r:Vals (ns.map V.int) us){i:Nat}{u:Value}(h:us.toArray[i]?=some u):∃t,u=Value.int (ns.getD i 0) t:=by obtain⟨v,h1,h2⟩:=Qj4 r (by simpa using h);rw[getElem?_map]at h1;cases q:ns[i]? with|none=>rw[q]at h1;cases h1|some n=>rw[q]at h1;cases h1;obtain⟨t,rfl⟩:=show∃t,u=Value.int n t from h2;exact⟨t,by rw[getD_eq_getElem?_getD,q];rfl⟩
theorem QdY{aa:List (Addr×Obj)}{σ:L2.St}{H:Hp}{s:Shared}{l:Addr}{us:List Value}{A:Around}{E:Value->Shared->Prop}{Q:Value->Shared->Prop}(I:Inv X aa σ H s)(hh:A.handled=none)(hp:PlainL s.heap l us.toArray)(h:∀s₂:Shared,Walks X.prog X.w A s.heap.objs.size [s.heap.objs.size,l] [s.heap.objs.size] us.toArray.size (λi v=>us.toArray[i]?=some v) (λi h=>h.IsListIter s.heap.objs.size l i/\h.IsList l us.toArray)->(s₂.heap.IsListIter s.heap.objs.size l 0/\s₂.heap.IsList l us.toArray)->(∀b∈[s.heap.objs.size,l],b<s₂.heap.objs.size)->(∀(h':Heap)(tk:Nat),(∀b o,b∉[s.heap.objs.size]->s₂.heap.get? b=some o->h'.get? b=some o)->Inv X aa σ H {s₂ with heap:=h',toks:=tk})->Q (.ref s.heap.objs.size) s₂):wpAny (model X.prog X.w) A (pyIter (.ref l)) Q E s:=by
 have cX:l<s.heap.objs.size:=by obtain⟨_,_,e,_⟩:=hp;exact Heap.lt_size e
 refine wpAny_pyIter_list hp.isList (h _ (Walks.list hh _ l (ne_of_lt cX) us.toArray) ⟨⟨_,Heap.get?_push_size _ rfl,rfl,rfl⟩,hp.isList.push _⟩ (λb hb=>?_) λh' tk hk=>?_)
 ·show b<(s.heap.push _).objs.size;rw[Heap.size_push];rcases List.mem_cons.mp hb with rfl|hb;·exact Nat.lt_succ_self _
  ·rw[List.mem_singleton.mp hb];exact lt_succ_of_lt cX
 ·exact I.kept (t':=tk) λb u e=>hk b u (λz=>by rw[List.mem_singleton.mp z]at e;exact absurd (Heap.lt_size e) (lt_irrefl _)) (Heap.get?_push_of_some _ e)
theorem QnL(hc:X.calm=true):CallR X (.builtin "max") (λxs H Q=>∃(l:Addr)(n:Int)(ns:List Int),xs=[.ref l]/\SqL X.K H l ((n::ns).map V.int)/\Q (.int (Jo n ns)) H):=by
 intro aa s σ H xs us Q I r⟨l,n,ns,hx,hq,q⟩;subst hx;obtain⟨u,rfl,rx⟩:=QaK r;cases rx;obtain⟨its,rv,pl,hz⟩:=I.list hq;refine call_max_walk (QdY I (I.ok.hd hc) pl λs₂ W st eu back=>?_);have cB:∀i v,its.toArray[i]?=some v->∃t,v=Value.int ((n::ns).getD i 0) t:=λi v h=>Qko rv h;have hl:=rv.length;rw[length_map]at hl;refine⟨_,_,_,_,_,_,_,rfl,W,st,eu,?_,CmpOf.ints_gt (λi=>(n::ns).getD i 0) cB,λv h' tk hP hk=>?_⟩;·rw[size_toArray,<-hl];exact Nat.succ_pos _
 ·obtain⟨t,rfl⟩:=cB _ _ hP;obtain⟨b1,b2⟩:=argBest_gt (λi=>(n::ns).getD i 0) (its.toArray.size-1);obtain⟨m1,m2,m3⟩:=VO ns n;generalize argBest (λi j=>decide ((n::ns).getD i 0>(n::ns).getD j 0)) (its.toArray.size-1)=k at b1 b2⊢;have hsz:its.toArray.size=ns.length+1:=by rw[size_toArray,<-hl];rfl
  have e:(n::ns).getD k 0=Jo n ns:=by
   apply Int.le_antisymm;·cases k with|zero=>exact m2|succ k=>
     have fL:k<ns.length:=by omega
     show ns.getD k 0<=_;rw[getD_eq_getElem?_getD,getElem?_eq_getElem fL];exact m3 _ (getElem_mem fL)
   ·rcases m1 with w|w;·rw[w];exact b2 0 (zero_le _)
    ·obtain⟨j,hj,e⟩:=List.getElem_of_mem w;have:=b2 (j+1) (by omega);rw[show(n::ns).getD (j+1) 0=ns.getD j 0 from rfl,getD_eq_getElem?_getD,getElem?_eq_getElem hj]at this;rw[<-e];exact this
  rw[e];exact⟨.int (Jo n ns),H,back h' tk hk,⟨t,rfl⟩,q⟩
theorem Ve(hc:X.calm=true):CallR X (.builtin "max") (λxs H Q=>∃(l:Addr)(n:Int)(ns:List Int),xs=[.ref l]/\SqL X.K H l ((n::ns).map V.int)/\Q (.int (Jo n ns)) H)/\C1 X (λxs H Q=>∃(l:Addr)(n:Int)(ns:List Int),xs=[.ref l]/\SqL X.K H l ((n::ns).map V.int)/\Q (.int (Jo n ns)) H) D.maxL:=by
 refine⟨QnL hc,λF H x dx d Q s rx e k=>?_⟩;cases dx with
 |lst ds=>
  simp only[D.maxL]at e;split at e
  ·rename_i n ns q;cases e;obtain⟨l,xs,rfl,h,r⟩:=rx.lst s;have:=r.intsOf q;subst this;exact⟨l,n,ns,rfl,SqL.of h,k _ F H (.refl s) (.int _)⟩
  ·cases e|_=>cases e
theorem Qey(ns:List Int):∀k,k<=ns.length->preSum (λi=>ns.getD i 0) k=(ns.take k).sum|0,_=>by simp[preSum]|k+1,h=>by rw[preSum,Qey ns k (by omega),List.take_succ,getElem?_eq_getElem (by omega),List.sum_append];simp[getElem?_eq_getElem (show k<ns.length by omega)]
theorem QnH(hc:X.calm=true):CallR X (.builtin "sum") λxs H Q=>∃(l:Addr)(ns:List Int),xs=[.ref l]/\SqL X.K H l (ns.map V.int)/\Q (.int ns.sum) H:=by
 intro aa s σ H xs us Q I r⟨l,ns,hx,hq,q⟩;subst hx;obtain⟨u,rfl,rx⟩:=QaK r;cases rx;obtain⟨its,rv,pl,hz⟩:=I.list hq;refine call_sum_walkAnyS (QdY I (I.ok.hd hc) pl λs₂ W st eu back=>? _);have cB:∀i v,its.toArray[i]?=some v->∃t,v=Value.int (ns.getD i 0) t:=λi v h=>Qko rv h;have hl:=rv.length;rw[length_map]at hl;refine⟨_,_,_,_,_,_,_,λi=>ns.getD i 0,rfl,W.toS,st,eu,cB,λs' t' mv=>? _⟩;have e:preSum (λi=>ns.getD i 0) its.toArray.size=ns.sum:=by rw[size_toArray,<-hl,Qey ns ns.length (le_refl _),take_length]
 rw[e];have I':=back s'.heap s'.toks mv.heap;have es:({s₂ with heap:=s'.heap,toks:=s'.toks}:Shared)=s':=by
  obtain⟨h',g',d',t',o'⟩:=s';have m1:g'=s₂.gens:=mv.gens;have m2:d'=s₂.drawn:=mv.drawn;have m3:o'=s₂.os:=mv.os;subst m1 m2 m3;rfl
 rw[es]at I';exact⟨.int ns.sum,H,I',⟨t',rfl⟩,q⟩
theorem QnI(hc:X.calm=true):CallR X (.builtin "sum") (λxs H Q=>∃(l:Addr)(ns:List Int),xs=[.ref l]/\SqL X.K H l (ns.map V.int)/\Q (.int ns.sum) H)/\C1 X (λxs H Q=>∃(l:Addr)(ns:List Int),xs=[.ref l]/\SqL X.K H l (ns.map V.int)/\Q (.int ns.sum) H) D.sumL:=by refine⟨QnH hc,λF H x dx d Q s rx e k=>?_⟩;cases dx with|lst ds=>obtain⟨ns,q,rfl⟩:=JI e;obtain⟨l,xs,rfl,h,r⟩:=rx.lst s;have:=r.intsOf q;subst this;exact⟨l,ns,rfl,SqL.of h,k _ F H (.refl s) (.int _)⟩|_=>cases e
theorem QiR{K:Fg}{F:Hp}:∀{vs:List V}{ds:List D}{bs:List Bool},Reps K F vs ds->Z3 ds=some bs->vs=bs.map V.bl
 |_,_,bs,.nil,e=>by cases e;rfl|_,_,bs,.cons (d:=d) h r,e=>by cases h with
  |bl i=>simp only[Z3]at e;cases q:Z3 _ with
   |none=>rw[q]at e;cases e|some ms=>
    rw[q]at e;cases e;rw[QiR r q];rfl
  |_=>simp[Z3]at e
theorem Qhh(bs:List Bool):∀k,k<=bs.length->(List.range k).any (λi=>bs.getD i false)=(bs.take k).any id|0,_=>by simp|k+1,h=>by rw[List.range_succ,List.any_append,Qhh bs k (by omega),List.take_succ,getElem?_eq_getElem (by omega),List.any_append];simp[getElem?_eq_getElem (show k<bs.length by omega)]
theorem QnO(hc:X.calm=true):CallR X (.builtin "any") λxs H Q=>∃(l:Addr)(bs:List Bool),xs=[.ref l]/\SqL X.K H l (bs.map V.bl)/\Q (.bl (bs.any id)) H:=by
 intro aa s σ H xs us Q I r⟨l,bs,hx,hq,q⟩;subst hx;obtain⟨u,rfl,rx⟩:=QaK r;cases rx;obtain⟨its,rv,pl,hz⟩:=I.list hq;refine call_any_walk (QdY I (I.ok.hd hc) pl λs₂ W st eu back=>? _);have cB:∀i v,its.toArray[i]?=some v->v=Value.bool (bs.getD i false):=λi v h=>by
  obtain⟨w,h1,h2⟩:=Qj4 rv (by simpa using h);rw[getElem?_map]at h1;cases q:bs[i]? with
  |none=>rw[q]at h1;cases h1|some n=>
   rw[q]at h1;cases h1;rw[show v=Value.bool n from h2,getD_eq_getElem?_getD,q];rfl
 have hl:=rv.length;rw[length_map]at hl;refine⟨_,_,_,_,_,_,λi=>bs.getD i false,rfl,W,st,λi v s3 Q3 E3 hP hQ=>? _,λh' tk hk=>? _⟩;·rw[cB i v hP];exact wpAny_truthy_bool hQ
 ·have e:(List.range its.toArray.size).any (λi=>bs.getD i false)=bs.any id:=by rw[size_toArray,<-hl,Qhh bs bs.length (le_refl _),take_length]
  rw[e];exact⟨.bl (bs.any id),H,back h' tk hk,rfl,q⟩
theorem QnP(hc:X.calm=true):CallR X (.builtin "any") (λxs H Q=>∃(l:Addr)(bs:List Bool),xs=[.ref l]/\SqL X.K H l (bs.map V.bl)/\Q (.bl (bs.any id)) H)/\C1 X (λxs H Q=>∃(l:Addr)(bs:List Bool),xs=[.ref l]/\SqL X.K H l (bs.map V.bl)/\Q (.bl (bs.any id)) H) D.anyL:=by refine⟨QnO hc,λF H x dx d Q s rx e k=>?_⟩;cases dx with|lst ds=>obtain⟨bs,q,rfl⟩:=JI e;obtain⟨l,xs,rfl,h,r⟩:=rx.lst s;have:=QiR r q;subst this;exact⟨l,bs,rfl,SqL.of h,k _ F H (.refl s) (.bl _)⟩|_=>cases e
end
noncomputable def Js(osc:Scope)(oN:List Str)(scope:Scope)(n:Nat)(N':List Str)(caps:List Nat):Bool:=scope.kind==.function&&scope.names.all (λy=>y.2 !=.cell)&&scope.names.all (λx=>x.2 !=.local||scope.names.lookup x.1==some .local)&&scope.names.all (λx=>x.2 !=.free||osc.names.lookup x.1==some .cell||osc.names.lookup x.1==some .free)&&N'.length==n+caps.length&&(List.range caps.length).all (λj=>match caps[j]?,N'[n+j]? with|some i,some x=>oN[i]?==some x&&scope.names.lookup x==some .free|_,_=>false)&&decide N'.Nodup
theorem QX{X:Cx}{scope:Scope}{n:Nat}{N':List Str}{caps:List Nat}(h:Js X.env.scope X.N scope n N' caps=true):CompSc X scope n N' caps:=by
 unfold Js at h;simp only[and_eq_true,decide_eq_true_eq,beq_iff_eq,all_eq_true]at h;obtain⟨⟨⟨⟨⟨⟨h1,h2⟩,h3⟩,h4⟩,h5⟩,h6⟩,h7⟩:=h;refine⟨h1,λy hy z=>?_,λx hx z=>?_,λx hx z=>?_,h5,λj i hj=>?_,h7⟩;·have:=h2 y hy;rw[z]at this;simp at this
 ·have:=h3 x hx;rw[z]at this;simpa using this
 ·have:=h4 x hx;rw[z]at this;have q:List.lookup x.1 X.env.scope.names=some NameKind.cell\/List.lookup x.1 X.env.scope.names=some NameKind.free:=by simpa using this
  exact q
 ·have hl:j<caps.length:=by
   rcases lt_or_ge j caps.length with w|w;·exact w
   ·rw[getElem?_eq_none w]at hj;cases hj
  have:=h6 j (List.mem_range.mpr hl);rw[hj]at this;cases q:N'[n+j]? with|none=>rw[q]at this;cases this|some x=>rw[q]at this;simp only[and_eq_true,beq_iff_eq]at this;exact⟨x,rfl,this.1,this.2⟩
section
variable{es:List Expr}{env:Env}
theorem Qjz{a b c}:starEach (.Constant a b c::es) env=(false,eval (.Constant a b c) env)::starEach es env:=rfl
theorem JD{a b}:starEach (.Name a b::es) env=(false,eval (.Name a b) env)::starEach es env:=rfl
theorem Qoj{a b c d}:starEach (.BinOp a b c d::es) env=(false,eval (.BinOp a b c d) env)::starEach es env:=rfl
theorem Qll{a b c d}:starEach (.Compare a b c d::es) env=(false,eval (.Compare a b c d) env)::starEach es env:=rfl
theorem Qgg{a b c d}:starEach (.Call a b c d::es) env=(false,eval (.Call a b c d) env)::starEach es env:=rfl
theorem Yv{a b c}:starEach (.Subscript a b c::es) env=(false,eval (.Subscript a b c) env)::starEach es env:=rfl
theorem Qi6{a b c}:starEach (.Attribute a b c::es) env=(false,eval (.Attribute a b c) env)::starEach es env:=rfl
theorem Qp3{a b}:starEach (.List a b::es) env=(false,eval (.List a b) env)::starEach es env:=rfl
theorem Qoi{a b c}:starEach (.Tuple a b c::es) env=(false,eval (.Tuple a b c) env)::starEach es env:=rfl
theorem Qjy{a b c d}:starEach (.ListComp a b c d::es) env=(false,eval (.ListComp a b c d) env)::starEach es env:=rfl
end
section
variable{X:Cx}{O:List Nat}{es:List Expr}{l:EvL}{ea:EvE}
theorem Dk{a b c}(ha:PE X (.Constant a b c) (tD X O ea))(hr:PA X es (tL X O l)):PA X (.Constant a b c::es) (tL X O (lC ea l)):=YN ha hr Qjz
theorem Qbm{a b}(ha:PE X (.Name a b) (tD X O ea))(hr:PA X es (tL X O l)):PA X (.Name a b::es) (tL X O (lC ea l)):=YN ha hr JD
theorem Db{a b c d}(ha:PE X (.BinOp a b c d) (tD X O ea))(hr:PA X es (tL X O l)):PA X (.BinOp a b c d::es) (tL X O (lC ea l)):=YN ha hr Qoj
theorem QlJ{a b c d}(ha:PE X (.Compare a b c d) (tD X O ea))(hr:PA X es (tL X O l)):PA X (.Compare a b c d::es) (tL X O (lC ea l)):=YN ha hr Qll
theorem Dl{a b c d}(ha:PE X (.Call a b c d) (tD X O ea))(hr:PA X es (tL X O l)):PA X (.Call a b c d::es) (tL X O (lC ea l)):=YN ha hr Qgg
theorem Du{a b c}(ha:PE X (.Subscript a b c) (tD X O ea))(hr:PA X es (tL X O l)):PA X (.Subscript a b c::es) (tL X O (lC ea l)):=YN ha hr Yv
theorem Vh{a b c}(ha:PE X (.Attribute a b c) (tD X O ea))(hr:PA X es (tL X O l)):PA X (.Attribute a b c::es) (tL X O (lC ea l)):=YN ha hr Qi6
theorem JS{a b}(ha:PE X (.List a b) (tD X O ea))(hr:PA X es (tL X O l)):PA X (.List a b::es) (tL X O (lC ea l)):=YN ha hr Qp3
theorem Dt{a b c}(ha:PE X (.Tuple a b c) (tD X O ea))(hr:PA X es (tL X O l)):PA X (.Tuple a b c::es) (tL X O (lC ea l)):=YN ha hr Qoi
theorem QaP{a b c d}(ha:PE X (.ListComp a b c d) (tD X O ea))(hr:PA X es (tL X O l)):PA X (.ListComp a b c d::es) (tL X O (lC ea l)):=YN ha hr Qjy
end
end Wd
namespace Wd
theorem Qcu{n:Nat}{l:EvL}(h:∀(e:Qh)(d:List D),l e=some d->d.length<=n)(hn:n<=lI):∀(e:Qh)(d:List D),l e=some d->d.length<=lI:=λe d w=>le_trans (h e d w) hn
theorem lz0:∀(e:Qh)(d:List D),lN e=some d->d.length<=lI:=Qcu (n:=0) Qat (by decide)
theorem lz1{p:EvE}:∀(e:Qh)(d:List D),(lC p lN) e=some d->d.length<=lI:=Qcu (n:=1) (Jc Qat) (by decide)
theorem lz2{p q:EvE}:∀(e:Qh)(d:List D),(lC p (lC q lN)) e=some d->d.length<=lI:=Qcu (n:=2) (Jc (Jc Qat)) (by decide)
theorem lz3{p q r:EvE}:∀(e:Qh)(d:List D),(lC p (lC q (lC r lN))) e=some d->d.length<=lI:=Qcu (n:=3) (Jc (Jc (Jc Qat))) (by decide)
theorem lz4{p q r t:EvE}:∀(e:Qh)(d:List D),(lC p (lC q (lC r (lC t lN)))) e=some d->d.length<=lI:=Qcu (n:=4) (Jc (Jc (Jc (Jc Qat)))) (by decide)
open PySem PySem.Spec PyProof.Rows L2
theorem QqT{X:Cx}{O OL:List Nat}{w:Bool}{e:Expr}{pos:Pos}{i:Nat}{x:Str}{p:Pos}{ev:EvE}(hN:X.N.Nodup)(he:PE X e (tD X O ev))(hi:X.N[i]?=some x)(hx:Loc X.env.scope x)(hs:swapsWith e (some (.Name x p)) pos.line X.env=pure false)(hf:X.fn x=true\/X.env.scope.names.lookup x=some .local)(hq:JW i∉O):PS X (.Assign [.Name x p] e pos) (tS X O (dl i O) OL w (Qe ev (gS i))):=Qo i hN he hi hx hs hf hq
end Wd
namespace Wd
open PySem PySem.Spec PyProof.Rows L2
theorem _root_.L2.Room.units1{k:Nat}{A:Around}(r:Room k A):A.units+1<cLine:=by have:=r.units;omega
theorem Qif{K:Fg}{F:Hp}(k:Kd):∀{ks:List Kd}{xs:List V}{ds:List D},ks.length=xs.length->Reps K F xs ds->(Qgc ks ds k=none/\YR (ks.zip xs) k=none/\hasK k ks=false)\/∃d v,Qgc ks ds k=some d/\YR (ks.zip xs) k=some v/\Rep K F v d/\hasK k ks=true
 |[],xs,ds,_,_=>.inl ⟨by cases ds<;>rfl,rfl,rfl⟩|c::ks,[],_,h,_=>by cases h|c::ks,x::xs,_,h,.cons (d:=d) (ds:=ds) hx r=>by
  by_cases z:c=k
  ·right;exact⟨d,x,by show(if c=k then some d else _)=_;rw[if_pos z],Qc7 (p:=(c,x)) z,hx,by simp[hasK,z]⟩
  ·have e1:Qgc (c::ks) (d::ds) k=Qgc ks ds k:=by show(if c=k then some d else _)=_;rw[if_neg z]
   have e2:YR ((c::ks).zip (x::xs)) k=YR (ks.zip xs) k:=Qc8 (p:=(c,x)) z;rw[e1,e2];rcases Qif k (by simpa using h) r with⟨a,b,c'⟩|⟨d',v',a,b,c',m⟩;·refine .inl ⟨a,b,?_⟩;show(decide (c=k)||hasK k ks)=false;rw[c',decide_eq_false z];rfl
   ·refine .inr ⟨d',v',a,b,c',?_⟩;show(decide (c=k)||hasK k ks)=true;rw[m,Bool.or_true]
theorem QkI(k:Kd):∀{ks:List Kd}{xs:List V},ks.length=xs.length->((ks.zip xs).any λkv=>decide (kv.1=k))=hasK k ks|[],_,_=>by simp[hasK]|c::ks,[],h=>by cases h|c::ks,x::xs,h=>by rw[List.zip_cons_cons,any_cons,QkI k (by simpa using h)];rfl
noncomputable def QeF:List Kd->List V->Kd->V->List V|c::ks,x::xs,k,v=>(if c=k then v else x)::QeF ks xs k v|_,_,_,_=>[]
theorem Qkb{K:Fg}{F:Hp}(k:Kd){v:V}{d:D}(hv:Rep K F v d):∀{ks:List Kd}{xs:List V}{ds:List D},ks.length=xs.length->Reps K F xs ds->(ks.zip xs).map (λkv=>if kv.1=k then(kv.1,v)else kv)=ks.zip (QeF ks xs k v)/\ks.length=(QeF ks xs k v).length/\Reps K F (QeF ks xs k v) (Qk0 ks ds k d)
 |[],xs,ds,_,_=>⟨by simp,rfl,by cases ds<;>exact .nil⟩|c::ks,[],_,h,_=>by cases h|c::ks,x::xs,_,h,.cons (d:=d0) (ds:=ds) hx r=>by
  obtain⟨a,b,c'⟩:=Qkb k hv (ks:=ks) (xs:=xs) (by simpa using h) r;refine⟨?_,?_,?_⟩
  ·show(if c=k then(c,v)else(c,x))::(ks.zip xs).map _=(c,if c=k then v else x)::ks.zip (QeF ks xs k v);rw[a];by_cases z:c=k;·rw[if_pos z,if_pos z]
   ·rw[if_neg z,if_neg z]
  ·show ks.length+1=(QeF ks xs k v).length+1;rw[b]
  ·refine .cons ?_ c';by_cases z:c=k;·rw[if_pos z,if_pos z];exact hv
   ·rw[if_neg z,if_neg z];exact hx
theorem Reps.snoc{K:Fg}{F:Hp}{xs:List V}{ds:List D}{v:V}{d:D}(r:Reps K F xs ds)(h:Rep K F v d):Reps K F (xs++[v]) (ds++[d]):=r.append (.cons h .nil)
theorem Qqc{K:Fg}{F:Hp}{k:Kd}{v:V}{d:D}(hv:Rep K F v d){ks:List Kd}{xs:List V}{ds:List D}(hl:ks.length=xs.length)(r:Reps K F xs ds):∃gH bp bR,HO.dK (VF (ks.zip xs) k v)=ho (some gH) bp/\Y6 (some gH) bp/\Reps K F bp bR/\Qgd ks ds k d=dOf (some gH) bR:=by
 unfold VF Qgd;rw[QkI k hl];by_cases z:hasK k ks=true
 ·obtain⟨a,b,c⟩:=Qkb k hv hl r;refine⟨ks,QeF ks xs k v,Qk0 ks ds k d,?_,b,c,?_⟩;·rw[if_pos z,a];rfl
  ·rw[if_pos z];rfl
 ·refine⟨ks++[k],xs++[v],ds++[d],?_,?_,r.snoc hv,?_⟩
  ·rw[if_neg z];show HO.dK (ks.zip xs++[(k,v)])=.dK ((ks++[k]).zip (xs++[v]));rw[List.zip_append hl];rfl
  ·show(ks++[k]).length=(xs++[v]).length;rw[length_append,length_append,hl];rfl
  ·rw[if_neg z];rfl
theorem Qmm{K:Fg}{F H:Hp}{v:V}{d:D}{k:Kd}(r:RdD K F H v d)(h:kOf d=some k):v=kV k:=by cases d with|str x=>cases h;exact r.str|int i=>cases h;exact r.int|_=>cases h
section
variable{X:Cx}{O O' OL:List Nat}{w:Bool}{e a b:Expr}{pos:Pos}
theorem Qq8:PE X (.Dict [] [] pos) (tO X O (eC (.dic [] []))):=PE.imp Qoz λσ H Q⟨F0,F,en,d,rs,z,k⟩=>by cases z;intro p hp;exact k p (some []) [] [] F _ (Gr.newO rs.fh hp (.dK [])) hp (rs.fh.none hp) QB .nil rfl rfl
theorem QpP{ea eb:EvE}{g:Bool->Bool}{f:D->D->Option D}(hf:∀y d r,f y d=some r->∃ks ds k,d=.dic ks ds/\kOf y=some k/\r=.bl (g (hasK k ks))){σ:L2.St}{H:Hp}{Q:Bool->Hp->Prop}(h:tDT X O (eOp f ea eb) σ H Q):tR X O ea σ H λy H1=>tR X O eb σ H1 λx H2=>∃a o,x=.ref a/\DGet H2 a y o/\∃d,V.bl (g o.isSome)=.bl d/\Q d H2:=by
 obtain⟨F0,F,en,b,rs,z,k⟩:=h;obtain⟨dy,dx,e1,e2,e3⟩:=Qa9 z;obtain⟨ks,ds,kk,rfl,q1,q2⟩:=hf _ _ _ e3;refine⟨F0,F,en,dy,rs,e1,λy F1 H1 g1 r1=>⟨F0,F1,en,_,rs.grow g1,e2,λx F2 H2 g2 r2=>?_⟩⟩;obtain⟨p,xs,rfl,h,hl,rp⟩:=r2.dic g2.fh;refine⟨p,YR (ks.zip xs) kk,rfl,?_,?_⟩;·rw[Qmm (r1.gr g2) q1];exact .inl ⟨_,_,h,rfl,rfl⟩
 ·have:(YR (ks.zip xs) kk).isSome=hasK kk ks:=by
   rcases Qif kk hl rp with⟨_,n,m⟩|⟨d',v',_,a2,_,m⟩;·rw[n,m];rfl
   ·rw[a2,m];rfl
  rw[this];cases q2;exact⟨_,rfl,k F2 H2 (g1.trans g2)⟩
theorem QsA{ea eb:EvE}(hu:X.A.units+1<cLine)(ha:PE X a (tR X O ea))(hb:PE X b (tR X O eb))(hm:behindInMarks .In b=false:=by with_unfolding_all rfl):PT X (.Compare a [.In] [b] pos) (tDT X O (eOp D.dIn ea eb)):=PT.imp (Ql8 (Qr0 hu ha hb) hm) λσ H Q h=>by have q:=QpP (g:=id) (λy d r e=>by cases d with|dic ks ds=>obtain⟨k,e1,rfl⟩:=JI (show((kOf y).map λk=>D.bl (hasK k ks))=some r from e);exact⟨ks,ds,k,rfl,e1,rfl⟩|_=>cases e) h;exact q
theorem Qns{ea eb:EvE}(hu:X.A.units+1<cLine)(ha:PE X a (tR X O ea))(hb:PE X b (tR X O eb))(hm:behindInMarks .NotIn b=false:=by with_unfolding_all rfl):PT X (.Compare a [.NotIn] [b] pos) (tDT X O (eOp D.dNotIn ea eb)):=PT.imp (Ql8 (Qm0 hu ha hb) hm) λσ H Q h=>by have q:=QpP (g:=not) (λy d r e=>by cases d with|dic ks ds=>obtain⟨k,e1,rfl⟩:=JI (show((kOf y).map λk=>D.bl (!hasK k ks))=some r from e);exact⟨ks,ds,k,rfl,e1,rfl⟩|_=>cases e) h;exact q
theorem QqU(i:Nat)(hi:i∈O){x:Str}{p pos':Pos}{v key:Expr}{ek ev:EvE}(hu:X.A.units+1<cLine)(hk:PE X key (tR X O ek))(hv:PE X v (tD X O ev))(hN:X.N[i]?=some x:=by rfl)(ja:Vis X.env.scope x:=by first|exact Or.inl rfl|exact Or.inr (Or.inl rfl)|exact Or.inr (Or.inr rfl))(hd:(x==("__debug__":Str))=false:=by decide)(bC:(x==("__classdict__":Str))=false:=by decide)(hs:swapsWith v (some (.Subscript (.Name x p) key pos')) pos.line X.env=pure false:=by rfl):PS X (.Assign [.Subscript (.Name x p) key pos'] v pos) (tS X O O OL w (Qpu i ek ev)):=PS.imp (Qqe hu (Ji hN ja hd bC) hk hv hs) λDn σ H⟨F0,F,en,fl,rs,z,k⟩=>by
  obtain⟨dv,e1,z1⟩:=QL z;obtain⟨dx,e2,z2⟩:=QL z1;obtain⟨dy,e3,z3⟩:=QL z2;obtain⟨dz,e4,rfl⟩:=JI z3;refine⟨F0,F,en,dv,rs,e1,λu F1 H1 g1 r1=>?_⟩;have bb:=rs.grow g1;obtain⟨p,kk,xs,ds,h1,h2,h3,h4,h5,h6,h7⟩:=bb.own i dx (Jn e2) hi;refine⟨_,h1,F0,F1,en,dy,bb,e3,λy F2 H2 g2 r2=>?_⟩;have eS:=bb.grow g2;obtain⟨p',bM,bp,bR,k1,k2,k3,k4,k5,k6,k7⟩:=eS.own i dx (Jn e2) hi;rw[h1]at k1;cases k1;subst k6;cases bM with|none=>cases e4|some ks=>
   obtain⟨kx,q1,q2⟩:=QL (show((kOf dy).bind λk=>if ks.length<lI then some (Qgd ks bR k dv)else none)=some dz from e4);split at q2
   ·rename_i hz;cases q2;obtain⟨ks2,jo,ds2,a1,a2,a3,a4⟩:=Qqc (k:=kx) (r1.mono g2.ff) k7 k5;refine⟨p,upd H2 p (.dK (VF (ks.zip bp) kx u)),rfl,?_,?_⟩
    ·rw[Qmm r2 q1];exact DPut.k k4 (by rw[List.length_zip,show ks.length=bp.length from k7,Nat.min_self,<-show ks.length=bp.length from k7,Z5];exact hz)
    ·rw[a1];rw[a4]at k;exact k _ F2 _ (g1.ff.trans g2.ff) (eS.write hi (Jn e2) h1 k2 k3 a2 a3)
   ·cases q2
end
noncomputable def er(H:Hp)(p:Addr):Hp:=λa=>if a=p then none else H a
theorem Qkt{H:Hp}{p:Addr}:er H p p=none:=if_pos rfl
theorem Qfj{H:Hp}{p a:Addr}(h:a≠p):er H p a=H a:=if_neg h
theorem Qtn{H:Hp}{p:Addr}:Sm (er H p) H:=λa o h=>by
 by_cases z:a=p;·rw[z,Qkt]at h;cases h
 ·rw[Qfj z]at h;exact h
theorem Sm.er{F H:Hp}(s:Sm F H){p:Addr}(h:F p=Option.none):Sm F (er H p):=λa o e=>by
 have:a≠p:=λz=>by rw[z,h]at e;cases e
 rw[Qfj this];exact s a o e
section
variable{P:Program}{w:World}{K:Fg}{mg:Str->Option Value}{ae:Heap}{x:Str}{st:Stmt}{N ps:List Str}{k:Nat}{b:EvS}
theorem QgO{F H:Hp}{us:List V}{cs:List D}{p:Addr}{kk:Option (List Kd)}{xs:List V}{es:List D}(n m:Nat)(hm:us.length=m)(hn:m<n)(et:n<=1000)(s:Sm F H)(r:Reps K F us cs)(hf:F p=none)(hp:H p=some (ho kk xs))(hk:Y6 kk xs)(re:Reps K F xs es):RS K H ⟨F,er H p,some p⟩ F H ((us++[V.ref p]).map some++List.replicate (n-(us++[V.ref p]).length) none) (sD n (cs++[dOf kk es])) [m,JW m]:=by
 have hc:cs.length=m:=by rw[<-r.length];exact hm
 have em:(sD n (cs++[dOf kk es]))[m]?=some (some (dOf kk es)):=by
  unfold sD;rw[getElem?_append_left (by rw[length_map,length_append,hc];simp),getElem?_map,getElem?_append_right (by omega),hc];simp
 have sm:((us++[V.ref p]).map some++List.replicate (n-(us++[V.ref p]).length) none)[m]?=some (some (V.ref p)):=by
  rw[getElem?_append_left (by rw[length_map,length_append,hm];simp),getElem?_map,getElem?_append_right (by omega),hm];simp
 have big:∀i d,(sD n (cs++[dOf kk es]))[i]?=some (some d)->i<n:=λi d h=>by
  have:i<(sD n (cs++[dOf kk es])).length:=by cases lt_or_ge i (sD n (cs++[dOf kk es])).length with|inl h=>exact h|inr h'=>rw[getElem?_eq_none h']at h;cases h
  unfold sD at this;rw[length_append,length_map,length_append,length_replicate,hc]at this;simp at this;omega
 refine⟨s,Qtn,.refl F,λ_ _ h=>.inl h,λi d h hi=>?_,λi d h hi=>?_,λi j q d1 d2 hi hj h1 h2 _ _=>?_,λi hi=>?_,?_⟩
 ·have da:i≠m:=λz=>hi (by rw[z];simp);unfold sD at h;rcases lt_or_ge i m with hl|hl
  ·rw[getElem?_append_left (by rw[length_map,length_append,hc];simp;omega),getElem?_map,getElem?_append_left (by omega)]at h;have hd:cs[i]?=some d:=by cases q:cs[i]? with|none=>rw[q]at h;cases h|some d'=>rw[q]at h;cases h;rfl
   obtain⟨v,h1,h2⟩:=r.get hd;refine⟨v,?_,h2⟩;rw[getElem?_append_left (by rw[length_map,length_append,hm];simp;omega),getElem?_map,getElem?_append_left (by omega),h1];rfl
  ·rw[getElem?_append_right (by rw[length_map,length_append,hc];simp;omega),getElem?_replicate]at h;split at h<;>cases h
 ·have cX:=big i d h;have cA:i=m:=by
   rcases List.mem_cons.mp hi with z|z;·exact z
   ·have:=List.mem_singleton.mp z;unfold JW at this;omega
  subst cA;rw[em]at h;cases h;exact⟨p,kk,xs,es,sm,Qkt,hf,hp,re,rfl,hk⟩
 ·have a1:=big i d1 h1;have a2:=big j d2 h2;have e1:i=m:=by
   rcases List.mem_cons.mp hi with z|z;·exact z
   ·have:=List.mem_singleton.mp z;unfold JW at this;omega
  have e2:j=m:=by
   rcases List.mem_cons.mp hj with z|z;·exact z
   ·have:=List.mem_singleton.mp z;unfold JW at this;omega
  rw[e1,e2]
 ·have:i=m:=by
   rcases List.mem_cons.mp hi with z|z;·unfold JW at z;omega
   ·have:=List.mem_singleton.mp z;unfold JW at this;omega
  subst this;exact⟨p,rfl,sm⟩
 ·unfold sD;simp[r.length]
end
theorem RS.call{K:Fg}{H₀:Hp}{F0:Fz}{F H F' H':Hp}{σ:L2.St}{en:Qh}{O:List Nat}{i:Nat}{p:Addr}{d0:D}{kk:Option (List Kd)}{xs:List V}{es:List D}(r:RS K H₀ F0 F H σ en O)(hi:i∈O)(he:en[i]?=some (some d0))(hσ:σ[i]?=some (some (.ref p)))(h0:F0.h p=none)(g:Gr F (er H p) F' H')(hf:F' p=none)(hp:H' p=some (ho kk xs))(hk:Y6 kk xs)(re:Reps K F' xs es):RS K H₀ F0 F' H' σ (en.set i (some (dOf kk es))) O:=have hl:i<en.length:=by cases lt_or_ge i en.length with|inl h=>exact h|inr h=>rw[getElem?_eq_none h]at he;cases he
 {
 fh:=g.fh
 hh:=(r.hh.er h0).trans g.hh
 ff:=r.ff.trans g.ff
 fr:=λa o e=>by
  rcases g.fr a o e with z|z;·exact r.fr a o z
  ·by_cases q:a=p;·rw[q,hf]at e;cases e
   ·rw[Qfj q]at z;exact .inr (r.hh.none z)
 slot:=λj d' e1 hj=>by
  have z:i≠j:=λz=>hj (z▸hi);rw[QU hl,if_neg z]at e1;obtain⟨v,h1,h2⟩:=r.slot j d' e1 hj;exact⟨v,h1,h2.mono g.ff⟩
 own:=λj d' e1 hj=>by
  rw[QU hl]at e1;split at e1;·rename_i z;cases e1;subst z;exact⟨p,kk,xs,es,hσ,h0,hf,hp,re,rfl,hk⟩
  ·rename_i z;obtain⟨q,k2,ys,fX,h1,h2,h3,h4,h5,h6⟩:=r.own j d' e1 hj;have qp:q≠p:=λw:q=p=>z (r.dis i j p _ _ hi hj he e1 hσ (by rw[<-w];exact h1));have e4:er H p q=some (ho k2 ys):=by rw[Qfj qp];exact h4
   refine⟨q,k2,ys,fX,h1,h2,?_,g.hh _ _ e4,h5.mono g.ff,h6⟩;cases w:F' q with|none=>rfl|some o=>
    rcases g.fr q o w with z2|z2;·rw[h3]at z2;cases z2
    ·rw[e4]at z2;cases z2
 dis:=λj k q d1 d2 hj fL f1 f2 g1 g2=>by
  rw[QU hl]at f1 f2;have k1:∃d,en[j]?=some (some d):=by
   split at f1;·rename_i z;subst z;exact⟨_,he⟩
   ·exact⟨_,f1⟩
  have k2:∃d,en[k]?=some (some d):=by
   split at f2;·rename_i z;subst z;exact⟨_,he⟩
   ·exact⟨_,f2⟩
  obtain⟨_,k1⟩:=k1;obtain⟨_,k2⟩:=k2;exact r.dis j k q _ _ hj fL k1 k2 g1 g2
 pin:=r.pin
 len:=by rw[length_set];exact r.len}
def tLM(X:Cx)(O:List Nat)(i:Nat)(l:EvL):TA:=λσ H Q=>∃F0 F e ds p,RS X.K X.H₀ F0 F H σ e O/\l e=some ds/\σ[i]?=some (some (.ref p))/\∀vs F' H',Gr F H F' H'->Reps X.K F' vs ds->Q (vs++[.ref p]) H'
section
variable{X:Cx}{O OL:List Nat}{w:Bool}{e a:Expr}{es:List Expr}{p pos ak:Pos}{x y:Str}{ps:List Str}{k:Nat}
theorem VY(i:Nat)(hN:X.N[i]?=some x:=by rfl)(hv:Vis X.env.scope x:=by first|exact Or.inl rfl|exact Or.inr (Or.inl rfl)|exact Or.inr (Or.inr rfl))(hd:(x==("__debug__":Str))=false:=by decide)(bC:(x==("__classdict__":Str))=false:=by decide):PA X [.Name x p] (tLM X O i lN):=PA.imp (Q6 (Ji hN hv hd bC) ZV JD) λσ H Q⟨F0,F,en,ds,q,rs,z,hσ,k⟩=>by cases z;exact⟨_,hσ,k [] F H (.refl rs.fh) .nil⟩
theorem QZ{i:Nat}{ea:EvE}{l:EvL}(ha:PE X a (tD X O ea))(hr:PA X es (tLM X O i l))(hs:starEach (a::es) X.env=(false,eval a X.env)::starEach es X.env:=by rfl):PA X (a::es) (tLM X O i (lC ea l)):=PA.imp (Q6 ha hr hs) λσ H Q⟨F0,F,en,ds,q,rs,z,hσ,k⟩=>by obtain⟨d,e1,e2⟩:=QL z;obtain⟨bR,e3,rfl⟩:=JI e2;refine⟨F0,F,en,d,rs,e1,λv F1 H1 g1 r1=>?_⟩;exact⟨F0,F1,en,bR,q,rs.grow g1,e3,hσ,λvs F2 H2 g2 r2=>k (v::vs) F2 H2 (g1.trans g2) (.cons (r1.mono g2.ff) r2)⟩
end
def spR(K:Fg)(f:List D->Option (D×D)):Sp:=λvs H Q _=>∃F us cs p kk xs es r,Sm F H/\vs=us++[.ref p]/\Reps K F us cs/\F p=none/\H p=some (ho kk xs)/\Y6 kk xs/\Reps K F xs es/\f (cs++[dOf kk es])=some r/\∀v bM bp b9 F' H',Gr F (er H p) F' H'->Rep K F' v r.1->F' p=none->H' p=some (ho bM bp)->Y6 bM bp->Reps K F' bp b9->r.2=dOf bM b9->Q v H'
section
variable{P:Program}{w:World}{K:Fg}{mg:Str->Option Value}{ae:Heap}{x:Str}{st:Stmt}{N ps:List Str}{k:Nat}{b:EvS}
theorem Qn2(h:Df K mg x st ps)(S:FnScope N ps (Qc st)){O' OL:List Nat}(kQ:0<ps.length)(kR:ps.length<=N.length)(iK:N.length<=1000)(hb:∀(f:Addr)(ao:Value)(A:Around)(ag:List Env)(s:Shared)(H:Hp)(E:XK),Room k (A.deeper (envOfC x (Qc st) s.heap.objs.size f ao))->PSs (ZJ CX0 P w K mg ae N x (Qc st) f ao A ag s H E).nox (QY st) (tS (ZJ CX0 P w K mg ae N x (Qc st) f ao A ag s H E).nox [ps.length-1,JW (ps.length-1)] O' OL false b)):Cal P w K mg ae (k+1) x ps (spR K (Qa3 N.length ps.length b)):=by
 obtain⟨f,fd,F,eA,hm⟩:=h;have len:∀{us:List V}{cs:List D}{Fz:Hp}{dd:D}{d:D×D},Reps K Fz us cs->Qa3 N.length ps.length b (cs++[dd])=some d->us.length=ps.length-1/\cs.length=ps.length-1:=λr e=>by
  unfold Qa3 at e;split at e
  ·rename_i z;rw[length_append]at z;simp at z;have:=r.length;omega
  ·cases e
 refine⟨f,fd,F.ok S (λvs H Q E⟨Fz,us,cs,p,kk,xs,es,d,s,hv,r,hf,hp,hk,re,e,_⟩=>?_) (λao A ag s H vs Q E hr⟨Fz,us,cs,p,kk,xs,es,d,sm,hv,r,hf,hp,hk,re,e,k⟩=>?_),eA,F.kp,hm⟩;·have:=len r e;rw[hv,length_append];simp;omega
 ·refine⟨_,hb f ao A ag s H E hr,?_⟩;have hl:=len r e;unfold Qa3 at e;split at e;·cases q:b (sD N.length (cs++[dOf kk es]))with
   |none=>rw[q]at e;cases e|some fl=>
    rw[q]at e;have b5:YV N vs=(us++[V.ref p]).map some++List.replicate (N.length-(us++[V.ref p]).length) none:=by rw[hv];rfl
    rw[b5];refine⟨⟨Fz,er H p,some p⟩,Fz,sD N.length (cs++[dOf kk es]),fl,QgO N.length (ps.length-1) hl.1 (by omega) iK sm r hf hp hk re,q,?_⟩;cases fl with
    |rm d' z'=>cases e;rintro v F' H' ex rv⟨p',bM,bp,b9,m1,h3,h4,h5,h6,h7⟩;cases m1;exact k v bM bp b9 F' H' ex.gr rv h3 h4 h7 h5 h6|nx en=>cases e|rz c d'=>cases e|rt d'=>cases e|bk en=>cases e|ct en=>cases e
  ·cases e
end
section
variable{X:Cx}{O O' OL:List Nat}{w:Bool}{e a:Expr}{es:List Expr}{p pos ak:Pos}{x y:Str}{ps:List Str}{k:Nat}
theorem Z2(i:Nat){ev:EvE}(h:PE X e (tD X O ev))(hi:i∈O:=by decide)(hp:JW i∈O:=by decide):PS X (.Return (some e) pos) (tS X O O' OL false (JY i ev)):=PS.imp (QhX h) λDn σ H⟨F0,F,en,fl,rs,z,k⟩=>by obtain⟨d,e1,z1⟩:=QL z;obtain⟨dz,e2,rfl⟩:=JI z1;refine⟨F0,F,en,d,rs,e1,λv F' H' g r=>?_⟩;have bb:=rs.grow g;obtain⟨q,kk,xs,ds,h1,h2,h3,h4,h5,h6,h7⟩:=bb.own i dz (Jn e2) hi;obtain⟨q',m1,m2⟩:=bb.pin i hp;rw[h1]at m2;cases m2;exact k v F' H' bb.ex r ⟨q,kk,xs,ds,m1,h3,h4,h5,h6,h7⟩
theorem QiL(i:Nat)(hi:i∈O){f:List D->Option (D×D)}{l:EvL}(c:Cal X.prog X.w X.K X.mg X.ae k x ps (spR X.K f))(hr:Room k X.A)(hg:Gl X x)(ha:PA X (e::es) (tLM X O i l))(aL:(x==("__debug__":Str))=false)(he:starEach (e::es) X.env=(false,eval e X.env)::starEach es X.env)(bc:(backTo ak (starEach es X.env)).any (·.1)=false):PE X (.Call (.Name x p) (e::es) [] ak) (λσ H Q=>∃F0 F en ds dx r,RS X.K X.H₀ F0 F H σ en O/\l en=some ds/\eV i en=some dx/\f (ds++[dx])=some r/\∀v F' H',Sm F F'->RS X.K X.H₀ F0 F' H' σ (en.set i (some r.2)) O->Rep X.K F' v r.1->Q v H'):=by
 obtain⟨fa,fd,F,hb,hk,hm⟩:=c;refine PE.imp (QcE F hr hg hm hk hb (.nil:Vals [] []) Qpy ha aL he bc) λσ H Q⟨F0,F,en,ds,dx,r,rs,e1,e2,e3,k⟩=>?_;obtain⟨q,kk,xs,b9,h1,h2,h3,h4,h5,h6,h7⟩:=rs.own i dx (Jn e2) hi;refine⟨F0,F,en,ds,q,rs,e1,h1,λvs F1 H1 g1 r1=>?_⟩;have bb:=rs.grow g1;obtain⟨q',bM,bp,fX,k1,k2,k3,k4,k5,k6,k7⟩:=bb.own i dx (Jn e2) hi;rw[h1]at k1;cases k1;subst k6;refine⟨F1,vs,ds,q,bM,bp,fX,r,g1.fh,?_,r1,k3,k4,k7,k5,e3,λv ky jo l9 F' H' g rv hf hp iz re ed=>?_⟩;·rw[append_nil]
 ·refine k v F' H' (g1.ff.trans g.ff) ?_ rv;rw[ed];exact bb.call hi (Jn e2) h1 k2 g hf hp iz re
theorem Qky(i:Nat)(hi:i∈O){f:List D->Option (D×D)}{l:EvL}(c:Cal X.prog X.w X.K X.mg X.ae k x ps (spR X.K f))(hr:Room k X.A)(hg:Gl X x)(ha:PA X (e::es) (tLM X O i l))(hp:JW i∈O:=by decide)(aL:(x==("__debug__":Str))=false:=by decide)(he:starEach (e::es) X.env=(false,eval e X.env)::starEach es X.env:=by rfl)(bc:(backTo ak (starEach es X.env)).any (·.1)=false:=by rfl):PS X (.Return (some (.Call (.Name x p) (e::es) [] ak)) pos) (tS X O O' OL false (Qeg i f l)):=PS.imp (QhX (QiL i hi c hr hg ha aL he bc)) λDn σ H⟨F0,F,en,fl,rs,z,k⟩=>by
  obtain⟨ds,e1,z1⟩:=QL z;obtain⟨dx,e2,z2⟩:=QL z1;obtain⟨r,e3,rfl⟩:=JI z2;refine⟨F0,F,en,ds,dx,r,rs,e1,e2,e3,λv F' H' sF bb rv=>?_⟩;have hl:i<en.length:=by have:=Jn e2;exact(List.getElem?_eq_some_iff.mp this).1
  obtain⟨q,kk,xs,bR,h1,h2,h3,h4,h5,h6,h7⟩:=bb.own i r.2 (by rw[QU hl,if_pos rfl]) hi;obtain⟨q',m1,m2⟩:=bb.pin i hp;rw[h1]at m2;cases m2;exact k v F' H' bb.ex rv ⟨q,kk,xs,bR,m1,h3,h4,h5,h6,h7⟩
theorem Qkz(i:Nat)(hi:i∈O){f:List D->Option (D×D)}{l:EvL}{tg:Expr}{g:EvG}(c:Cal X.prog X.w X.K X.mg X.ae k x ps (spR X.K f))(hr:Room k X.A)(hg:Gl X x)(ha:PA X (e::es) (tLM X O i l))(ht:PG X tg (tG X O O' g))(aL:(x==("__debug__":Str))=false:=by decide)(he:starEach (e::es) X.env=(false,eval e X.env)::starEach es X.env:=by rfl)(bc:(backTo ak (starEach es X.env)).any (·.1)=false:=by rfl)(hs:swapsWithSole [tg] (.Call (.Name x p) (e::es) [] ak) pos.line X.env=pure false:=by rfl)(hw:swappedStores [tg] (.Call (.Name x p) (e::es) [] ak) X.env=pure none:=by rfl)(h1:(assignEach [tg] X.env).map (·.2)=[assign tg X.env]:=by rfl):PS X (.Assign [tg] (.Call (.Name x p) (e::es) [] ak) pos) (tS X O O' OL w (Qc1 i f l g)):=PS.imp (Qma (QiL i hi c hr hg ha aL he bc) ht hs hw h1) λDn σ H⟨F0,F,en,fl,rs,z,k⟩=>by obtain⟨ds,e1,z1⟩:=QL z;obtain⟨dx,e2,z2⟩:=QL z1;obtain⟨r,e3,z3⟩:=QL z2;obtain⟨cc,e4,rfl⟩:=JI z3;exact⟨F0,F,en,ds,dx,r,rs,e1,e2,e3,λv F' H' sF bb rv=>⟨F0,F',_,r.1,cc,bb,rv,e4,λσ2 H2 F2 g2 eS=>k σ2 F2 H2 (sF.trans g2.ff) eS⟩⟩
end
structure Passed(s₀:Heap)(H:Hp)(fs ch:List Addr)(ea:Addr)(h h':Heap):Prop where
 keep:∀b o,h.get? b=some o->b∉fs->b≠ea->b∉ch->h'.get? b=some o
 slot:∀b o,h.get? b=some o->b∈fs->∃sl,h'.get? b=some {o with slots:=sl}ex:∀oe vs,h.get? ea=some oe->oe.data=.fields vs->∃cH,h'.get? ea=some {oe with data:=.fields cH}/\cH.size=vs.size/\cH[0]?=vs[0]?
 ch0:∀T∈ch,s₀.objs.size<=T/\H T=none/\∃o ts,h.get? T=some o/\o.data=.fields ts
 cht:∀T∈ch,∃o,h'.get? T=some o
 fly:Fly s₀ H ea h'
section
variable{M:Model}{A:Around}{E:Value->Shared->Prop}{s:Shared}
theorem Qkk{oe:Obj}{vs:Array Value}(hd:oe.data=.fields vs)(f:Array Value->Array Value):Obj.mapFields f oe={oe with data:=.fields (f vs)}:=by obtain⟨c,d,dt,sl⟩:=oe;dsimp only at hd;subst hd;rfl
theorem Qbb{ae:Heap}{env:Env}{ag:List Env}{L ea:Addr}{oe:Obj}{vs:Array Value}{head:Value}{dA:Bool}{s₀:Heap}{H:Hp}{Q:Unit->Shared->Prop}(cJ:A.frames=some (env::ag))(hl:s.heap.FunFrames ae (env::ag))(hf:env.frame=some L)(he:s.heap.get? ea=some oe)(hd:oe.data=.fields vs)(hsz:vs.size=6)(h0:s₀.objs.size<=ea)(hs:s₀.objs.size<=s.heap.objs.size)(hH:∀a,s.heap.objs.size<=a->H a=none)(h:∀h',Passed s₀ H (frs (env::ag)) [] ea s.heap h'->Q () {s with heap:=h'}):wpAny M A (do let a<-frameOf env;let pl<-entryPlaceOf L dA;let b<-EntryCells.newEntry head a .none (rawInt L) .none pl;setField (.ref ea) 1 b) (λ_ s'=>wpAny M A (setFlight (.ref ea) none) Q E s') E s:=by
 have gh:ea∉(env::ag).filterMap (·.frame):=λhm=>by
  obtain⟨_,o,ho,dG⟩:=hl.mem hm;rw[he]at ho;injection ho with ho;subst ho;exact dG vs hd
 have h1:1<vs.size:=by omega
 refine wpAny_bind (wpAny_frameOf_fun cJ hl hf λh₁ cw=>?_);refine wpAny_bind (wpAny_entryPlaceOf λpl bc=>?_);unfold EntryCells.newEntry newFields;refine wpAny_bind (wpAny_newObj_type ?_ (bc.sizeOk5 _ _ _ _ _));have dY:h₁.get? ea=some oe:=(cw.2.1 ea gh).trans he;have dX:=Heap.get?_push_of_some (h:=h₁) {cls:=.type "traceback",dict:=none,data:=.fields ([head,.ref L,.none,rawInt L,.none]++(if pl.isEmpty then List.replicate 6 Value.none else pl)).toArray} dY;refine wpAny_setField dX hd h1 ?_;have dg:h₁.objs.size≠ea:=ne_of_gt (Heap.lt_size dY);have dZ:=Obj.data_mapFields hd (·.setIfInBounds 1 (Value.ref h₁.objs.size));have dU:=Heap.get?_update_self (Obj.mapFields (·.setIfInBounds 1 (Value.ref h₁.objs.size))) dX (Obj.isFreed_of_fields dZ);have d3:=(Heap.get?_update_other (h₁.push {cls:=.type "traceback",dict:=none,data:=.fields ([head,.ref L,.none,rawInt L,.none]++(if pl.isEmpty then List.replicate 6 Value.none else pl)).toArray}) (Obj.mapFields (·.setIfInBounds 1 (Value.ref h₁.objs.size))) (Ne.symm dg)).trans (Heap.get?_push_size h₁ rfl);unfold setFlight;refine wpAny_bind (wpAny_field dU dZ (x:=.ref h₁.objs.size) (by simp[h1]) ?_);rw[if_pos (show(Value.ref h₁.objs.size !=Value.none)=true from by simp)];refine wpAny_setField d3 rfl (by simp only[size_toArray,length_append,length_cons,length_nil]<;>omega) (h _ ?_);have keep:∀b o,b≠ea->h₁.get? b=some o->(((h₁.push {cls:=.type "traceback",dict:=none,data:=.fields ([head,.ref L,.none,rawInt L,.none]++(if pl.isEmpty then List.replicate 6 Value.none else pl)).toArray}).update ea (Obj.mapFields (·.setIfInBounds 1 (Value.ref h₁.objs.size)))).update h₁.objs.size (Obj.mapFields (·.setIfInBounds 3 ((none:Option Addr).elim Value.none λf=>rawInt f)))).get? b=some o:=λb o b3 hb=>by have lO:h₁.objs.size≠b:=ne_of_gt (Heap.lt_size hb);rw[Heap.get?_update_other _ _ lO,Heap.get?_update_other _ _ (Ne.symm b3)];exact Heap.get?_push_of_some _ hb
 have jM:=(Heap.get?_update_other ((h₁.push {cls:=.type "traceback",dict:=none,data:=.fields ([head,.ref L,.none,rawInt L,.none]++(if pl.isEmpty then List.replicate 6 Value.none else pl)).toArray}).update ea (Obj.mapFields (·.setIfInBounds 1 (Value.ref h₁.objs.size)))) (Obj.mapFields (·.setIfInBounds 3 ((none:Option Addr).elim Value.none λf=>rawInt f))) dg).trans dU;have fR:=Heap.get?_update_self (Obj.mapFields (·.setIfInBounds 3 ((none:Option Addr).elim Value.none λf=>rawInt f))) d3 (Obj.isFreed_of_fields (Obj.data_mapFields rfl _));have mL:s.heap.objs.size=h₁.objs.size:=cw.1.symm;refine⟨λb o hb cb b3 _=>keep b o b3 ((cw.2.1 b cb).trans hb),λb o hb cb=>?_,λgB cH dJ de=>?_,(λT hT=>nomatch hT),(λT hT=>nomatch hT),⟨h0,_,_,jM,Obj.data_mapFields hd _,by simp[hsz],.inr ⟨h₁.objs.size,_,_,by simp[h1],by omega,hH _ (by omega),dg,fR,Obj.data_mapFields rfl _,?_⟩⟩⟩;·obtain⟨sl,e⟩:=cw.2.2 b o hb;exact⟨sl,keep b _ (λz=>gh (z▸cb)) e⟩
 ·rw[he]at dJ;cases dJ;rw[hd]at de;cases de;refine⟨vs.setIfInBounds 1 (.ref h₁.objs.size),?_,by simp,by rw[Array.getElem?_setIfInBounds_ne (by decide)]⟩;rw[jM,Qkk hd]
 ·first|(simp;done)|(rcases bc with rfl|⟨_,_,_,_,_,_,_,rfl⟩<;>simp)
theorem Qlr{ae:Heap}{env:Env}{ag:List Env}{L ea:Addr}{s₀:Heap}{H:Hp}{Q:Unit->Shared->Prop}(cJ:A.frames=some (env::ag))(hl:s.heap.FunFrames ae (env::ag))(hf:env.frame=some L)(hs:s₀.objs.size<=s.heap.objs.size)(hH:∀a,s.heap.objs.size<=a->H a=none)(fly:Fly s₀ H ea s.heap)(h:∀h' ch,Passed s₀ H (frs (env::ag)) ch ea s.heap h'->Q () {s with heap:=h'}):wpAny M A (noteFrame (.ref ea) env) (λ_ s'=>wpAny M A (setFlight (.ref ea) none) Q E s') E s:=by
 obtain⟨h0,oe,vs,he,hd,hsz,h1|⟨T,oT,ts,h1,iJ,iL,dg,hT,cF,h3⟩⟩:=fly
 ·unfold noteFrame;simp only[hf];refine wpAny_bind (wpAny_field he hd h1 ?_);rw[if_neg (by decide)];exact Qbb cJ hl hf he hd hsz h0 hs hH λh' p=>h h' [] p
 ·unfold noteFrame;simp only[hf];refine wpAny_bind (wpAny_field he hd h1 ?_);rw[if_pos (show(Value.ref T !=Value.none)=true from by simp)];refine wpAny_bind (wpAny_field hT cF h3 ?_);rw[if_neg (show¬((Value.none==rawInt L)=true)from by simp[rawInt])];refine wpAny_bind (wpAny_setField hT cF (Array.getElem?_eq_some_iff.mp h3).1 ?_);have other:∀b,b≠T->(s.heap.update T (Obj.mapFields (·.setIfInBounds 3 Value.none))).get? b=s.heap.get? b:=λb hb=>Heap.get?_update_other _ _ (Ne.symm hb);have fR:=Heap.get?_update_self (Obj.mapFields (·.setIfInBounds 3 Value.none)) hT (Obj.isFreed_of_fields (Obj.data_mapFields cF _));have jw:∀b o,s.heap.get? b=some o->(∀vs,o.data≠.fields vs)->b≠T:=λb o hb dG q=>by rw[q,hT]at hb;injection hb with hb;subst hb;exact dG ts cF
  have di:(s.heap.update T (Obj.mapFields (·.setIfInBounds 3 Value.none))).objs.size=s.heap.objs.size:=Heap.size_update ..;have jx:∀b∈frs (env::ag),b≠T:=λb hb=>by
   obtain⟨_,o,ho,dG⟩:=hl.mem hb;exact jw b o ho dG
  refine Qbb (ae:=ae) cJ (hl.of_keeps λb o hb dG=>⟨o,(other b (jw b o hb dG)).trans hb,rfl⟩) hf ((other ea (Ne.symm dg)).trans he) hd hsz h0 (by show s₀.objs.size<=(s.heap.update T _).objs.size;rw[di];exact hs) (λa ha=>hH a (by have:(s.heap.update T (Obj.mapFields (·.setIfInBounds 3 Value.none))).objs.size<=a:=ha;rw[di]at this;exact this)) λh' p=>h h' [T] ?_;refine⟨λb o hb cb b3 hc=>p.keep b o ((other b (λz=>hc (by simp[z]))).trans hb) cb b3 (by simp),λb o hb cb=>p.slot b o ((other b (jx b cb)).trans hb) cb,λgB cH dJ de=>p.ex gB cH ((other ea (Ne.symm dg)).trans dJ) de,λT' fS=>?_,λT' fS=>?_,p.fly⟩;·rw[mem_singleton]at fS;subst fS;exact⟨iJ,iL,oT,ts,hT,cF⟩
  ·rw[mem_singleton]at fS;subst fS;exact⟨_,p.keep T' _ fR (λz=>jx T' z rfl) dg (by simp)⟩
theorem QjU{ae:Heap}{env:Env}{ag:List Env}{L ea:Addr}{s₀:Heap}{H:Hp}{Q:Unit->Shared->Prop}(cJ:A.frames=some (env::ag))(hl:s.heap.FunFrames ae (env::ag))(hf:env.frame=some L)(hs:s₀.objs.size<=s.heap.objs.size)(hH:∀a,s.heap.objs.size<=a->H a=none)(fly:Fly s₀ H ea s.heap)(h:∀h' ch,Passed s₀ H (frs (env::ag)) ch ea s.heap h'->Q () {s with heap:=h'}):wpAny M A (leaving env (.ref ea)) Q E s:=by unfold leaving;exact wpAny_bind (Qlr cJ hl hf hs hH fly h)
end
def CX1(P:Program)(w:World):CXT:=λag H s E e s'=>∃ea H',e=.ref ea/\s'.os=s.os/\AllBare s'.gens/\Un (frs ag) [] H H' s.heap s'.heap/\HOk P w H' s'.heap/\Fly s.heap H' ea s'.heap/\E (.ref ea) none H'
def VS(P:Program)(w:World)(K:Fg)(mg:Str->Option Value)(ae:Heap)(k:Nat)(x:Str)(ps:List Str)(sp:Sp):Prop:=∃f fd,FnOk P w K mg ae (CX1 P w) k f fd ps sp/\Binds K fd ps []/\W.keepIn K (.ref f)=true/\mg x=some (.ref f)
noncomputable def spX(K:Fg)(f:List D->Option Rs):Sp:=λvs H Q E=>∃F ds r,Sm F H/\Reps K F vs ds/\f ds=some r/\match r with|.inl d=>∀v F' H',Gr F H F' H'->Rep K F' v d->Q v H'|.inr (c,n)=>∀ea F' H',Gr F H F' H'->Rep K F' (.ref ea) (.exc c n)->E (.ref ea) none H'
def Qf6(K:Fg)(f:List D->Option Rs):Sp:=λvs H Q E=>∃F us cs p kk xs es r,Sm F H/\vs=us++[.ref p]/\Reps K F us cs/\F p=none/\H p=some (ho kk xs)/\Y6 kk xs/\Reps K F xs es/\f (cs++[dOf kk es])=some r/\match r with|.inl d=>∀bM bp b9 F' H',Gr F (er H p) F' H'->F' p=none->H' p=some (ho bM bp)->Y6 bM bp->Reps K F' bp b9->d=dOf bM b9->Q .non H'|.inr (c,n)=>∀ea F' H',Gr F (er H p) F' H'->Rep K F' (.ref ea) (.exc c n)->E (.ref ea) none H'
theorem Rep.exF{K:Fg}{F:Hp}{ea:Addr}{c:Nat}{n:D}(r:Rep K F (.ref ea) (.exc c n)):∃C dx,F ea=some (.ext (YZ ea C dx)):=by cases r with|exc0 h=>exact⟨_,_,h⟩|exc h hx=>exact⟨_,_,h⟩
theorem Fly.mono{s₀ s₁:Heap}{H:Hp}{ea:Addr}{h:Heap}(f:Fly s₁ H ea h)(le:s₀.objs.size<=s₁.objs.size):Fly s₀ H ea h:=by
 obtain⟨a,oe,vs,b,c,d,e|⟨T,oT,ts,e1,e2,e3⟩⟩:=f;·exact⟨by omega,oe,vs,b,c,d,.inl e⟩
 ·exact⟨by omega,oe,vs,b,c,d,.inr ⟨T,oT,ts,e1,by omega,e3⟩⟩
theorem Passed.hok{X:Cx}{aa:List (Addr×Obj)}{σ:L2.St}{H F:Hp}{s:Shared}{s₀:Heap}{ch:List Addr}{ea:Addr}{h':Heap}{c:Nat}{n:D}(I:Inv X aa σ H s)(sm:Sm F H)(r:Rep X.K F (.ref ea) (.exc c n))(p:Passed s₀ H (frs X.stack) ch ea s.heap h'):HOk X.prog X.w H h':=λa o e=>by
 obtain⟨C,dx,hF⟩:=r.exF;have hE:=sm _ _ hF;by_cases z:a=ea
 ·subst z;rw[hE]at e;cases e;obtain⟨⟨vs,t,h1,h2,h3⟩,_,st⟩:=(show ObjOk X.prog X.w H s.heap a (.ext (YZ a C dx))from I.hok a _ hE);obtain⟨cH,g1,g2,g3⟩:=p.ex _ vs h1 rfl;exact⟨⟨cH,t,g1,by omega,by rw[g3];exact h3⟩,⟨_,g1⟩,st⟩
 ·refine(I.hok a o e).stay (λb u hb q=>?_) (λb q=>q) λb xs q=>q;have hH:∃o,H b=some o/\b≠ea:=by
   rcases hb with rfl|hb;·exact⟨o,e,z⟩
   ·exact⟨_,hb,λw=>by rw[w,hE]at hb;cases hb⟩
  obtain⟨o',hH,da⟩:=hH;refine p.keep b u q (λw=>?_) da λw=>?_;·rw[I.stkFree b w]at hH;cases hH
  ·rw[(p.ch0 b w).2.1]at hH;cases hH
section
variable{P:Program}{w:World}{K:Fg}{mg:Str->Option Value}{ae:Heap}{x:Str}{st:Stmt}{N ps:List Str}{k:Nat}{b:EvS}
theorem Fun.okX{CX:CXT}{qual:Str}{f:Addr}{fd:FuncData}{sp:Sp}(F:Fun K x qual st f fd)(S:FnScope N ps (Qc st))(len:∀vs H Q E,sp vs H Q E->vs.length=ps.length)(b7:∀(ao:Value)(A:Around)(ag:List Env)(s:Shared)(H:Hp)(vs:List V)(Q:VK)(E:XK),Room k (A.deeper (envOfC qual (Qc st) s.heap.objs.size f ao))->sp vs H Q E->∃t,PSs (ZJ CX P w K mg ae N qual (Qc st) f ao A ag s H E) (QY st) t/\t {nx:=λ_ H'=>Q .non H',rt:=Q} (YV N vs) H):FnOk P w K mg ae CX (k+1) f fd ps sp:=by obtain⟨oc,od,kV,doc,pm,an,ao,ct,osl,rfl,lk,bC⟩:=F.ex;exact QpL lk bC S len λA ag s H vs Q E hr cV=>b7 ao A ag s H vs Q E hr cV
theorem Qie{f:Addr}{ao:Value}{A:Around}{ag:List Env}{s:Shared}{H:Hp}{E:XK}{scope:Scope}{F0:Fz}{c:Nat}{n:D}(hk:∀ea F' H',Gr F0.f F0.h F' H'->Rep K F' (.ref ea) (.exc c n)->E (.ref ea) none H'):XW (ZJ (CX1 P w) P w K mg ae N x scope f ao A ag s H E) F0 c n:=by
 intro aa σ F H' s' ea I ex r fly;have B:Un (frs ag) [] H H' s.heap s'.heap:=I.ae;refine QjU (ae:=ae) (ag:=ag) (L:=s.heap.objs.size) (s₀:=s.heap) (H:=H') I.ok.frames I.stack rfl I.sz (λa ha=>I.hok.fresh ha) fly λh' ch p=>⟨ea,H',rfl,I.os,I.bare,?_,p.hok I ex.fh r,p.fly,hk ea F H' ex.gr r⟩;have lt:∀b o,s.heap.get? b=some o->b≠ea/\b∉ch/\b≠s.heap.objs.size:=λb o q=>by
  have h1:=Heap.lt_size q;refine⟨λz=>?_,λz=>?_,ne_of_lt h1⟩;·exact absurd (lt_of_lt_of_le h1 (show s.heap.objs.size<=b by rw[z];exact fly.1)) (lt_irrefl _)
  ·exact absurd (lt_of_lt_of_le h1 (p.ch0 b z).1) (lt_irrefl _)
 have nf:∀b o,s.heap.get? b=some o->b∉frs ag->b∉frs (envOfC x scope s.heap.objs.size f ao::ag):=λb o q hb z=>by
  rcases List.mem_cons.mp (show b∈s.heap.objs.size::frs ag from z)with z|z;·exact(lt b o q).2.2 z
  ·exact hb z
 have fo:∀b,b∈frs ag->b∈frs (envOfC x scope s.heap.objs.size f ao::ag):=λb hb=>mem_cons_of_mem s.heap.objs.size hb;refine⟨λb o q hn hb hx=>p.keep b o (B.keep b o q hn hb hx) (nf b o q hb) (lt b o q).1 (lt b o q).2.1,λb o q hn hb hx=>?_,B.free,λb o q hx=>?_,B.tups,B.frzs,B.tbls⟩
 ·obtain⟨sl,e1⟩:=B.slot b o q hn hb hx;obtain⟨d8,e2⟩:=p.slot b _ e1 (fo b hb);exact⟨d8,e2⟩
 ·obtain⟨o',e1⟩:=B.there b o q hx;by_cases hb:b∈frs ag
  ·obtain⟨sl,e2⟩:=p.slot b _ e1 (fo b hb);exact⟨_,e2⟩
  ·exact⟨o',p.keep b o' e1 (nf b o q hb) (lt b o q).1 (lt b o q).2.1⟩
theorem QkY(h:Df K mg x st ps)(S:FnScope N ps (Qc st)){O' OL:List Nat}(hb:∀(f:Addr)(ao:Value)(A:Around)(ag:List Env)(s:Shared)(H:Hp)(E:XK),Room k (A.deeper (envOfC x (Qc st) s.heap.objs.size f ao))->PSs (ZJ (CX1 P w) P w K mg ae N x (Qc st) f ao A ag s H E) (QY st) (tS (ZJ (CX1 P w) P w K mg ae N x (Qc st) f ao A ag s H E) [] O' OL false b)):VS P w K mg ae (k+1) x ps (spX K (VP N.length ps.length b)):=by
 obtain⟨f,fd,F,eA,hm⟩:=h;have len:∀{vs:List V}{ds:List D}{Fz:Hp}{r:Rs},Reps K Fz vs ds->VP N.length ps.length b ds=some r->vs.length=ps.length:=λr e=>by
  unfold VP at e;split at e;·rename_i z;rw[r.length];exact z
  ·cases e
 refine⟨f,fd,Fun.okX F S (λvs H Q E⟨F,ds,d,s,r,e,_⟩=>len r e) (λao A ag s H vs Q E hr⟨Fz,ds,d,sm,r,e,k⟩=>?_),eA,F.kp,hm⟩;refine⟨_,hb f ao A ag s H E hr,?_⟩;unfold VP at e;split at e;·cases q:b (sD N.length ds)with
  |none=>rw[q]at e;cases e|some fl=>
   rw[q]at e;have b5:YV N vs=vs.map some++List.replicate (N.length-vs.length) none:=rfl;rw[b5];refine⟨⟨Fz,H,none⟩,Fz,sD N.length ds,fl,QeM N.length sm r,q,?_⟩;cases fl with
   |nx en=>cases e;exact λσ' F' H' s' rs=>k .non F' H' rs.ex.gr .non|rt d'=>cases e;exact λv F' H' x r=>k v F' H' x.gr r|rz c d'=>cases e;exact Qie k|rm d' z'=>cases e|bk en=>cases e|ct en=>cases e
 ·cases e
theorem QhF(h:Df K mg x st ps)(S:FnScope N ps (Qc st)){O' OL:List Nat}(kQ:0<ps.length)(kR:ps.length<=N.length)(iK:N.length<=1000)(lR:ps.length-1∈O')(lQ:JW (ps.length-1)∈O')(hb:∀(f:Addr)(ao:Value)(A:Around)(ag:List Env)(s:Shared)(H:Hp)(E:XK),Room k (A.deeper (envOfC x (Qc st) s.heap.objs.size f ao))->PSs (ZJ (CX1 P w) P w K mg ae N x (Qc st) f ao A ag s H E) (QY st) (tS (ZJ (CX1 P w) P w K mg ae N x (Qc st) f ao A ag s H E) [ps.length-1,JW (ps.length-1)] O' OL false b)):VS P w K mg ae (k+1) x ps (Qf6 K (YY N.length ps.length b)):=by
 obtain⟨f,fd,F,eA,hm⟩:=h;have len:∀{us:List V}{cs:List D}{Fz:Hp}{dd:D}{d:Rs},Reps K Fz us cs->YY N.length ps.length b (cs++[dd])=some d->us.length=ps.length-1/\cs.length=ps.length-1:=λr e=>by
  unfold YY at e;split at e
  ·rename_i z;rw[length_append]at z;simp at z;have:=r.length;omega
  ·cases e
 refine⟨f,fd,Fun.okX F S (λvs H Q E⟨Fz,us,cs,p,kk,xs,es,d,s,hv,r,hf,hp,hk,re,e,_⟩=>?_) (λao A ag s H vs Q E hr⟨Fz,us,cs,p,kk,xs,es,d,sm,hv,r,hf,hp,hk,re,e,k⟩=>?_),eA,F.kp,hm⟩;·have:=len r e;rw[hv,length_append];simp;omega
 ·refine⟨_,hb f ao A ag s H E hr,?_⟩;have hl:=len r e;unfold YY at e;split at e;·cases q:b (sD N.length (cs++[dOf kk es]))with
   |none=>rw[q]at e;cases e|some fl=>
    rw[q]at e;have b5:YV N vs=(us++[V.ref p]).map some++List.replicate (N.length-(us++[V.ref p]).length) none:=by rw[hv];rfl
    rw[b5];refine⟨⟨Fz,er H p,some p⟩,Fz,sD N.length (cs++[dOf kk es]),fl,QgO N.length (ps.length-1) hl.1 (by omega) iK sm r hf hp hk re,q,?_⟩;cases fl with
    |nx en=>
     intro σ' F' H' s' rs;obtain⟨d',e1,rfl⟩:=JI (show((en[ps.length-1]?).join).map Sum.inl=some d from e);have hd:en[ps.length-1]?=some (some d'):=Jn e1;obtain⟨p',bM,bp,b9,h1,h2,h3,h4,h5,h6,h7⟩:=rs.own _ _ hd lR;obtain⟨p2,m1,m2⟩:=rs.pin _ lQ;cases m1;rw[h1]at m2;cases m2;exact k bM bp b9 F' H' rs.ex.gr h3 h4 h7 h5 h6|rz c d'=>cases e;exact Qie k|rt d'=>cases e|rm d' z'=>cases e|bk en=>cases e|ct en=>cases e
  ·cases e
end
noncomputable def EX(X:Cx):XK:=λv _ H'=>∀(ea:Addr)(aa:List (Addr×Obj))(σ:L2.St)(s':Shared),v=.ref ea->Inv X aa σ H' s'->Fly X.s₀.heap H' ea s'.heap->X.xe v s'
section
variable{X:Cx}{O OL:List Nat}{w:Bool}{e a:Expr}{es:List Expr}{p pos ak:Pos}{x y:Str}{ps:List Str}{k:Nat}
theorem Qk8:Qfx (CX1 X.prog X.w) X (EX X):=λaa σ H s e s' I⟨ea,H',he,c7,hb,un,hok,fly,ex⟩=>by subst he;exact ex ea aa σ s' rfl (I.call' c7 un hok hb λb z=>absurd z (by simp)) (fly.mono I.sz)
theorem FlOk.ex{O':List Nat}{F0:Fz}{F H:Hp}{Dn:Ends}{c:Nat}{n:D}(k:FlOk X O' OL w F0 F Dn (.rz c n))(x:Ex X.H₀ F0 F H){ea:Addr}(r:Rep X.K F (.ref ea) (.exc c n)):EX X (.ref ea) none H:=λmj aa σ s' e I fly=>by cases e;exact k aa σ F H s' ea I x r fly
theorem QeT{f:List D->Option Rs}{l:EvL}(c:VS X.prog X.w X.K X.mg X.ae k x ps (spX X.K f))(hr:Room k X.A)(hg:Gl X x)(ha:PA X (e::es) (tL X O l))(aL:(x==("__debug__":Str))=false:=by decide)(he:starEach (e::es) X.env=(false,eval e X.env)::starEach es X.env:=by rfl)(bc:(backTo ak (starEach es X.env)).any (·.1)=false:=by rfl)(cz:swapsWith (.Call (.Name x p) (e::es) [] ak) none pos.line X.env=pure false:=by rfl):PS X (.Expr (.Call (.Name x p) (e::es) [] ak) pos) (tS X O O OL w (Zq f l)):=by obtain⟨fa,fd,F,hb,hk,hm⟩:=c;refine PS.imp (Qeo (QcE F hr hg hm hk hb (.nil:Vals [] []) Qk8 ha aL he bc) cz) λDn σ H⟨F0,F,en,fl,rs,z,k⟩=>?_;obtain⟨ds,e1,z1⟩:=QL z;obtain⟨r,e2,rfl⟩:=JI z1;refine⟨F0,F,en,ds,rs,e1,λvs F1 H1 g1 r1=>?_⟩;refine⟨F1,ds,r,g1.fh,(append_nil vs).symm▸r1,e2,?_⟩;cases r with|inl d=>exact λv F' H' g _=>k σ F' H' (g1.ff.trans g.ff) (rs.grow (g1.trans g))|inr cn=>exact λea F' H' g rx=>(FlOk.mono k (g1.ff.trans g.ff)).ex (rs.exg (g1.trans g)) rx
theorem QaY(i:Nat)(hi:i∈O){f:List D->Option Rs}{l:EvL}(c:VS X.prog X.w X.K X.mg X.ae k x ps (Qf6 X.K f))(hr:Room k X.A)(hg:Gl X x)(ha:PA X (e::es) (tLM X O i l))(aL:(x==("__debug__":Str))=false:=by decide)(he:starEach (e::es) X.env=(false,eval e X.env)::starEach es X.env:=by rfl)(bc:(backTo ak (starEach es X.env)).any (·.1)=false:=by rfl)(cz:swapsWith (.Call (.Name x p) (e::es) [] ak) none pos.line X.env=pure false:=by rfl):PS X (.Expr (.Call (.Name x p) (e::es) [] ak) pos) (tS X O O OL w (Zz i f l)):=by
 obtain⟨fa,fd,F,hb,hk,hm⟩:=c;refine PS.imp (Qeo (QcE F hr hg hm hk hb (.nil:Vals [] []) Qk8 ha aL he bc) cz) λDn σ H⟨F0,F,en,fl,rs,z,k⟩=>?_;obtain⟨ds,e1,z1⟩:=QL z;obtain⟨dx,e2,z2⟩:=QL z1;obtain⟨r,e3,rfl⟩:=JI z2;obtain⟨q,kk,xs,b9,h1,h2,h3,h4,h5,h6,h7⟩:=rs.own i dx (Jn e2) hi;refine⟨F0,F,en,ds,q,rs,e1,h1,λvs F1 H1 g1 r1=>?_⟩;have bb:=rs.grow g1;obtain⟨q',bM,bp,fX,k1,k2,k3,k4,k5,k6,k7⟩:=bb.own i dx (Jn e2) hi;rw[h1]at k1;cases k1;subst k6;refine⟨F1,vs,ds,q,bM,bp,fX,r,g1.fh,?_,r1,k3,k4,k7,k5,e3,?_⟩;·rw[append_nil]
 ·cases r with
  |inl dz=>intro ky jo l9 F' H' g hf hp iz re ed;subst ed;exact k σ F' H' (g1.ff.trans g.ff) (bb.call hi (Jn e2) h1 k2 g hf hp iz re)|inr cn=>
   intro ea F' H' g rx;refine FlOk.ex (FlOk.mono k (g1.ff.trans g.ff)) ⟨g.fh,(bb.hh.er k2).trans g.hh,bb.ff.trans g.ff,λa o h=>?_⟩ rx;rcases g.fr a o h with z|z;·exact bb.fr a o z
   ·by_cases hq:a=q;·right;rw[hq];exact k2
    ·rw[Qfj hq]at z;exact .inr (bb.hh.none z)
theorem QiK{f:List D->Option Rs}{l:EvL}(c:VS X.prog X.w X.K X.mg X.ae k x ps (spX X.K f))(hr:Room k X.A)(hg:Gl X x)(ha:PA X (e::es) (tL X O l))(aL:(x==("__debug__":Str))=false:=by decide)(he:starEach (e::es) X.env=(false,eval e X.env)::starEach es X.env:=by rfl)(bc:(backTo pos (starEach es X.env)).any (·.1)=false:=by rfl):PE X (.Call (.Name x p) (e::es) [] pos) (tD X O (QdT f l)):=by obtain⟨fa,fd,F,hb,hk,hm⟩:=c;refine PE.imp (QcE F hr hg hm hk hb (.nil:Vals [] []) Qk8 ha aL he bc) λσ H Q⟨F0,F,en,d,rs,z,k⟩=>?_;obtain⟨ds,e1,z1⟩:=QL z;obtain⟨r,e2,e3⟩:=QL z1;refine⟨F0,F,en,ds,rs,e1,λvs F1 H1 g1 r1=>?_⟩;refine⟨F1,ds,r,g1.fh,(append_nil vs).symm▸r1,e2,?_⟩;cases r with|inl d'=>cases e3;exact λv F' H' g rv=>k v F' H' (g1.trans g) rv|inr cn=>cases e3
end
end Wd
namespace PySem
open Sem(wp)
structure MadeX(h h':Heap)(C:Addr):Prop where
 keeps:∀b o,h.get? b=some o->h'.get? b=some o
 ex:∃vs t,h'.get? (h.objs.size+1)=some {cls:=.ref C,data:=.fields vs}/\vs.size=6/\vs[0]?=some (.ref t)/\vs[1]?=some .none
section
variable{prog:Program}{w:World}{A:Around}{E:Value->Shared->Prop}{h:Heap}{g:Array GenState}{d:Drawn}{t:Nat}{os:OsState}
variable{nm q:Str}{C N:Addr}{bs bm cK:List Value}{hdct:Bool}{sn:List Str}{sub:List Value}{ab:Bool}{col:Option Bool}{dd:Option Addr}{k0 k1 k2 k3 k5:Option Value}{B newId bf:String}
theorem Qe4(F:ExcBaseFacts B newId bf cK)(T:OwnTail h cK bm){mN:Str->Option Value}{rest:List Value}{fI:Addr}{oI:Obj}{Q:Fin->Shared->Prop}(hC:h.get? C=some (excClassObj nm q C N bs bm hdct sn sub ab col dd k0 k1 k2 k3 k5 newId))(hn:h.Ns N mN)(hi:mN "__init__"=some (.ref fI))(iE:h.get? fI=some oI)(iD:oI.cls=.type "function")(hq:∀h',MadeX h h' C->wpAny (model prog w) A (call (.ref fI) (.ref (h.objs.size+1)::rest)) (λr s'=>r=.none/\Q (.done (.ret (.ref (h.objs.size+1)))) s') E ⟨h',g,d,t,os⟩)(hrest:rest.length<=sizeLine):wpAny (model prog w) A (Builtin.«type.__call__» ⟨.ref C::rest,[]⟩) Q E ⟨h,g,d,t,os⟩:=by
 repeat(first|with_reducible refine wpAny_loadPart_at hC ?_|with_reducible refine wpAny_madeBy_exc hC ?_|wp_step)
 refine codeAny_call_builtin_code (Code.quiet_builtin _ F.quiet) (wpAny_check_new_subT F T hC ?_);refine codeAny_exc_new_subT F T hC ?_ hrest;show wpAny _ _ _ _ _ _;have bP:=Heap.get?_push_of_some {cls:=.ref C,data:=.fields #[.ref h.objs.size,.none,.none,.none,.bool false,.none]} (Heap.get?_push_of_some {cls:=.type "tuple",data:=.seq rest.toArray} hC);have eP:=Heap.get?_push_of_some {cls:=.ref C,data:=.fields #[.ref h.objs.size,.none,.none,.none,.bool false,.none]} (Heap.get?_push_of_some {cls:=.type "tuple",data:=.seq rest.toArray} iE);have cR:((h.push {cls:=.type "tuple",data:=.seq rest.toArray}).push {cls:=.ref C,data:=.fields #[.ref h.objs.size,.none,.none,.none,.bool false,.none]}).Ns N mN:=let⟨o,es,ep,e,r⟩:=hn;⟨o,es,ep,Heap.get?_push_of_some _ (Heap.get?_push_of_some _ e),r⟩;have T₁:=T.keeps (h':=(h.push {cls:=.type "tuple",data:=.seq rest.toArray}).push {cls:=.ref C,data:=.fields #[.ref h.objs.size,.none,.none,.none,.bool false,.none]}) λb o e=>Heap.get?_push_of_some _ (Heap.get?_push_of_some _ e);have cD:((h.push {cls:=.type "tuple",data:=.seq rest.toArray}).push {cls:=.ref C,data:=.fields #[.ref h.objs.size,.none,.none,.none,.bool false,.none]}).get? (h.objs.size+1)=some {cls:=.ref C,data:=.fields #[.ref h.objs.size,.none,.none,.none,.bool false,.none]}:=by heap_get
 have fO:(Value.ref C::bm).contains (.ref C)=true:=by simp
 unfold isInstance;repeat(first|with_reducible refine wpAny_loadPart_at cD ?_|(with_reducible refine wpAny_isSubtype_exc bP ?_;rw[fO])|wp_step)
 show wpAny _ _ (typeLookup (.ref C) _) _ _ _;refine wpAny_typeLookup_tail bP cR T₁ F.mroIs F.init.lookup ?_;rw[hi];refine wpAny_holding (wpAny_bind ?_);unfold bindSpecial;refine wpAny_bind (wpAny_typeOf (T:="function") ⟨_,eP,iD⟩ ?_);rw[if_pos (by decide)];refine wpAny_pure (wpAny_bind (wpAny_mono (hq _ ⟨λb o hb=>Heap.get?_push_of_some _ (Heap.get?_push_of_some _ hb),_,_,cD,rfl,rfl,rfl⟩) (λr s' hr=>?_) λ_ _ x=>x));obtain⟨rfl,hQ⟩:=hr;wp_walk;exact hQ
theorem Qjx(F:ExcBaseFacts B newId bf cK)(T:OwnTail h cK bm){mN:Str->Option Value}{rest:List Value}{fI:Addr}{oI:Obj}{Q:Value->Shared->Prop}(hC:h.get? C=some (excClassObj nm q C N bs bm hdct sn sub ab col dd k0 k1 k2 k3 k5 newId))(hn:h.Ns N mN)(hi:mN "__init__"=some (.ref fI))(iE:h.get? fI=some oI)(iD:oI.cls=.type "function")(hq:∀h',MadeX h h' C->wpAny (model prog w) (A.under (.builtin "type.__call__" ⟨.ref C::rest,[]⟩)) (call (.ref fI) (.ref (h.objs.size+1)::rest)) (λr s'=>r=.none/\Q (.ref (h.objs.size+1)) s') E ⟨h',g,d,t,os⟩)(hrest:rest.length<=sizeLine):wpAny (model prog w) A (call (.ref C) rest) Q E ⟨h,g,d,t,os⟩:=by
 have f1:=tc_lookup;have f2:=tc_bind (.ref C);have hT:(⟨h,g,d,t,os⟩:Shared).TypeIs (.ref C) "type":=⟨_,hC,rfl⟩;refine wpAny_call (codeAny_of_tree ?_);show wpAny _ _ (callAny (.ref C) _) _ _ _;repeat(any_goals(first|assumption|with_reducible refine wpAny_loadPart_at hC ?_|wp_step))
 refine⟨rfl,?_⟩;exact codeAny_call_builtin_at (Code.quiet_builtin _ (by decide+kernel)) entry_typeCall (wpAny_check_type_call_sub hC (Qe4 (hrest:=hrest) F T hC hn hi iE iD λh' hm=>hq h' hm))
theorem Qjw(F:ExcBaseFacts B newId bf cK)(T:OwnTail h cK bm){mN:Str->Option Value}{rest:List Value}{Q:Fin->Shared->Prop}(hC:h.get? C=some (excClassObj nm q C N bs bm hdct sn sub ab col dd k0 k1 k2 k3 k5 newId))(hn:h.Ns N mN)(cW:mN "__init__"=none)(hq:∀h',MadeX h h' C->Q (.done (.ret (.ref (h.objs.size+1)))) ⟨h',g,d,t,os⟩)(hrest:rest.length<=sizeLine):wpAny (model prog w) A (Builtin.«type.__call__» ⟨.ref C::rest,[]⟩) Q E ⟨h,g,d,t,os⟩:=by
 repeat(first|with_reducible refine wpAny_loadPart_at hC ?_|with_reducible refine wpAny_madeBy_exc hC ?_|wp_step)
 refine codeAny_call_builtin_code (Code.quiet_builtin _ F.quiet) (wpAny_check_new_subT F T hC ?_);refine codeAny_exc_new_subT F T hC ?_ hrest;show wpAny _ _ _ _ _ _;have bP:=Heap.get?_push_of_some {cls:=.ref C,data:=.fields #[.ref h.objs.size,.none,.none,.none,.bool false,.none]} (Heap.get?_push_of_some {cls:=.type "tuple",data:=.seq rest.toArray} hC);have cR:((h.push {cls:=.type "tuple",data:=.seq rest.toArray}).push {cls:=.ref C,data:=.fields #[.ref h.objs.size,.none,.none,.none,.bool false,.none]}).Ns N mN:=let⟨o,es,ep,e,r⟩:=hn;⟨o,es,ep,Heap.get?_push_of_some _ (Heap.get?_push_of_some _ e),r⟩;have cD:((h.push {cls:=.type "tuple",data:=.seq rest.toArray}).push {cls:=.ref C,data:=.fields #[.ref h.objs.size,.none,.none,.none,.bool false,.none]}).get? (h.objs.size+1)=some {cls:=.ref C,data:=.fields #[.ref h.objs.size,.none,.none,.none,.bool false,.none]}:=by heap_get
 have fO:(Value.ref C::bm).contains (.ref C)=true:=by simp
 have T₁:=T.keeps (h':=(h.push {cls:=.type "tuple",data:=.seq rest.toArray}).push {cls:=.ref C,data:=.fields #[.ref h.objs.size,.none,.none,.none,.bool false,.none]}) λb o e=>Heap.get?_push_of_some _ (Heap.get?_push_of_some _ e);unfold isInstance;repeat(first|with_reducible refine wpAny_loadPart_at cD ?_|(with_reducible refine wpAny_isSubtype_exc bP ?_;rw[fO])|wp_step)
 show wpAny _ _ (typeLookup (.ref C) _) _ _ _;refine wpAny_typeLookup_tail bP cR T₁ F.mroIs F.init.lookup ?_;rw[cW];refine wpAny_holding (wpAny_bind (wpAny_of_eq (F.init.bind _) ?_));refine wpAny_bind (wpAny_call (codeAny_call_builtin F.init.plain F.initEntry (wpAny_check_init_subT F T₁ bP cD rfl ?_)));wp_walk;refine hq _ ⟨λb o hb=>?_,#[.ref (h.objs.size+2),.none,.none,.none,.bool false,.none],h.objs.size+2,?_,rfl,rfl,rfl⟩
 ·rw[Heap.get?_update_other _ _ (ne_of_gt (lt_succ_of_lt (Heap.lt_size hb)))];exact Heap.get?_push_of_some _ (Heap.get?_push_of_some _ (Heap.get?_push_of_some _ hb))
 ·rw[Heap.get?_update_self _ (Heap.get?_push_of_some _ cD) rfl];simp only[Heap.size_push];rfl
theorem Qrx(F:ExcBaseFacts B newId bf cK)(T:OwnTail h cK bm){mN:Str->Option Value}{rest:List Value}{Q:Value->Shared->Prop}(hC:h.get? C=some (excClassObj nm q C N bs bm hdct sn sub ab col dd k0 k1 k2 k3 k5 newId))(hn:h.Ns N mN)(cW:mN "__init__"=none)(hq:∀h',MadeX h h' C->Q (.ref (h.objs.size+1)) ⟨h',g,d,t,os⟩)(hrest:rest.length<=sizeLine):wpAny (model prog w) A (call (.ref C) rest) Q E ⟨h,g,d,t,os⟩:=by
 have f1:=tc_lookup;have f2:=tc_bind (.ref C);have hT:(⟨h,g,d,t,os⟩:Shared).TypeIs (.ref C) "type":=⟨_,hC,rfl⟩;refine wpAny_call (codeAny_of_tree ?_);show wpAny _ _ (callAny (.ref C) _) _ _ _;repeat(any_goals(first|assumption|with_reducible refine wpAny_loadPart_at hC ?_|wp_step))
 refine⟨rfl,?_⟩;exact codeAny_call_builtin_at (Code.quiet_builtin _ (by decide+kernel)) entry_typeCall (wpAny_check_type_call_sub hC (Qjw (hrest:=hrest) F T hC hn cW λh' hm=>hq h' hm))
end
section
variable{prog:Program}{w:World}{A:Around}{E:Value->Shared->Prop}{h:Heap}{g:Array GenState}{d:Drawn}{t:Nat}{os:OsState}
variable{nm q:Str}{C N:Addr}{bs bm cK:List Value}{hdct:Bool}{sn:List Str}{sub:List Value}{ab:Bool}{col:Option Bool}{dd:Option Addr}{k0 k1 k2 k3 k5:Option Value}{B newId bf:String}
structure ButX(h h':Heap)(e:Addr):Prop where
 keeps:∀b o,b≠e->h.get? b=some o->h'.get? b=some o
 size:h.objs.size<=h'.objs.size
theorem Qrw(F:ExcBaseFacts B newId bf cK)(T:OwnTail h cK bm){e:Addr}{dx:Option Addr}{vs:Array Value}{rest:List Value}{Q:Value->Shared->Prop}(hC:h.get? C=some (excClassObj nm q C N bs bm hdct sn sub ab col dd k0 k1 k2 k3 k5 newId))(he:h.get? e=some {cls:=.ref C,dict:=dx,data:=.fields vs})(hv:vs.size=6){t0:Addr}(h0:vs[0]?=some (.ref t0))(hrest:rest.length<=sizeLine)(hq:∀h' u,ButX h h' e->h'.get? e=some {cls:=.ref C,dict:=dx,data:=.fields (vs.setIfInBounds 0 (.ref u))}->Q .none ⟨h',g,d,t,os⟩):wpAny (model prog w) A (call (.builtin bf) (.ref e::rest)) Q E ⟨h,g,d,t,os⟩:=by refine wpAny_call (codeAny_call_builtin F.init.plain F.initEntry (wpAny_check_init_subT F T hC he rfl ?_));wp_walk;rw[h0];refine wpAny_pure (wpAny_bind (wpAny_setField (Heap.get?_push_of_some _ he) rfl (by omega) ?_));have dJ:=Heap.get?_update_self (Obj.mapFields (·.setIfInBounds 0 (Value.ref h.objs.size))) (Heap.get?_push_of_some {cls:=.type "tuple",data:=.seq rest.toArray} he) rfl;have hk:=hq ((h.push {cls:=.type "tuple",data:=.seq rest.toArray}).update e (Obj.mapFields (·.setIfInBounds 0 (Value.ref h.objs.size)))) h.objs.size ⟨λb o hb lK=>by rw[Heap.get?_update_other _ _ (Ne.symm hb)];exact Heap.get?_push_of_some _ lK,by rw[Heap.size_update,Heap.size_push];exact le_succ _⟩ dJ;wp_walk;exact hk
end
section
variable{prog:Program}{w:World}{A:Around}{E:Value->Shared->Prop}{h:Heap}{g:Array GenState}{d:Drawn}{t:Nat}{os:OsState}{K:W.Frag}{C e:Addr}{vs:Array Value}{cd:ClassData}{v:Value}
noncomputable abbrev Vr:List Value:=[.type "ValueError",.type "Exception",.type "BaseException",.type "object"]
theorem Qod{ox:Obj}{od:Option Obj}{name:Str}{tk:Tok}{B:Addr}{R:Result->Shared->Prop}(X:K.In h)(I:W.InstAt h e ox C od)(hc:W.clsIn K C=some cd)(hm:cd.mro=.ref C::.ref B::Vr)(ht:W.takerIn K C name=some none)(hq:∀b,wpAny (model prog w) A.in1 (Builtin.ObjectAttr.storeInOwnDict (.ref e) (.ref C) (.str name tk) name v b) (λfin s'=>match fin with|.done f=>R (.ok f) s'|.again c'=>c'.quiet=true/\codeAny (model prog w) A c' R s') (λe s'=>R (.error e) s') ⟨h,g,d,t,os⟩):codeAny (model prog w) A (.call (.builtin "object.__setattr__") ⟨[.ref e,.str name tk,v],[]⟩) R ⟨h,g,d,t,os⟩:=by
 have SF:=PySem.F.store_object;have L0:=I.type (M:=model prog w);have sub:W.Looks (model prog w) h (isInstance (.ref e) (.type "object")) true:=L0.andThen (W.looks_mroIn X (by unfold W.mroIn;rw[hc,bind_some,hm];rfl));refine codeAny_call_builtin SF.slot.plain SF.entry (@W.check_slot (model prog w) _ _ ⟨h,g,d,t,os⟩ "object.__setattr__" "object" "__setattr__" (.ref e) [.str name tk,v] [] _ SF.kind SF.split sub (SF.args (.ref e) (.str name tk) v) ?_);obtain⟨attr,ha,hr⟩:=Option.bind_eq_some_iff.mp ht;have kY:W.Looks (model prog w) h (mroOf (.ref C)) cd.mro:=(W.looks_clsIn X hc).andThen .now;have L3:W.Looks (model prog w) h (Builtin.ObjectAttr.storeTaker? attr) none:=by cases attr with|none=>cases hr;exact .now|some a=>
   obtain⟨b,hb,hz⟩:=Option.map_eq_some_iff.mp hr;refine(W.looks_takesIn X hb).andThen ?_;cases b<;>first|exact .now|cases hz
 rw[W.osa_eq,refuse_eq];refine wpAny_bind (wpAny_bind (L0.here (wpAny_bind (kY.here ?_))));rw[hm,refuseLoop_ref,refuseLoop_ref,PySem.F.store_ValueError.passes];refine wpAny_pure (wpAny_bind (L0.here (wpAny_bind ((W.looks_findIn X ha).here (wpAny_bind (L3.here ?_))))));exact hq _
theorem QsS{B:Addr}{name:Str}{tk:Tok}{R:Result->Shared->Prop}(X:K.In h)(hm:cd.mro=.ref C::.ref B::Vr)(ht:W.takerIn K C name=some none)(hc:W.clsIn K C=some cd)(hd:cd.hasDict=true)(he:h.get? e=some {cls:=.ref C,data:=.fields vs})(hq:∀h',ButX h h' e->h'.get? e=some {cls:=.ref C,dict:=some h.objs.size,data:=.fields vs}->h'.Ns1 h.objs.size (λy=>if y=name then some v else none)->R (.ok (.ret .none)) ⟨h',g,d,t+1,os⟩):codeAny (model prog w) A (.call (.builtin "object.__setattr__") ⟨[.ref e,.str name tk,v],[]⟩) R ⟨h,g,d,t,os⟩:=by have I:W.InstAt h e {cls:=.ref C,data:=.fields vs} C none:=⟨he,rfl,rfl,trivial⟩;refine Qod X I hc hm ht λb=>?_;refine wpAny_bind (wpAny_pure (wpAny_bind (wpAny_bind (wpAny_loadPart he (wpAny_bind ((W.looks_clsIn X hc).here ?_))))));rw[hd,if_neg (by decide),if_neg (by simp[typeHasDict])];refine wpAny_bind (wpAny_alloc ?_);refine wpAny_bind (wpAny_update (Heap.get?_push_of_some _ he) ?_);refine wpAny_bind (wpAny_pure ?_);refine wpAny_pure ?_;have cX:e<h.objs.size:=Heap.lt_size he;have e1:(h.push {cls:=.type "dict",data:=.dict #[]}).get? h.objs.size=some {cls:=.type "dict",data:=.dict #[]}:=Heap.get?_push_size h rfl;have e3:(h.push {cls:=.type "dict",data:=.dict #[]}).Ns h.objs.size (λ_=>none):=⟨{cls:=.type "dict",data:=.dict #[]},#[],_,e1,rfl,(λe he=>absurd he (by simp)),λ_=>rfl⟩;have hu:∀b o,b≠e->(h.push {cls:=.type "dict",data:=.dict #[]}).get? b=some o->((h.push {cls:=.type "dict",data:=.dict #[]}).update e λo=>{cls:=o.cls,dict:=some h.objs.size,data:=o.data,slots:=o.slots}).get? b=some o:=λb o hb z=>(Heap.get?_update_other _ _ (Ne.symm hb)).trans z;have bF:=Heap.get?_update_self (λo:Obj=>{cls:=o.cls,dict:=some h.objs.size,data:=o.data,slots:=o.slots}) (Heap.get?_push_of_some {cls:=.type "dict",data:=.dict #[]} he) rfl;have hn:((h.push {cls:=.type "dict",data:=.dict #[]}).update e λo=>{cls:=o.cls,dict:=some h.objs.size,data:=o.data,slots:=o.slots}).Ns1 h.objs.size (λ_=>none):=(Heap.Ns1.of_empty e3).at λo q=>hu _ o (ne_of_gt cX) q;refine wpAny_bind (wpAny_pure (wpAny_bind ?_));refine wpAny_nsSet1 (s:=⟨_,g,d,t,os⟩) hn λh' et ic=>?_;obtain⟨oD,esD,epD,kW,lG,df⟩:=et.count (PySem.Within.cons name v (ns:=[]) λy hy=>absurd rfl hy);refine wpAny_bind (wpAny_lookBehind kW (by rw[lG];exact pastItsLine_dict (le_trans df (by rw[sizeLine_eq];exact le_add_left 1 _))) ?_);refine wpAny_pure (hq _ ⟨λb o hb z=>(ic.2 b (ne_of_lt (Heap.lt_size z))).trans (hu b o hb (Heap.get?_push_of_some _ z)),?_⟩ ((ic.2 e (ne_of_lt cX)).trans bF) et);rw[ic.1,Heap.size_update,Heap.size_push];exact le_succ _
theorem QmA{B:Addr}{name:Str}{Q:Unit->Shared->Prop}{E:Value->Shared->Prop}(X:K.In h)(hs:W.findIn K (.ref C) "__setattr__"=some (some (.builtin "object.__setattr__")))(hm:cd.mro=.ref C::.ref B::Vr)(ht:W.takerIn K C name=some none)(hc:W.clsIn K C=some cd)(hd:cd.hasDict=true)(he:h.get? e=some {cls:=.ref C,data:=.fields vs})(hq:∀h' t',t<=t'->ButX h h' e->h'.get? e=some {cls:=.ref C,dict:=some h.objs.size,data:=.fields vs}->h'.Ns1 h.objs.size (λy=>if y=name then some v else none)->Q () ⟨h',g,d,t',os⟩):wpAny (model prog w) A (setAttr (.ref e) name v) Q E ⟨h,g,d,t,os⟩:=by have I:W.InstAt h e {cls:=.ref C,data:=.fields vs} C none:=⟨he,rfl,rfl,trivial⟩;exact W.set_plain (s:=⟨h,g,d,t,os⟩) X I hs (QsS X hm ht hc hd he λh' a b c=>hq h' (t+1+1) (by omega) a b c)
end
section
variable{prog:Program}{w:World}{A:Around}{E:Value->Shared->Prop}{h:Heap}{g:Array GenState}{d:Drawn}{t:Nat}{os:OsState}{K:W.Frag}{C e:Addr}{ox:Obj}{od:Option Obj}{v:Value}{ms:List Value}{name:Str}
theorem QmD{tk:Tok}{R:Result->Shared->Prop}(X:K.In h)(I:W.InstAt h e ox C od)(hm:W.mroIn K C (.type "BaseException")=some true)(hf:W.findObj K C od name=some (.value v))(hq:R (.ok (.ret v)) ⟨h,g,d,t,os⟩):codeAny (model prog w) A (.call (.builtin "BaseException.__getattribute__") ⟨[.ref e,.str name tk],[]⟩) R ⟨h,g,d,t,os⟩:=by
 have L0:=I.type (M:=model prog w);have L1:=W.looks_find (M:=model prog w) X I hf;refine codeAny_call_builtin (by decide+kernel) F.entry_bexc_ga ?_;have hk:builtinKind "BaseException.__getattribute__"=some .slot:=by decide+kernel
 have cf:splitId "BaseException.__getattribute__"=some ("BaseException","__getattribute__"):=by decide+kernel
 have ha:=F.args_bexc_ga (.ref e) (.str name tk);have LI:W.Looks (model prog w) h (isInstance (.ref e) (.type "BaseException")) true:=L0.andThen (W.looks_mroIn X hm);simp only[checkBuiltinCall,hk,cf];refine wpAny_bind (LI.at ?_);refine wpAny_of_eq ha ?_;refine wpAny_bind (wpAny_pure (wpAny_bind (wpAny_pure (wpAny_bind (L0.at (wpAny_bind (L1.at ?_)))))));exact wpAny_pure hq
theorem QmC{expr:Bool}{Q:Value->Shared->Prop}(X:K.In h)(I:W.InstAt h e ox C od)(hm:W.mroIn K C (.type "BaseException")=some true)(iC:W.findIn K (.ref C) "__getattribute__"=some (some (.builtin "BaseException.__getattribute__")))(fH:W.findIn K (.ref C) "__getattr__"=some none)(hf:W.findObj K C od name=some (.value v))(hh:W.handedIn v=true)(hq:Q v ⟨h,g,d,t+1,os⟩):wpAny (model prog w) A (getAttr (.ref e) name expr) Q E ⟨h,g,d,t,os⟩:=by
 have L0:=I.type (M:=model prog w);have L1:=W.looks_findIn (M:=model prog w) X iC;have L2:=W.looks_findIn (M:=model prog w) X fH;unfold getAttr getAttrBy;refine wpAny_bind (wpAny_mkText (wpAny_holding (wpAny_bind (L0.at (wpAny_bind (L1.at ?_))))));show wpAny _ _ (getAttrByItsOwn _ _ _ _ _ _) _ _ _;refine wpAny_bind (L2.at (wpAny_bind ?_));have kJ:(expr&&onTheHeap (Value.builtin "BaseException.__getattribute__"))=false:=by cases expr<;>rfl
 refine wpAny_attempt (wpAny_holding ?_);unfold callGetattribute;rw[kJ];show wpAny _ _ (boundAndCalled _ _ _) _ _ _;refine wpAny_bind (wpAny_of_eq (F.attrBase_ValueError.ga.bind _) ?_);refine wpAny_call (QmD X I hm hf ?_);show wpAny _ _ (handedOut v) _ _ _;rw[W.handedOut_of hh];exact wpAny_pure hq
end
end PySem
namespace Wd
open PySem PySem.Spec PyProof.Rows L2
theorem QqI(i:Int)(h0:0<=i)(h1:i<10^60):(Str.ofString (toString i)).length<=60/\i.natAbs.log2<1920:=by
 obtain⟨n,rfl⟩:=Int.eq_ofNat_of_zero_le h0;have hn:n<10^60:=by
  have:((n:Int))<((10^60:Nat):Int):=h1;exact Int.ofNat_lt.mp this
 refine⟨?_,?_⟩
 ·have e1:(Str.ofString (toString (n:Int))).length=(Nat.toDigits 10 n).length:=by
   show(cpsOfBytes 0 0 (Nat.repr n).toByteArray.data.toList).toArray.size=_;rw[cpsOfBytes_string,Nat.toList_repr];simp
  rw[e1];exact(Nat.length_toDigits_le_iff (by decide) (by decide)).mpr hn
 ·show n.log2<1920;rcases Nat.eq_zero_or_pos n with rfl|hp;·decide
  ·exact(Nat.log2_lt (ne_of_gt hp)).mpr (lt_trans hn (by decide+kernel))
section
variable{X:Cx}{e:Expr}{te:TE}{a b:Str}
theorem Qfg{j1 j2}{p1 p2 p3 pos:Pos}(he:PE X e te)(ha:a.length<=1000)(hb:b.length<=1000):PE X (.JoinedStr [.Constant (.str a) j1 p1,.FormattedValue e (-1) none p2,.Constant (.str b) j2 p3] pos) (λσ H Q=>te σ H λv H1=>∃i:Int,v=.int i/\0<=i/\i<10^60/\∀x,Q (.str x) H1):=by
 intro aa s σ H Q I h;refine JoinedStr_many (joinParts_cons (Calls.Constant_str ⟨?_,joinParts_cons (FormattedValue_plain (thn (he aa _ σ H _ (I.tok _) h) λu s1⟨v,H1,I1,r,i,ev,i0,i1,q⟩=>?_))⟩));·rw[strLen_append,sizeLine_eq];exact le_trans (Nat.add_le_add_left ha _) (by decide)
 ·subst ev;obtain⟨t,rfl⟩:=r;obtain⟨l1,l2⟩:=QqI i i0 i1;have f1:(Str.empty++a++Str.ofString (toString i)).length<=1060:=by rw[strLen_append,strLen_append];have:Str.empty.length=0:=rfl;omega
  have f2:(Str.empty++a++Str.ofString (toString i)++b).length<=2060:=by rw[strLen_append];omega
  refine formatField_int_small l2 ⟨?_,joinParts_cons (Calls.Constant_str ⟨?_,joinParts_nil ⟨.str (Str.empty++a++Str.ofString (toString i)++b),H1,I1.tok _,⟨_,rfl⟩,q _⟩ ?_⟩)⟩;all_goals(rw[sizeLine_eq];first|exact le_trans f1 (by decide)|exact le_trans f2 (by decide))
end
def ExcNew(a C:Addr)(dx:Option Addr)(h:Heap):Prop:=∃vs t,h.get? a=some {cls:=.ref C,dict:=dx,data:=.fields vs}/\vs.size=6/\vs[0]?=some (.ref t)/\vs[1]?=some .none
theorem ExcNew.ok{P:Program}{w:World}{H:Hp}{h:Heap}{a C:Addr}{dx:Option Addr}(x:ExcNew a C dx h):ObjOk P w H h a (.ext (ExcNew a C dx)):=⟨x,let⟨_,_,e,_⟩:=x;⟨_,e⟩,λh1 h2⟨vs,t,e,r⟩k=>⟨vs,t,k _ e,r⟩⟩
theorem ExcNew.at{P:Program}{w:World}{H:Hp}{h:Heap}{a C:Addr}{dx:Option Addr}(x:ExcNew a C dx h):ObjOk P w H h a (.ext (YZ a C dx)):=⟨let⟨vs,t,e,a,b,_⟩:=x;⟨vs,t,e,a,b⟩,let⟨_,_,e,_⟩:=x;⟨_,e⟩,λh1 h2⟨vs,t,e,r⟩k=>⟨vs,t,k _ e,r⟩⟩
theorem Qry{H:Hp}{a:Addr}{o:HO}(h:H a=some o):upd H a o=H:=by
 funext b;unfold upd;split;·rename_i z;rw[z,h]
 ·rfl
structure XB(K:Fg)(CB:Addr):Prop where
 reads:W.readsIn K CB (.type "type")=true
 ga:W.specialIn K (.ref CB) "__getattribute__"=some (some (.builtin "type.__getattribute__"))init:W.findCls K (.ref CB) (.type "type") "__init__"=some (.val (.builtin "ValueError.__init__"))
structure XCl(K:Fg)(C CB:Addr)(bZ:Option Value):Prop where
 obj:∃nm q N bs sn sub ab col dd k0 k1 k2 k3 k5,K.lookup C=some (excClassObj nm q C N bs (.ref CB::Vr) true sn sub ab col dd k0 k1 k2 k3 k5 "ValueError.__new__")/\W.nsOkIn K N=true/\W.nsIn K N "__init__"=some bZ
 tail:W.tailIn K Vr (.ref CB::Vr)=true
 sa:W.findIn K (.ref C) "__setattr__"=some (some (.builtin "object.__setattr__"))tk:W.takerIn K C "block"=some none
 ga:W.findIn K (.ref C) "__getattribute__"=some (some (.builtin "BaseException.__getattribute__"))gn:W.findIn K (.ref C) "__getattr__"=some none
 no:W.findIn K (.ref C) "block"=some none
 kp:W.keepIn K (.ref C)=true
section
variable{X:Cx}{aa:List (Addr×Obj)}{σ:L2.St}{H:Hp}{s:Shared}
theorem Inv.xset{e dx:Addr}{φ ψ:Heap->Prop}{fs:List (Str×V)}{h':Heap}{t':Nat}(I:Inv X aa σ H s)(he:H e=some (.ext φ))(hp:s.heap.objs.size<=dx)(k:∀b u,b≠e->s.heap.get? b=some u->h'.get? b=some u)(n1:ObjOk X.prog X.w (upd (upd H dx (.xd fs)) e (.ext ψ)) h' e (.ext ψ))(n2:ObjOk X.prog X.w (upd (upd H dx (.xd fs)) e (.ext ψ)) h' dx (.xd fs)):Inv X aa σ (upd (upd H dx (.xd fs)) e (.ext ψ)) {s with heap:=h',toks:=t'}:=by
 have hd:H dx=none:=I.hok.fresh hp;have nd:∀b o,H b=some o->b≠dx:=λb o q z=>by rw[z,hd]at q;cases q
 have sm:∀b o,b≠e->H b=some o->upd (upd H dx (.xd fs)) e (.ext ψ) b=some o:=λb o hb q=>by rw[Qt hb,Qt (nd b o q)];exact q
 have ne:∀b o,H b=some o->(∀φ,o≠.ext φ)->b≠e:=λb o q w z=>by rw[z,he]at q;cases q;exact w _ rfl
 have nn:∀b,H b=none->b≠e:=λb q z=>by rw[z,he]at q;cases q
 obtain⟨_,⟨oe,kU⟩,_⟩:=id n1;refine I.un ⟨λb o q n _ _=>k b o (nn b n) q,λb o q n _ _=>⟨o.slots,k b o (nn b n) q⟩,λb o q n _=>?_,λb o q _=>?_,λb xs q=>sm b _ (ne b _ q λ_ z=>nomatch z) q,λb o u q=>sm b _ (ne b _ q λ_ z=>nomatch z) q,λb ps q=>⟨#[],by rw[sm b _ (ne b _ q λ_ z=>nomatch z) q];simp⟩⟩ λb u q=>?_;·rw[Qt (nn b n),Qt (ne_of_lt (lt_of_lt_of_le (Heap.lt_size q) hp))];exact n
 ·by_cases z:b=e;·rw[z];exact⟨oe,kU⟩
  ·exact⟨o,k b o z q⟩
 ·by_cases z:b=e;·subst z;rw[QB]at q;cases q;exact n1
  ·rw[Qt z]at q;by_cases z2:b=dx;·subst z2;rw[QB]at q;cases q;exact n2
   ·rw[Qt z2]at q;refine(I.hok b u q).stay (λc v hc r=>k c v ?_ r) (λc r=>sm c _ (ne c _ r λ_ z=>nomatch z) r) λc xs r=>sm c _ (ne c _ r λ_ z=>nomatch z) r;rcases hc with rfl|hc;·exact z
    ·exact ne c _ hc λ_ z=>nomatch z
variable{C CB:Addr}{bZ:Option Value}{xB:Str}{e1 o value:Expr}{es:List Expr}{ta tv:TE}{t:TA}{p0 p1 p2 p3 pos pos':Pos}
theorem XCl.tl{h:Heap}(c:XCl X.K C CB bZ)(k:X.K.In h):OwnTail h Vr (.ref CB::Vr):=W.tail_of_in k c.tail
theorem QbB(B:XB X.K CB)(c:XCl X.K C CB bZ)(hg:Gl X xB)(hm:X.mg xB=some (.ref CB))(ha:PA X (e1::es) t)(aL:(xB==("__debug__":Str))=false:=by decide)(he:starEach (e1::es) X.env=(false,eval e1 X.env)::starEach es X.env:=by rfl)(bc:(backTo p2 (starEach es X.env)).any (·.1)=false:=by rfl)(cz:swapsWith (.Call (.Attribute (.Name xB p0) "__init__" p1) (e1::es) [] p2) none p3.line X.env=pure false:=by rfl){pl:Sem Bool}(ht:eval (.Call (.Attribute (.Name xB p0) "__init__" p1) (e1::es) [] p2) X.env=(do
   let ov<-eval (.Name xB p0) X.env
   standAt p1.atName let(f,first)<-holding [ov] (getMethod ov "__init__" pl)callWith p2 f first (backTo p2 (starEach (e1::es) X.env)) (backToKw p2 (keywordEach [] X.env))):=by rfl):PS X (.Expr (.Call (.Attribute (.Name xB p0) "__init__" p1) (e1::es) [] p2) p3) (λDn σ H=>t σ H λvs H1=>∃e y,vs=[.ref e,y]/\H1 e=some (.ext (ExcNew e C none))/\Dn.nx σ H1):=by
 intro aa s σ H Dn I h;refine wpAny_Expr_any (W.methodCall_KW (pl:=pl) (Qaq I hg hm (W.method_cls I.kIn B.ga (W.cls_value I.kIn B.reads B.init rfl ?_)) aL) ht) I.quiet cz;refine callWith_builtin1 (thn (ha p2 aa _ σ H _ (I.tok _) h) λus s1⟨vs,H1,I1,r,e,y,ev,hE,q⟩=>?_) he bc;subst ev;cases r with|cons r1 r2=>cases r2 with|cons r3 r4=>cases r4;obtain rfl:=r1;obtain⟨⟨vs,t0,g1,g2,g3,g4⟩,_,_⟩:=(show ObjOk X.prog X.w H1 s1.heap e (.ext (ExcNew e C none))from I1.hok e _ hE);obtain⟨nm,q',N,bs,sn,sub,ab,col,dd,k0,k1,k2,k3,k5,hC,_⟩:=c.obj;obtain⟨hh,g,d,tk,os⟩:=s1;refine Qrw PySem.F.excBase_ValueError (c.tl I1.kIn) (I1.kIn _ _ hC) g1 g2 g3 (by rw[sizeLine_eq];exact le_add_left 1 _) λh' u bx ge=>?_;refine⟨σ,H1,?_,q⟩;have:=I1.write (x:=e) (e:=e) (o:=.ext (ExcNew e C none)) (h':=h') (t':=tk) (by rw[hE];exact trivial) (.inl rfl) bx.keeps ⟨_,ge⟩ (ExcNew.ok ⟨_,u,ge,by rw[Array.size_setIfInBounds];exact g2,by simp[Array.getElem?_setIfInBounds,g2],by simp[Array.getElem?_setIfInBounds,g4]⟩);rw[Qry hE]at this;exact this
theorem QcD(c:XCl X.K C CB bZ)(ha:PE X o ta)(hv:PE X value tv)(hs:swapsWith value (some (.Attribute o "block" pos')) pos.line X.env=pure false:=by rfl):PS X (.Assign [.Attribute o "block" pos'] value pos) λDn σ H=>tv σ H λy H1=>ta σ H1 λx H2=>∃e i,x=.ref e/\y=.int i/\H2 e=some (.ext (ExcNew e C none))/\∀dx,H2 dx=none->dx≠e->Dn.nx σ (upd (upd H2 dx (.xd [("block",.int i)])) e (.ext (ExcNew e C (some dx)))):=by
 intro aa s σ H D I h;refine plainObj_wpAny_Assign_Attribute (thn (hv aa s σ H _ I h) λu s1⟨y,H1,I1,ry,q⟩=>thn (ha aa s1 σ H1 _ I1 q) λov s2⟨x,H2,I2,rx,e,i,ex,ey,hE,q2⟩=>? _) hs;subst ex;subst ey;obtain rfl:ov=Value.ref e:=rx;obtain⟨ti,rfl⟩:=ry;obtain⟨⟨vs,t0,g1,g2,g3,g4⟩,_,_⟩:=show ObjOk X.prog X.w H2 s2.heap e (.ext (ExcNew e C none))from I2.hok e _ hE;obtain⟨nm,q',N,bs,sn,sub,ab,col,dd,k0,k1,k2,k3,k5,hC,_⟩:=c.obj;have b8:W.clsIn X.K C=some {name:=nm,bases:=bs,mro:=.ref C::.ref CB::Vr,ns:=N,qualname:=q',hasDict:=true,slotNames:=sn,subclasses:=sub,abstract:=ab,collection:=col,hasDel:=false}:=by unfold W.clsIn;rw[hC]
 obtain⟨hh,g,d,tk,os⟩:=s2;refine QmA (B:=CB) I2.kIn c.sa rfl c.tk b8 rfl g1 λh' t' _ bx ge hn=>? _;have cX:e<hh.objs.size:=Heap.lt_size g1;refine⟨σ,_,Inv.xset (h':=h') (t':=t') I2 hE (le_refl _) bx.keeps (ExcNew.ok ⟨vs,t0,ge,g2,g3,g4⟩) ⟨_,hn,λf=>? _⟩,q2 hh.objs.size (I2.hok.fresh (le_refl _)) (ne_of_gt cX)⟩;show RelO (List.lookup f [("block",V.int i)]) (if f="block"then some (.int i ti)else none);by_cases z:f="block";·subst z;exact⟨ti,rfl⟩
 ·have hb:(f==("block":Str))=false:=beq_eq_false_iff_ne.mpr z;simp only[List.lookup,hb,if_neg z];exact trivial
end
end Wd
namespace PySem
open Sem(wp)
section
variable{M:Model}{A:Around}{E:Value->Shared->Prop}{env:Env}
variable{nm q:Str}{C N:Addr}{bs bm:List Value}{hdct:Bool}{sn:List Str}{sub:List Value}{ab:Bool}{col:Option Bool}{dd:Option Addr}{k0 k1 k2 k3 k5:Option Value}{newId:String}
theorem Qj3{s:Shared}{x:Sem Value}{Q:Flow->Shared->Prop}(aS:bm.contains (.type "BaseException")=true)(hh:A.handled=none)(h:wpAny M A x (λv s₁=>∃e dx vs,v=.ref e/\s₁.heap.get? C=some (excClassObj nm q C N bs bm hdct sn sub ab col dd k0 k1 k2 k3 k5 newId)/\s₁.heap.get? e=some {cls:=.ref C,dict:=dx,data:=.fields vs}/\vs[1]?=some .none/\E (.ref e) s₁) E s):wpAny M A (raiseStmt env (some x) none) Q E s:=by
 have iH:(Value.ref C::bm).contains (.type "BaseException")=true:=by rw[List.contains_cons,aS,Bool.or_true]
 unfold raiseStmt;refine wpAny_bind (wpAny_mono h (λv s₁ h₁=>?_) λ_ _ x=>x);obtain⟨e,dx,vs,rfl,hC,he,h1,hE⟩:=h₁;obtain⟨hp,g,d,tk,os⟩:=s₁;repeat(first|with_reducible refine wpAny_field he rfl h1 ?_|with_reducible refine wpAny_loadPart_at he ?_|with_reducible refine wpAny_loadPart_at hC ?_|(with_reducible refine wpAny_isSubtype_exc hC ?_;rw[iH])|wp_step)
 exact wpAny_raiseNew_none hh hE
end
end PySem
namespace Wd
open PySem PySem.Spec PyProof.Rows L2
def spI(C:Addr):Sp:=λvs H Q _=>∃e i,vs=[.ref e,.int i]/\H e=some (.ext (ExcNew e C none))/\0<=i/\i<10^60/\∀dx,H dx=none->dx≠e->Q .non (upd (upd H dx (.xd [("block",.int i)])) e (.ext (ExcNew e C (some dx))))
def tI1(C:Addr):TS:=λDn σ H=>(Qef (QhM 0) (Qef (λσ H Q=>QhM 1 σ H λv H1=>∃i:Int,v=.int i/\0<=i/\i<10^60/\∀x,Q (.str x) H1) QkU)) σ H λvs H1=>∃e y,vs=[.ref e,y]/\H1 e=some (.ext (ExcNew e C none))/\Dn.nx σ H1
def tI2(C:Addr):TS:=λDn σ H=>QhM 1 σ H λy H1=>QhM 0 σ H1 λx H2=>∃e i,x=.ref e/\y=.int i/\H2 e=some (.ext (ExcNew e C none))/\∀dx,H2 dx=none->dx≠e->Dn.nx σ (upd (upd H2 dx (.xd [("block",.int i)])) e (.ext (ExcNew e C (some dx))))
def MkX(P:Program)(w:World)(K:Fg)(mg:Str->Option Value)(ae:Heap)(k:Nat)(x:Str)(c:Nat):Prop:=∃C CB f fd,XCl K C CB (some (.ref f))/\W.isFn K (.ref f)=true/\Binds K fd ["self","block"] []/\FnOk P w K mg ae CX0 k f fd ["self","block"] (spI C)/\mg x=some (.ref C)/\Jt K c=C
section
variable{P:Program}{w:World}{K:Fg}{mg:Str->Option Value}{ae:Heap}{st:Stmt}{k:Nat}{qual:Str}{f C:Addr}{fd:FuncData}{s1 s2:Stmt}
theorem okI(F:Fun K "__init__" qual st f fd)(S:FnScope ["self","block"] ["self","block"] (Qc st))(hd:QY st=[s1,s2])(hb:∀(ao:Value)(A:Around)(ag:List Env)(s:Shared)(H:Hp)(E:XK),PS (ZJ CX0 P w K mg ae ["self","block"] qual (Qc st) f ao A ag s H E).nox s1 (tI1 C)/\PS (ZJ CX0 P w K mg ae ["self","block"] qual (Qc st) f ao A ag s H E).nox s2 (tI2 C)):FnOk P w K mg ae CX0 (k+1) f fd ["self","block"] (spI C):=by refine Fun.ok F S (λvs H Q E⟨e,i,h,_⟩=>by rw[h];rfl) λao A ag s H vs Q E hr⟨e,i,hv,hE,i0,i1,q⟩=>?_;obtain⟨h1,h2⟩:=hb ao A ag s H E;rw[hd];refine⟨_,Qil h1 (Qkf h2),?_⟩;subst hv;refine⟨.ref e,rfl,.int i,rfl,i,rfl,i0,i1,λx=>⟨e,_,rfl,hE,.int i,rfl,.ref e,rfl,e,i,rfl,rfl,hE,λdx hn ne=>q dx hn ne⟩⟩
end
theorem Qly{K:Fg}{h:Heap}{N:Addr}{mg:Str->Option Value}{n:Str}{v:Value}(X:K.In h)(G:h.Ns N mg)(e:W.nsIn K N n=some (some v)):mg n=some v:=by
 obtain⟨o,es,ep,ho,hd,_,hf⟩:=G;unfold W.nsIn at e;split at e
 ·rename_i c d b9 n' sl q;have:=X _ _ q;rw[ho]at this;cases this;cases hd;split at e
  ·rename_i he;cases e;rw[<-hf];unfold nsFind findBy;rw[<-Array.find?_toList,he];rfl
  ·split at e<;>cases e
 ·cases e
section
variable{X:Cx}{aa:List (Addr×Obj)}{σ:L2.St}{H:Hp}{s:Shared}{O O' OL:List Nat}{w:Bool}{e:Expr}{ev:EvE}{x:Str}{c k:Nat}{np ak pos:Pos}
theorem QmV{C CB f:Addr}{fd:FuncData}{i:Int}{ti:Tok}(cl:XCl X.K C CB (some (.ref f)))(ez:W.isFn X.K (.ref f)=true)(hb:Binds X.K fd ["self","block"] [])(F:FnOk X.prog X.w X.K X.mg X.ae CX0 k f fd ["self","block"] (spI C))(hr:Room (k+1) X.A)(I:Inv X aa σ H s)(i0:0<=i)(i1:i<10^60){Q:Value->Shared->Prop}(hq:∀e dx H' s',s.heap.objs.size<=e->H e=none->H dx=none->dx≠e->H'=upd (upd H dx (.xd [("block",.int i)])) e (.ext (ExcNew e C (some dx)))->Inv X aa σ H' s'->Q (.ref e) s'):wpAny (model X.prog X.w) X.A (call (.ref C) [.int i ti]) Q X.xe s:=by
 obtain⟨nm,q',N,bs,sn,sub,ab,col,dd,k0,k1,k2,k3,k5,hC,hok,cW⟩:=cl.obj;obtain⟨hh,g,d,tk,os⟩:=s;have kin:X.K.In hh:=I.kIn;have hN:hh.Ns N (hh.nsMap N):=.of_isNs (W.isNs_of_in kin hok);have jh:hh.nsMap N "__init__"=some (.ref f):=Qly kin hN cW;obtain⟨oI,jH,lH⟩:=Option.map_eq_some_iff.mp (show(X.K.lookup f).map (·.cls)=some (.type "function")from beq_iff_eq.mp ez);refine Qjx PySem.F.excBase_ValueError (cl.tl kin) (kin _ _ hC) hN jh (kin _ _ jH) lH (λh' mx=>?_) (by rw[sizeLine_eq];exact le_add_left 1 _);obtain⟨vs,t0,g1,g2,g3,g4⟩:=mx.ex;have lW:H (hh.objs.size+1)=none:=I.hok.fresh (le_succ _);have I2:Inv X aa σ (upd H (hh.objs.size+1) (.ext (ExcNew (hh.objs.size+1) C none))) ⟨h',g,d,tk,os⟩:=I.laid (t':=tk) mx.keeps (le_succ _) (ExcNew.ok ⟨vs,t0,g1,g2,g3,g4⟩);have r2:Vals [V.ref (hh.objs.size+1),V.int i] [Value.ref (hh.objs.size+1),Value.int i ti]:=.cons rfl (.cons ⟨ti,rfl⟩ .nil);refine wpAny_call (codeAny_mono (F.run _ X.stack ⟨h',g,d,tk,os⟩ _ ⟨[Value.ref (hh.objs.size+1),.int i ti],[]⟩ [Value.ref (hh.objs.size+1),.int i ti] _ (λv H2=>v=.non/\∃dx,H dx=none/\dx≠hh.objs.size+1/\H2=upd (upd H dx (.xd [("block",.int i)])) (hh.objs.size+1) (.ext (ExcNew (hh.objs.size+1) C (some dx)))) E0 (hr.make C _ []) (I2.env0.make C _ []) (hb _ _ I2.kIn rfl) r2 ⟨_,i,rfl,QB,i0,i1,λdx hn ne=>⟨rfl,dx,?_,ne,?_⟩⟩) λr s' c6=>?_);·rw[Qt ne]at hn;exact hn
 ·funext b;by_cases z:b=hh.objs.size+1;·rw[z,QB,QB]
  ·rw[Qt z,Qt z];by_cases z2:b=dx;·rw[z2,QB,QB]
   ·rw[Qt z2,Qt z2,Qt z]
 ·cases r with
  |error e=>exact c6.elim|ok fl=>cases fl with|ret u=>obtain⟨v,H',I3,rv,ev,dx,hn,ne,hH⟩:=I2.after c6;subst ev;exact⟨rv,hq _ dx H' s' (le_succ _) lW hn ne hH I3⟩|next=>exact False.elim c6|brk=>exact False.elim c6|cont=>exact False.elim c6
end
theorem Qrc{c:Nat}{d:D}{fl:Fl}(h:D.blkO c d=some fl):∃i,d=.int i/\0<=i/\i<10^60/\fl=.rz c (.int i):=by cases d with
 |int i=>
  have h:(if 0<=i/\i<10^60 then some (Fl.rz c (.int i))else none)=some fl:=h;split at h;·rename_i q;cases h;exact⟨i,rfl,q.1,q.2,rfl⟩
  ·cases h|_=>cases h
section
variable{X:Cx}{O O' OL:List Nat}{w:Bool}{e:Expr}{ev:EvE}{x:Str}{c k:Nat}{np ak pos:Pos}
theorem VH(m:MkX X.prog X.w X.K X.mg X.ae k x c)(hr:Room (k+1) X.A)(hg:Gl X x)(ha:PE X e (tD X O ev))(aL:(x==("__debug__":Str))=false:=by decide)(he:starEach [e] X.env=(false,eval e X.env)::starEach [] X.env:=by rfl)(bc:(backTo ak (starEach [] X.env)).any (·.1)=false:=by rfl):PS X (.Raise (some (.Call (.Name x np) [e] [] ak)) none pos) (tS X O O' OL w (Z9 c ev)):=by
 intro aa s σ H Dn I⟨F0,F,en,fl,rs,z,kk⟩;obtain⟨d,e1,z1⟩:=QL z;obtain⟨i,rfl,i0,i1,rfl⟩:=Qrc z1;obtain⟨C,CB,f,fd,cl,ez,hb,Fk,hm,hU⟩:=m;obtain⟨nm,q',N,bs,sn,sub,ab,col,dd,k0,k1,k2,k3,k5,hC,_⟩:=cl.obj;rw[arm_exec_Raise];refine wpAny_bind (wpAny_standAt (Qj3 (C:=C) (nm:=nm) (q:=q') (N:=N) (bs:=bs) (bm:=.ref CB::Vr) (hdct:=true) (sn:=sn) (sub:=sub) (ab:=ab) (col:=col) (dd:=dd) (k0:=k0) (k1:=k1) (k2:=k2) (k3:=k3) (k5:=k5) (newId:="ValueError.__new__") rfl hr.hd ?_));refine wpAny_bind (thn (wpAny_Call_Name_kw (Qaq I hg hm ?_ aL)) λv s3 h3=>wpAny_bind (wpAny_standAt (wpAny_pure h3)));refine W.callWith_K (h₀:=X.ae) I.ok.mod.kin cl.kp (thn ((Q6 ha ZV he) ak aa s σ H (λvs H1=>∃F1,vs=[.int i]/\Gr F H F1 H1) I ⟨F0,F,en,.int i,rs,e1,λv F1 H1 g1 r1=>?_⟩) λus s1⟨vs,H1,I1,r,F1,ev,g1⟩=>⟨I1.kIn,?_⟩) he bc
 ·cases r1;exact⟨F1,rfl,g1⟩
 ·subst ev;cases r with|cons r1 r2=>
   cases r2;obtain⟨ti,rfl⟩:=r1;refine QmV cl ez hb Fk hr I1 i0 i1 λea dx H' s' le hn iG ne hH I3=>?_;subst hH;obtain⟨⟨vs,t0,q1,q2,q3,q4⟩,_,_⟩:=(show ObjOk X.prog X.w _ s'.heap ea (.ext (ExcNew ea C (some dx)))from I3.hok ea _ QB);refine⟨ea,some dx,vs,rfl,I3.kIn _ _ hC,q1,q4,?_⟩;have I4:=I3.write (x:=ea) (e:=ea) (o:=.ext (YZ ea C (some dx))) (h':=s'.heap) (t':=s'.toks) (by rw[QB];exact trivial) (.inl rfl) (λb u _ q=>q) ⟨_,q1⟩ (ExcNew.at ⟨vs,t0,q1,q2,q3,q4⟩);rw[QpW]at I4;have fe:F1 ea=none:=g1.fh.none hn;have l7:F1 dx=none:=g1.fh.none iG;have G:Gr F1 H1 (upd (upd F1 dx (.xd [("block",.int i)])) ea (.ext (YZ ea C (some dx)))) (upd (upd H1 dx (.xd [("block",.int i)])) ea (.ext (YZ ea C (some dx)))):=by
    refine⟨?_,?_,(g1.fh.upd2 _ _).upd2 _ _,λa o h=>?_⟩;·exact((Sm.refl F1).upd _ l7).upd _ fe
    ·exact((Sm.refl H1).upd _ iG).upd _ hn
    ·by_cases z1:a=ea;·rw[z1];exact .inr hn
     ·rw[Qt z1]at h;by_cases z2:a=dx;·rw[z2];exact .inr iG
      ·rw[Qt z2]at h;exact .inl h
   refine kk aa σ _ _ s' ea I4 (rs.exg (g1.trans G)) (.exc (dx:=dx) (by rw[hU];exact QB) (by rw[Qt ne];exact QB)) ⟨le_trans I1.sz le,_,vs,q1,rfl,q2,.inl q4⟩
end
def MkX0(K:Fg)(mg:Str->Option Value)(x:Str):Prop:=∃C CB,XCl K C CB none/\mg x=some (.ref C)/\Jt K 0=C
section
variable{X:Cx}{O O' OL:List Nat}{w:Bool}{x:Str}{k:Nat}{np ak pos:Pos}
theorem Qnt{tx:Str}{j}{p1:Pos}(m:MkX0 X.K X.mg x)(hr:Room k X.A)(hg:Gl X x)(aL:(x==("__debug__":Str))=false:=by decide):PS X (.Raise (some (.Call (.Name x np) [.Constant (.str tx) j p1] [] ak)) none pos) (tS X O O' OL w Qgl):=by intro aa s σ H Dn I⟨F0,F,en,fl,rs,z,kk⟩;cases z;obtain⟨C,CB,cl,hm,hU⟩:=m;obtain⟨nm,q',N,bs,sn,sub,ab,col,dd,k0,k1,k2,k3,k5,hC,hok,cW⟩:=cl.obj;rw[arm_exec_Raise];refine wpAny_bind (wpAny_standAt (Qj3 (C:=C) (nm:=nm) (q:=q') (N:=N) (bs:=bs) (bm:=.ref CB::Vr) (hdct:=true) (sn:=sn) (sub:=sub) (ab:=ab) (col:=col) (dd:=dd) (k0:=k0) (k1:=k1) (k2:=k2) (k3:=k3) (k5:=k5) (newId:="ValueError.__new__") rfl hr.hd ?_));refine wpAny_bind (thn (wpAny_Call_Name_kw (Qaq I hg hm ?_ aL)) λv s3 h3=>wpAny_bind (wpAny_standAt (wpAny_pure h3)));refine W.callWith_K (h₀:=X.ae) I.ok.mod.kin cl.kp (thn ((Q6 Qmb ZV rfl) ak aa s σ H (λvs H1=>vs=[.str tx]/\H1=H) I ⟨rfl,rfl⟩) λus s1⟨vs,H1,I1,r,ev,eh⟩=>⟨I1.kIn,?_⟩) rfl rfl;subst ev;subst eh;cases r with|cons r1 r2=>
  cases r2;obtain⟨hh,g,d,tk,os⟩:=s1;have kin:X.K.In hh:=I1.kIn;have hN:hh.Ns N (hh.nsMap N):=.of_isNs (W.isNs_of_in kin hok);refine Qrx PySem.F.excBase_ValueError (cl.tl kin) (kin _ _ hC) hN (W.nsMap_none_of_in kin hok cW) (λh' mx=>?_) (by rw[sizeLine_eq];exact le_add_left 1 _);obtain⟨vs,t0,q1,q2,q3,q4⟩:=mx.ex;have hn:H1 (hh.objs.size+1)=none:=I1.hok.fresh (le_succ _);have I4:Inv X aa σ (upd H1 (hh.objs.size+1) (.ext (YZ (hh.objs.size+1) C none))) ⟨h',g,d,tk,os⟩:=I1.laid (t':=tk) mx.keeps (le_succ _) (ExcNew.at ⟨vs,t0,q1,q2,q3,q4⟩);refine⟨hh.objs.size+1,none,vs,rfl,I4.kIn _ _ hC,q1,q4,?_⟩;have G:Gr F H1 (upd F (hh.objs.size+1) (.ext (YZ (hh.objs.size+1) C none))) (upd H1 (hh.objs.size+1) (.ext (YZ (hh.objs.size+1) C none))):=by
   refine⟨(Sm.refl F).upd _ (rs.fh.none hn),(Sm.refl H1).upd _ hn,rs.fh.upd2 _ _,λa o h=>?_⟩;by_cases z1:a=hh.objs.size+1;·rw[z1];exact .inr hn
   ·rw[Qt z1]at h;exact .inl h
  refine kk aa σ _ _ _ (hh.objs.size+1) I4 (rs.exg G) (.exc0 (by rw[hU];exact QB)) ⟨le_trans I1.sz (le_succ _),_,vs,q1,rfl,q2,.inl q4⟩
end
end Wd
namespace PySem
open Sem(wp)
section
variable{prog:Program}{w:World}{A:Around}{E:Value->Shared->Prop}{h:Heap}{g:Array GenState}{d:Drawn}{t:Nat}{os:OsState}{K:W.Frag}{C e:Addr}{ox:Obj}{od:Option Obj}{v:Value}{ms:List Value}
theorem Qli{tk:Tok}{R:Result->Shared->Prop}(X:K.In h)(I:W.InstAt h e ox C od)(hm:W.mroIn K C (.type "BaseException")=some true)(ip:W.mroIn K C (.type "object")=some true)(hf:W.findObj K C od "__class__"=some (.bind (.builtin "getset_descriptor.__get__") (.builtin "object.__class__")))(hq:R (.ok (.ret (.ref C))) ⟨h,g,d,t,os⟩):codeAny (model prog w) A (.call (.builtin "BaseException.__getattribute__") ⟨[.ref e,.str "__class__" tk],[]⟩) R ⟨h,g,d,t,os⟩:=by
 have L0:=I.type (M:=model prog w);have L1:=W.looks_find (M:=model prog w) X I hf;refine codeAny_call_builtin (by decide+kernel) F.entry_bexc_ga ?_;have hk:builtinKind "BaseException.__getattribute__"=some .slot:=by decide+kernel
 have cf:splitId "BaseException.__getattribute__"=some ("BaseException","__getattribute__"):=by decide+kernel
 have ha:=F.args_bexc_ga (.ref e) (.str "__class__" tk);have LI:W.Looks (model prog w) h (isInstance (.ref e) (.type "BaseException")) true:=L0.andThen (W.looks_mroIn X hm);simp only[checkBuiltinCall,hk,cf];refine wpAny_bind (LI.at ?_);refine wpAny_of_eq ha ?_;refine wpAny_bind (wpAny_pure (wpAny_bind (wpAny_pure (wpAny_bind (L0.at (wpAny_bind (L1.at ?_)))))));show wpAny _ _ (Builtin.ObjectAttr.bindTo _ _ _ _) _ _ _;unfold Builtin.ObjectAttr.bindTo;dsimp only;refine wpAny_bind (wpAny_holding (wpAny_call (W.class_get (s:=⟨h,g,d,t,os⟩) (ox:=ox) (od:=od) X I ip ?_)));exact wpAny_pure hq
theorem QpT{Q:Option Value->Shared->Prop}(X:K.In h)(I:W.InstAt h e ox C od)(hm:W.mroIn K C (.type "BaseException")=some true)(ip:W.mroIn K C (.type "object")=some true)(iC:W.findIn K (.ref C) "__getattribute__"=some (some (.builtin "BaseException.__getattribute__")))(fH:W.findIn K (.ref C) "__getattr__"=some none)(hf:W.findObj K C od "__class__"=some (.bind (.builtin "getset_descriptor.__get__") (.builtin "object.__class__")))(hq:Q (some (.ref C)) ⟨h,g,d,t+1,os⟩):wpAny (model prog w) A (getAttr? (.ref e) "__class__") Q E ⟨h,g,d,t,os⟩:=by have L0:=I.type (M:=model prog w);have L1:=W.looks_findIn (M:=model prog w) X iC;have L2:=W.looks_findIn (M:=model prog w) X fH;unfold getAttr? getAttrBy?;refine wpAny_bind (wpAny_mkText (wpAny_bind (wpAny_attempt ?_)));unfold getAttrBy;refine wpAny_holding (wpAny_bind (L0.at (wpAny_bind (L1.at ?_))));show wpAny _ _ (getAttrByItsOwn _ _ _ _ _ _) _ _ _;refine wpAny_bind (L2.at (wpAny_bind ?_));refine wpAny_attempt (wpAny_holding ?_);show wpAny _ _ (boundAndCalled _ _ _) _ _ _;refine wpAny_bind (wpAny_of_eq (F.attrBase_ValueError.ga.bind _) ?_);refine wpAny_call (Qli X I hm ip hf ?_);exact W.handed_on rfl (wpAny_pure hq)
end
end PySem
namespace Wd
open PySem PySem.Spec PyProof.Rows L2
noncomputable def nonV:V->Bool|.non=>true|_=>false
noncomputable def nonD:D->Bool|.non=>true|_=>false
theorem Qqw{v:V}{u:Value}(h:RelV v u):plainIs u .none=true/\(u==Value.none)=nonV v:=by cases v with|non=>cases show u=Value.none from h;exact⟨rfl,rfl⟩|bl b=>cases show u=Value.bool b from h;exact⟨rfl,rfl⟩|int i=>obtain⟨t,rfl⟩:=show∃t,u=Value.int i t from h;exact⟨rfl,rfl⟩|str i=>obtain⟨t,rfl⟩:=show∃t,u=Value.str i t from h;exact⟨rfl,rfl⟩|byt i=>obtain⟨t,rfl⟩:=show∃t,u=Value.bytes i t from h;exact⟨rfl,rfl⟩|flt i=>obtain⟨t,rfl⟩:=show∃t,u=Value.float i t from h;exact⟨rfl,rfl⟩|ref a=>cases show u=Value.ref a from h;exact⟨rfl,rfl⟩|ty n=>cases show u=Value.type n from h;exact⟨rfl,rfl⟩
theorem RdD.nonE{K:Fg}{F H:Hp}{v:V}{d:D}(r:RdD K F H v d):nonV v=nonD d:=by
 rcases r with r|⟨p,k,xs,ds,rfl,_,_,rfl,_⟩;·cases r<;>rfl
 ·cases k<;>rfl
section
variable{X:Cx}{O:List Nat}{a b tg:Expr}{p pos:Pos}
theorem Qqo:OpR X (compareOp .IsNot) λx y H Q=>y=.non/\Q (.bl (! nonV x)) H:=by rintro aa s σ H x y v u Q I rx ry⟨rfl,q⟩;cases show u=Value.none from ry;obtain⟨h1,h2⟩:=Qqw rx;exact PySem.wpAny_isNot_plain h1 (by rw[h2];exact Qsu I q rfl)
theorem Qsq{ea:EvE}{σ:L2.St}{H:Hp}{Q:VK}(h:tD X O (eUn D.isNN ea) σ H Q):tOp (λx y H Q=>y=.non/\Q (.bl (!nonV x)) H) (tR X O ea) (tC .non) σ H Q:=by
 obtain⟨F0,F,en,d,rs,w,k⟩:=h;obtain⟨dx,e1,e3⟩:=QL w;refine⟨F0,F,en,dx,rs,e1,λx F1 H1 g1 r1=>⟨rfl,?_⟩⟩;have:d=.bl (!nonD dx):=by cases dx<;>(cases e3;rfl)
 rw[r1.nonE];subst this;exact k _ F1 H1 g1 (.bl _)
theorem QqS{ea:EvE}{j p}(ha:PE X a (tR X O ea)):PT X (.Compare a [.IsNot] [.Constant .none j p] pos) (tDT X O (eUn D.isNN ea)):=PT.imp (Qke Qqo ha Qmc (QS _)) λσ H Q h=>Qsq (Qrg h)
end
structure XRd(K:Fg)(C:Addr):Prop where
 ga:W.findIn K (.ref C) "__getattribute__"=some (some (.builtin "BaseException.__getattribute__"))gn:W.findIn K (.ref C) "__getattr__"=some none
 no:W.findIn K (.ref C) "block"=some none
 ca:W.findIn K (.ref C) "__class__"=some (some (.builtin "object.__class__"))hn:W.specialIn K (.builtin "object.__class__") "__get__"=some (some (.builtin "getset_descriptor.__get__"))tk:W.takesIn K (.builtin "object.__class__")=some true
 mb:W.mroIn K C (.type "BaseException")=some true
 mo:W.mroIn K C (.type "object")=some true
 hd:W.hasDictIn K C=true
structure XR(K:Fg):Prop where
 rd:∀c,c<=6->XRd K (Jt K c)is:∀c c',c<=6->c'<=6->W.kitOne K (.ref (Jt K c)) (.ref (Jt K c'))=some (decide (c=c'))va:∀c,c<=6->W.kitOne K (.ref (Jt K c)) (.type "ValueError")=some true
 nn:∀c,c<=6->W.kitOne K (.type "NoneType") (.ref (Jt K c))=some false
 nv:W.kitOne K (.type "NoneType") (.type "ValueError")=some false
theorem Qhz{K:Fg}{C:Addr}{od:Option Obj}{name:Str}{a g:Value}(hh:W.hasDictIn K C=true)(ha:W.findIn K (.ref C) name=some (some a))(hg:W.specialIn K a "__get__"=some (some g))(ht:W.takesIn K a=some true):W.findObj K C od name=some (.bind g a):=by obtain⟨cd,hc,_⟩:=W.any_some hh;unfold W.findObj;rw[hc,bind_some,ha,bind_some];simp[hg,ht]
def ExI(e C:Addr)(h:Heap):Prop:=∃ox od,W.InstAt h e ox C od
theorem Qo3{K:Fg}{e C:Addr}(R:XRd K C):W.KitX K (.ref e) (.ref C) (ExI e C)where
 ty:=λ_ _ _⟨_,_,I⟩=>I.type
 it:=λ_ _ X _=>by
  obtain⟨mB,df,_⟩:=W.any_some R.hd;unfold W.clsIn at df;split at df
  ·rename_i c' d' mD d8 ho;intro A' Q' E' s' k q;unfold isType loadHead;exact wpAny_bind (wpAny_loadPart (k _ _ (X _ _ ho)) (wpAny_pure q))
  ·cases df
 ne:=λh tp dd its n sl X kL=>by
  obtain⟨mB,df,_⟩:=W.any_some R.hd;refine Bool.eq_false_iff.mpr λq=>?_;have e:C=tp:=Value.ref.inj (beq_iff_eq.mp q);subst e;unfold W.clsIn at df;split at df
  ·rename_i c' d' mD d8 ho;have z:=(X _ _ ho).symm.trans kL;cases z
  ·cases df
 ca:=λ{_ _ _ _ _ s}X⟨ox,od,I⟩k=>by obtain⟨h,g,d,t,os⟩:=s;exact QpT X I R.mb R.mo R.ga R.gn (Qhz R.hd R.ca R.hn R.tk) k
section
variable{X:Cx}{O:List Nat}{a:Expr}{p p2 pos:Pos}{ev:EvE}{x y:Str}{c:Nat}{aa:List (Addr×Obj)}{σ:L2.St}{H F:Hp}{s:Shared}
theorem Qmr{e:Addr}{n:D}(I:Inv X aa σ H s)(sm:Sm F H)(r:Rep X.K F (.ref e) (.exc c n)):ExI e (Jt X.K c) s.heap:=by cases r with|exc0 h=>obtain⟨⟨vs,t,e1,_⟩,_,_⟩:=show ObjOk X.prog X.w H s.heap e (.ext (YZ e (Jt X.K 0) none))from I.hok e _ (sm _ _ h);exact⟨_,none,e1,rfl,rfl,trivial⟩|@exc _ dx _ _ h hx=>obtain⟨⟨vs,t,e1,_⟩,_,_⟩:=show ObjOk X.prog X.w H s.heap e (.ext (YZ e (Jt X.K c) (some dx)))from I.hok e _ (sm _ _ h);obtain⟨mA,⟨o,es,ep,ho,_⟩,_⟩:=show ObjOk X.prog X.w H s.heap dx (.xd _)from I.hok dx _ (sm _ _ hx);exact⟨_,some o,e1,rfl,rfl,ho⟩
noncomputable def Qrp(X:Cx)(y:V)(bx:Nat->Bool):List V->Hp->VK->Prop:=λxs H Q=>∃x,xs=[x,y]/\(x=.non/\Q (.bl false) H\/∃e F c n,x=.ref e/\Sm F H/\Rep X.K F (.ref e) (.exc c n)/\c<=6/\Q (.bl (bx c)) H)
theorem QiQ{yv:V}{yu:Value}{bx:Nat->Bool}(R:XR X.K)(hy:RelV yv yu)(kG:∀u,RelV yv u->u=yu)(h1:∀c,c<=6->W.kitOne X.K (.ref (Jt X.K c)) yu=some (bx c))(h2:W.kitOne X.K (.type "NoneType") yu=some false):CallR X (.builtin "isinstance") (Qrp X yv bx):=by
 intro aa s σ H xs us Q I r⟨x,hx,h⟩;subst hx;obtain⟨u,w,rfl,rx,cY⟩:=QhC r;obtain rfl:=kG w cY;rcases h with⟨rfl,q⟩|⟨e,F,c,n,rfl,sm,rp,hc,q⟩
 ·cases show u=Value.none from rx;exact W.kia_one W.kitx_none I.kIn True.intro h2 (λz=>nomatch z) λtk=>⟨.bl false,H,I.tok tk,rfl,q⟩
 ·cases show u=Value.ref e from rx;exact W.kia_one (Qo3 (R.rd c hc)) I.kIn (Qmr I sm rp) (h1 c hc) (λz=>nomatch z) λtk=>⟨.bl (bx c),H,I.tok tk,rfl,q⟩
theorem Qs9{v:Addr}(hg:Gl X y)(hm:X.mg y=some (.ref v))(aL:(y==("__debug__":Str))=false:=by decide):PE X (.Name y pos) (tC (.ref v)):=λ_ _ _ H _ I h=>Qaq I hg hm ⟨.ref v,H,I,rfl,h⟩ aL
theorem QpD{g:D->Option D}{yv:V}{bx:Nat->Bool}(hn:g .non=some (.bl false))(hg:∀c n d,g (.exc c n)=some d->c<=6/\d=.bl (bx c))(ho:∀dx d,g dx=some d->dx=.non\/∃c n,dx=.exc c n){σ:L2.St}{H:Hp}{Q:VK}(h:tD X O (eUn g ev) σ H Q):tCB (Qrp X yv bx) (Qef (tR X O ev) (Qef (tC yv) QkU)) σ H Q:=by
 obtain⟨F0,F,en,d,rs,w,k⟩:=h;obtain⟨dx,e1,e2⟩:=QL w;refine⟨F0,F,en,dx,rs,e1,λv F1 H1 g1 r1=>⟨v,rfl,?_⟩⟩;rcases ho dx d e2 with rfl|⟨c,n,rfl⟩
 ·rw[hn]at e2;cases e2;exact .inl ⟨r1.non,k _ F1 H1 g1 (.bl _)⟩
 ·obtain⟨h1,rfl⟩:=hg c n d e2;rcases r1 with r1|⟨p,kk,xs,ds,_,_,_,hd,_⟩;·cases r1 with
   |exc0 h=>exact .inr ⟨_,F1,0,.non,rfl,g1.fh,.exc0 h,h1,k _ F1 H1 g1 (.bl _)⟩|exc h hx=>exact .inr ⟨_,F1,c,_,rfl,g1.fh,.exc h hx,h1,k _ F1 H1 g1 (.bl _)⟩
  ·cases kk<;>cases hd
theorem Qo6{dx d:D}(h:D.instX c dx=some d):dx=.non\/∃c n,dx=.exc c n:=by cases dx with|non=>exact .inl rfl|exc c n=>exact .inr ⟨c,n,rfl⟩|_=>cases h
theorem Qo7{dx d:D}(h:D.instV dx=some d):dx=.non\/∃c n,dx=.exc c n:=by cases dx with|non=>exact .inl rfl|exc c n=>exact .inr ⟨c,n,rfl⟩|_=>cases h
theorem Qmo{q:Prop}[Decidable q]{a d:D}(h:(if q then some a else none)=some d):q/\d=a:=by
 split at h;·rename_i z;cases h;exact⟨z,rfl⟩
 ·cases h
theorem VI(R:XR X.K)(hc:c<=6)(hy:X.mg y=some (.ref (Jt X.K c)))(hg:Gl X x)(hm:X.mg x=none)(hv:bootBuiltins x=some (.builtin "isinstance"))(fM:Gl X y)(ha:PE X a (tR X O ev))(hn:x≠"__name__":=by decide)(aL:(x==("__debug__":Str))=false:=by decide)(eJ:(y==("__debug__":Str))=false:=by decide)(he:starEach [a,.Name y p2] X.env=[(false,eval a X.env),(false,eval (.Name y p2) X.env)]:=by rfl)(bF:starEach [.Name y p2] X.env=[(false,eval (.Name y p2) X.env)]:=by rfl):PE X (.Call (.Name x p) [a,.Name y p2] [] pos) (tD X O (eUn (D.instX c) ev)):=PE.imp (QbC (QiQ (yv:=.ref (Jt X.K c)) (yu:=.ref (Jt X.K c)) (bx:=λc'=>decide (c'=c)) R rfl (λu h=>h) (λc' h=>R.is c' c h hc) (R.nn c hc)) hg hm hv (Q6 ha (Q6 (Qs9 fM hy eJ) ZV bF) (by rw[he,bF])) hn aL (by rw[he,bF]) (by rw[bF];rfl)) λσ H Q h=>QpD rfl (λc' n d h=>Qmo h) (λdx d h=>Qo6 h) h
theorem Qpg(R:XR X.K)(hg:Gl X x)(hm:X.mg x=none)(hv:bootBuiltins x=some (.builtin "isinstance"))(fM:Gl X "ValueError")(iu:X.mg "ValueError"=none)(ha:PE X a (tR X O ev))(hn:x≠"__name__":=by decide)(aL:(x==("__debug__":Str))=false:=by decide)(he:starEach [a,.Name "ValueError" p2] X.env=[(false,eval a X.env),(false,eval (.Name "ValueError" p2) X.env)]:=by rfl)(bF:starEach [.Name "ValueError" p2] X.env=[(false,eval (.Name "ValueError" p2) X.env)]:=by rfl):PE X (.Call (.Name x p) [a,.Name "ValueError" p2] [] pos) (tD X O (eUn D.instV ev)):=PE.imp (QbC (QiQ (yv:=.ty "ValueError") (yu:=.type "ValueError") (bx:=λ_=>true) R rfl (λu h=>h) (λc' h=>R.va c' h) R.nv) hg hm hv (Q6 ha (Q6 (Qkh fM iu PyProof.Rows.Boot.«ValueError» (show RelV (.ty "ValueError") (.type "ValueError")from rfl)) ZV bF) (by rw[he,bF])) hn aL (by rw[he,bF]) (by rw[bF];rfl)) λσ H Q h=>QpD rfl (λc' n d h=>Qmo h) (λdx d h=>Qo7 h) h
end
section
variable{X:Cx}{O:List Nat}{a:Expr}{p p2 pos:Pos}{ev:EvE}
theorem QdV(R:XR X.K)(ha:PE X a (tR X O ev))(hb:attributeBase a "block" X.env (eval a X.env)=eval a X.env:=by rfl):PE X (.Attribute a "block" pos) (tD X O (eUn D.blk ev)):=by
 intro aa s σ H Q I⟨F0,F,en,d,rs,w,k⟩;obtain⟨dx,e1,e2⟩:=QL w;obtain⟨c,hc,rfl⟩:∃c,¬(c=0\/6<c)/\dx=.exc c d:=by cases dx with
  |exc c n=>
   have e2:(if c=0\/6<c then none else some n)=some d:=e2;split at e2;·cases e2
   ·rename_i z;cases e2;exact⟨c,z,rfl⟩|_=>cases e2
 refine Qrd hb (thn (ha aa s σ H (λv H1=>∃F1,Gr F H F1 H1/\Rep X.K F1 v (.exc c d)) I ⟨F0,F,en,_,rs,e1,λv F1 H1 g1 r1=>? _⟩) λu s1⟨v,H1,I1,rv,F1,g1,r1⟩=>? _)
 ·rcases r1 with r1|⟨p,kk,xs,ds,_,_,_,hd,_⟩;·exact⟨F1,g1,r1⟩
  ·cases kk<;>cases hd
 ·cases r1 with|exc0 h=>exact absurd (.inl rfl) hc|@exc e dx _ i h hx=>
   cases show u=Value.ref e from rv;have R':=R.rd c (by omega);obtain⟨⟨vs,t,q1,_⟩,_,_⟩:=show ObjOk X.prog X.w H1 s1.heap e (.ext (YZ e (Jt X.K c) (some dx)))from I1.hok e _ (g1.fh _ _ h);obtain⟨mA,cE,hl⟩:=show ObjOk X.prog X.w H1 s1.heap dx (.xd [("block",.int i)])from I1.hok dx _ (g1.fh _ _ hx);obtain⟨od,ho,lg⟩:=QgW cE;obtain⟨u,hu,ru⟩:=RelO.some_of (v:=.int i) (o:=mA "block") (hl "block");obtain⟨hh,g,d',tk,os⟩:=s1;exact QmC (od:=some od) I1.kIn ⟨q1,rfl,rfl,ho⟩ R'.mb R'.ga R'.gn (W.findObj_own R'.hd R'.no rfl (by rw[lg,hu])) (Qno ru) ⟨.int i,H1,I1.tok _,ru,k _ F1 H1 g1 (.int i)⟩
end
section
variable{M:Model}{A:Around}{E:Value->Shared->Prop}{s:Shared}
theorem Qnf{oT:Obj}{ts:Array Value}(hd:oT.data=.fields ts)(h3:ts[3]?=some .none):Obj.mapFields (·.setIfInBounds 3 Value.none) oT=oT:=by
 rw[Qkk hd];obtain⟨c,d,dt,sl⟩:=oT;dsimp only at hd;subst hd;congr 2;apply Array.ext_getElem?;intro i;rw[Array.getElem?_setIfInBounds];split
 ·rename_i z;subst z;obtain⟨cX,h⟩:=Array.getElem?_eq_some_iff.mp h3;rw[if_pos cX,h3]
 ·rfl
theorem Qd8{h:Heap}{T:Addr}{oT:Obj}{ts:Array Value}(hT:h.get? T=some oT)(hd:oT.data=.fields ts)(h3:ts[3]?=some .none)(b:Addr):(h.update T (Obj.mapFields (·.setIfInBounds 3 Value.none))).get? b=h.get? b:=by
 by_cases z:b=T;·subst z;rw[Heap.get?_update_self (Obj.mapFields (·.setIfInBounds 3 Value.none)) hT (Obj.isFreed_of_fields (Obj.data_mapFields hd _)),hT,Qnf hd h3]
 ·exact Heap.get?_update_other _ _ (Ne.symm z)
theorem QjJ{ae:Heap}{env:Env}{ag:List Env}{L ea:Addr}{s₀:Heap}{H:Hp}{Q:Unit->Shared->Prop}(cJ:A.frames=some (env::ag))(hl:s.heap.FunFrames ae (env::ag))(hf:env.frame=some L)(hs:s₀.objs.size<=s.heap.objs.size)(hH:∀a,s.heap.objs.size<=a->H a=none)(fly:Fly s₀ H ea s.heap)(h:∀h',Passed s₀ H (frs (env::ag)) [] ea s.heap h'->Q () {s with heap:=h'}):wpAny M A (noteFrame (.ref ea) env) (λ_ s'=>wpAny M A (setFlight (.ref ea) none) Q E s') E s:=by
 obtain⟨h0,oe,vs,he,hd,hsz,h1|⟨T,oT,ts,h1,iJ,iL,dg,hT,cF,h3⟩⟩:=fly;·unfold noteFrame;simp only[hf];refine wpAny_bind (wpAny_field he hd h1 ?_);rw[if_neg (by decide)];exact Qbb cJ hl hf he hd hsz h0 hs hH λh' p=>h h' p
 ·unfold noteFrame;simp only[hf];refine wpAny_bind (wpAny_field he hd h1 ?_);rw[if_pos (show(Value.ref T !=Value.none)=true from by simp)];refine wpAny_bind (wpAny_field hT cF h3 ?_);rw[if_neg (show¬((Value.none==rawInt L)=true)from by simp[rawInt])];refine wpAny_bind (wpAny_setField hT cF (Array.getElem?_eq_some_iff.mp h3).1 ?_);have all:∀b,(s.heap.update T (Obj.mapFields (·.setIfInBounds 3 Value.none))).get? b=s.heap.get? b:=λb=>Qd8 hT cF h3 b;have di:(s.heap.update T (Obj.mapFields (·.setIfInBounds 3 Value.none))).objs.size=s.heap.objs.size:=Heap.size_update ..;refine Qbb (ae:=ae) cJ (hl.of_keeps λb o hb dG=>⟨o,(all b).trans hb,rfl⟩) hf ((all ea).trans he) hd hsz h0 (by show s₀.objs.size<=(s.heap.update T _).objs.size;rw[di];exact hs) (λa ha=>hH a (by have:(s.heap.update T (Obj.mapFields (·.setIfInBounds 3 Value.none))).objs.size<=a:=ha;omega)) λh' p=>h h' ?_;exact⟨λb o hb cb b3 hc=>p.keep b o ((all b).trans hb) cb b3 hc,λb o hb cb=>p.slot b o ((all b).trans hb) cb,λgB cH dJ de=>p.ex gB cH ((all ea).trans dJ) de,(λ_ z=>nomatch z),(λ_ z=>nomatch z),p.fly⟩
theorem QqL{ea:Addr}{s₀:Heap}{H:Hp}{Q:Unit->Shared->Prop}(fly:Fly s₀ H ea s.heap)(h:∀h',(∀b,h'.get? b=s.heap.get? b)->Q () {s with heap:=h'}):wpAny M A (setFlight (.ref ea) none) Q E s:=by
 obtain⟨h0,oe,vs,he,hd,hsz,h1|⟨T,oT,ts,h1,iJ,iL,dg,hT,cF,h3⟩⟩:=fly
 ·unfold setFlight;refine wpAny_bind (wpAny_field he hd h1 ?_);rw[if_neg (by decide)];exact wpAny_pure (h s.heap λ_=>rfl)
 ·unfold setFlight;refine wpAny_bind (wpAny_field he hd h1 ?_);rw[if_pos (show(Value.ref T !=Value.none)=true from by simp)];exact wpAny_setField hT cF (Array.getElem?_eq_some_iff.mp h3).1 (h _ λb=>Qd8 hT cF h3 b)
end
def PX(X:Cx)(st:Stmt)(O:List Nat)(b:EvS):Prop:=∀(aa:List (Addr×Obj))(s:Shared)(σ:L2.St)(H:Hp)(F0:Fz)(F:Hp)(en:Qh)(fl:Fl),Inv X aa σ H s->RS X.K X.H₀ F0 F H σ en O->b en=some fl->wpAny (model X.prog X.w) X.A (exec st X.env) (λf s'=>f=.next/\fl=.nx en/\∃F' H',Sm F F'/\Inv X aa σ H' s'/\RS X.K X.H₀ F0 F' H' σ en O) (λv s'=>∃c n ea F' H',fl=.rz c n/\v=.ref ea/\Sm F F'/\Inv X aa σ H' s'/\RS X.K X.H₀ F0 F' H' σ en O/\Rep X.K F' (.ref ea) (.exc c n)/\Fly X.s₀.heap H' ea s'.heap) s
section
variable{X:Cx}{O OL:List Nat}{w:Bool}{e a:Expr}{es:List Expr}{p pos ak:Pos}{x y:Str}{ps:List Str}{k:Nat}
theorem Qkd{f:List D->Option Rs}{l:EvL}(c:VS X.prog X.w X.K X.mg X.ae k x ps (spX X.K f))(hr:Room k X.A)(hg:Gl X x)(ha:∀E,PA (X.wish E) (e::es) (tL (X.wish E) O l))(aL:(x==("__debug__":Str))=false:=by decide)(he:starEach (e::es) X.env=(false,eval e X.env)::starEach es X.env:=by rfl)(bc:(backTo ak (starEach es X.env)).any (·.1)=false:=by rfl)(cz:swapsWith (.Call (.Name x p) (e::es) [] ak) none pos.line X.env=pure false:=by rfl):PX X (.Expr (.Call (.Name x p) (e::es) [] ak) pos) O (Zq f l):=by
 intro aa s σ H F0 F en fl I rs z;obtain⟨ds,e1,z1⟩:=QL z;obtain⟨r,e2,rfl⟩:=JI z1;obtain⟨fa,fd,Fk,hb,hk,hm⟩:=c;refine wpAny_Expr_any (wpAny_Call_Name_kw (Qaq I hg hm ?_ aL)) I.quiet cz;refine W.callWith_K (h₀:=X.ae) I.ok.mod.kin hk (wpAny_mono (ha (λ_ _=>False) ak aa s σ H (λvs H1=>∃F1,Gr F H F1 H1/\Reps X.K F1 vs ds) (I.wish _) ⟨F0,F,en,ds,rs,e1,λvs F1 H1 g1 r1=>⟨F1,g1,r1⟩⟩) (λus s1⟨vs,H1,I1,rv,F1,g1,r1⟩=>⟨I1.unwish.kIn,?_⟩) (λ_ _ z=>z.elim)) he bc;have I2:=I1.unwish;have r2:Vals (vs++[]) (us++[]):=rv.append .nil;have spec:spX X.K f (vs++[]) H1 (λv H'=>∃d F',r=.inl d/\Gr F1 H1 F' H') (λv _ H'=>∃ea c n F',v=.ref ea/\r=.inr (c,n)/\Gr F1 H1 F' H'/\Rep X.K F' (.ref ea) (.exc c n)):=by refine⟨F1,ds,r,g1.fh,(append_nil vs).symm▸r1,e2,?_⟩;cases r with|inl d=>exact λv F' H' g _=>⟨d,F',rfl,g⟩|inr cn=>exact λea F' H' g rx=>⟨ea,cn.1,cn.2,F',rfl,rfl,g,rx⟩
 have hl:(us++[]).length=ps.length:=by rw[<-r2.length];exact Fk.len _ _ _ _ spec
 refine wpAny_call (codeAny_mono (Fk.run X.A X.stack s1 H1 ⟨us,[]⟩ (us++[]) (vs++[]) _ _ hr I2.env0 (hb s1 us I2.kIn hl) r2 spec) λrr s' hq=>?_);cases rr with
 |error v=>obtain⟨ea,H',he,c7,lJ,un,hok,fly,mj,c,n,F',hv,rfl,g,rx⟩:=hq;cases hv;exact⟨c,n,ea,F',H',rfl,he,g1.ff.trans g.ff,I2.call' c7 un hok lJ (λb z=>absurd z (by simp)),rs.grow (g1.trans g),rx,fly.mono I2.sz⟩|ok fl=>cases fl with|ret u=>obtain⟨v,H',I3,rv',d,F',rfl,g⟩:=I2.after hq;exact⟨rfl,rfl,F',H',g1.ff.trans g.ff,I3,rs.grow (g1.trans g)⟩|next=>exact False.elim hq|brk=>exact False.elim hq|cont=>exact False.elim hq
theorem Qs3{c:Expr}{sa sb:Stmt}{ec:EvE}{ea eb:EvS}(hc:∀E,PT (X.wish E) c (tDT (X.wish E) O ec))(ha:PX X sa O ea)(hb:PX X sb O eb):PX X (.If c [sa] [sb] pos) O (sIf ec ea eb):=by
 intro aa s σ H F0 F en fl I rs z;obtain⟨b,e1,e2⟩:=Vb z;refine wpAny_If (wpAny_mono (hc (λ_ _=>False) aa s σ H (λb' H1=>b'=b/\∃F1,Gr F H F1 H1) (I.wish _) ⟨F0,F,en,b,rs,e1,λF1 H1 g1=>⟨rfl,F1,g1⟩⟩) (λd s1⟨H1,I1,hd,F1,g1⟩=>?_) λ_ _ z=>z.elim);subst hd;have go:∀(st:Stmt)(ev:EvS),PX X st O ev->ev en=some fl->wpAny (model X.prog X.w) X.A (execs [st] X.env) (λf s'=>f=.next/\fl=.nx en/\∃F' H',Sm F F'/\Inv X aa σ H' s'/\RS X.K X.H₀ F0 F' H' σ en O) (λv s'=>∃c n ea F' H',fl=.rz c n/\v=.ref ea/\Sm F F'/\Inv X aa σ H' s'/\RS X.K X.H₀ F0 F' H' σ en O/\Rep X.K F' (.ref ea) (.exc c n)/\Fly X.s₀.heap H' ea s'.heap) s1:=λst ev hp he=>by
  refine wpAny_execs_cons (wpAny_mono (hp aa s1 σ H1 F0 F1 en fl I1.unwish (rs.grow g1) he) (λf s2⟨h1,h2,F',H',sm,I2,r2⟩=>?_) λv s2⟨c,n,ea,F',H',h1,h2,sm,r⟩=>⟨c,n,ea,F',H',h1,h2,g1.ff.trans sm,r⟩);subst h1;exact wpAny_execs_nil ⟨rfl,h2,F',H',g1.ff.trans sm,I2,r2⟩
 cases d with
 |true=>exact go sa ea ha e2|false=>exact go sb eb hb e2
end
end Wd
namespace PySem
open Sem(wp)
section
variable{M:Model}{A:Around}{E:Value->Shared->Prop}
theorem QmB{h:Heap}{g:Array GenState}{d:Drawn}{t:Nat}{os:OsState}{e:Addr}{oe:Obj}{Q:Bool->Shared->Prop}{nm q kj q':Str}{C N CB NB:Addr}{bs bm eG fk:List Value}{hdct gv:Bool}{sn j7:List Str}{sub iX:List Value}{ab mG:Bool}{col jm:Option Bool}{dd fj:Option Addr}{k0 k1 k2 k3 k5 kC kB g9 kA kz:Option Value}{newId eN:String}(hC:h.get? C=some (excClassObj nm q C N bs bm hdct sn sub ab col dd k0 k1 k2 k3 k5 newId))(hB:h.get? CB=some (excClassObj kj q' CB NB eG fk gv j7 iX mG jm fj kC kB g9 kA kz eN))(he:h.get? e=some oe)(cP:oe.cls=.ref C)(aS:fk.contains (.type "BaseException")=true)(lz:bm.contains (.ref CB)=true)(hq:Q true ⟨h,g,d,t,os⟩):wpAny M A (excMatches (.ref e) (.ref CB)) Q E ⟨h,g,d,t,os⟩:=by
 have iH:(Value.ref CB::fk).contains (.type "BaseException")=true:=by rw[List.contains_cons,aS,Bool.or_true]
 have fO:(Value.ref C::bm).contains (.ref CB)=true:=by rw[List.contains_cons,lz,Bool.or_true]
 have f:=tc_notTuple;unfold excMatches;repeat(first|(with_reducible refine wpAny_loadPart_at he ?_;rw[cP])|with_reducible refine wpAny_loadPart_at hB ?_|with_reducible refine wpAny_loadPart_at hC ?_|(with_reducible refine wpAny_isSubtype_exc hB ?_;rw[iH])|(with_reducible refine wpAny_isSubtype_exc hC ?_;rw[fO])|wp_step)
 exact hq
end
end PySem
namespace Wd
open PySem PySem.Spec PyProof.Rows L2
theorem RS.del{K:Fg}{H₀:Hp}{F0:Fz}{F H:Hp}{σ:L2.St}{en:Qh}{O:List Nat}{i:Nat}(r:RS K H₀ F0 F H σ en O)(hi:i<en.length)(hq:JW i∉O):RS K H₀ F0 F H (σ.set i none) (en.set i none) (dl i O)where
 fh:=r.fh
 hh:=r.hh
 ff:=r.ff
 fr:=r.fr
 slot:=λj d' e1 hj=>by
  rw[QU hi]at e1;rw[QU (by rw[r.len];exact hi)];split at e1;·cases e1
  ·rename_i z;rw[if_neg z];exact r.slot j d' e1 λq=>hj (mem_dl.mpr ⟨q,λw=>z w.symm⟩)
 own:=λj d' e1 hj=>by
  obtain⟨h1,h2⟩:=mem_dl.mp hj;rw[QU hi,if_neg (Ne.symm h2)]at e1;rw[QU (by rw[r.len];exact hi),if_neg (Ne.symm h2)];exact r.own j d' e1 h1
 dis:=λj k p d1 d2 hj hk f1 f2 e1 e2=>by
  obtain⟨h1,h2⟩:=mem_dl.mp hj;obtain⟨h3,h4⟩:=mem_dl.mp hk;rw[QU (by rw[r.len];exact hi),if_neg (Ne.symm h2)]at e1;rw[QU (by rw[r.len];exact hi),if_neg (Ne.symm h4)]at e2;rw[QU hi,if_neg (Ne.symm h2)]at f1;rw[QU hi,if_neg (Ne.symm h4)]at f2;exact r.dis j k p d1 d2 h1 h3 f1 f2 e1 e2
 pin:=λj hj=>by
  obtain⟨h1,_⟩:=mem_dl.mp hj;obtain⟨p,e1,e2⟩:=r.pin j h1;refine⟨p,e1,? _⟩;rw[getElem?_set_ne λz:i=j=>hq (by rw[z];exact h1)];exact e2
 len:=by rw[length_set,length_set];exact r.len
section
variable{X:Cx}{aa:List (Addr×Obj)}{σ:L2.St}{H:Hp}{s:Shared}
theorem QmH{M:Model}{A:Around}{E:Value->Shared->Prop}{i:Nat}{x:Str}{v:V}{Q:Unit->Shared->Prop}(I:Inv X aa σ H s)(hN:X.N.Nodup)(hi:X.N[i]?=some x)(hk:X.env.scope.names.lookup x=some .local)(hv:σ[i]?=some (some v))(h:∀s',Inv X aa (σ.set i none) H s'->Q () s'):wpAny M A (unbindName X.env x) Q E s:=by
 obtain⟨m,hn,hl⟩:=id I.loc;have cP:(X.env.scope.kind==.class||(X.env.scope.kind==.module&&X.env.locals !=X.env.globals))=false:=by rw[I.ok.kind];rfl
 have dw:i<σ.length:=by rw[I.len];exact(List.getElem?_eq_some_iff.mp hi).1
 have cne:=I.cne;have iy:X.env.kindOf x=some .local:=hk;obtain⟨u,_,lk⟩:=hl i x v hi hv (.inl hk);have ik:m x=some u:=by
  rcases lk with⟨_,z⟩|⟨z|z,_⟩;·exact z
  ·rw[iy]at z;cases z
  ·rw[iy]at z;cases z
 have tracked:∀{a:Addr}{h':Heap},(∃o,s.heap.get? a=some o/\H a=none)->Heap.SameBut a s.heap h'->HOk X.prog X.w H h':=λ{a h'}ha hs b ob e=>by
  obtain⟨_,_,b6⟩:=ha;refine(I.hok b ob e).stay (λc w' hc q=>(hs.2 c ?_).trans q) (λ_ q=>q) λ_ _ q=>q;rintro rfl;rcases hc with rfl|hc;·rw[b6]at e;cases e
  ·rw[b6]at hc;cases hc
 refine wpAny_unbindName_local iy hn ik cP (λh' u' fJ hs=>?_);obtain⟨oL,_,_,ig,_⟩:=id hn;refine h _ ⟨I.ok,I.os,I.bare,⟨λb o e n hb hx=>?_,λb o e n hb hx=>?_,I.ae.free,λb o e hx=>?_,I.ae.tups,I.ae.frzs,I.ae.tbls⟩,⟨_,fJ,λj y v' e1 e2 e3=>?_⟩,λy c e=>?_,I.free,I.freeC,λp hp=>?_,tracked ⟨oL,ig,I.free⟩ hs,by rw[length_set];exact I.len⟩;·exact(hs.2 b (ne_of_lt (lt_of_lt_of_le (Heap.lt_size e) I.ok.above))).trans (I.ae.keep b o e n hb hx)
 ·obtain⟨sl,e1⟩:=I.ae.slot b o e n hb hx;exact⟨sl,(hs.2 b (ne_of_lt (lt_of_lt_of_le (Heap.lt_size e) I.ok.above))).trans e1⟩
 ·obtain⟨o',e1⟩:=I.ae.there b o e hx;exact⟨o',(hs.2 b (ne_of_lt (lt_of_lt_of_le (Heap.lt_size e) I.ok.above))).trans e1⟩
 ·by_cases hj:j=i
  ·subst hj;rw[getElem?_set_self dw]at e2;cases e2
  ·rw[getElem?_set_ne (Ne.symm hj)]at e2;obtain⟨u',r',q⟩:=hl j y v' e1 e2 e3;refine⟨u',r',?_⟩;rcases q with⟨k,e⟩|⟨k,c,e,z⟩
   ·refine .inl ⟨k,?_⟩;have:y≠x:=λe=>hj (QeO hN e1 (e▸hi));simp[this,e]
   ·exact .inr ⟨k,c,e,z.sameBut hs (cne y c e)⟩
 ·obtain⟨w',z⟩:=I.cell y c e;exact⟨w',z.sameBut hs (cne y c e)⟩
 ·obtain⟨e,n,ne,nf,d⟩:=I.pin p hp;exact⟨(hs.2 p.1 ne).trans e,n,ne,nf,d⟩
end
structure XT(K:Fg)(mg:Str->Option Value)(xB:Str):Prop where ex:∃CB,mg xB=some (.ref CB)/\(∃nm q N bs sn sub ab col dd k0 k1 k2 k3 k5,K.lookup CB=some (excClassObj nm q CB N bs Vr true sn sub ab col dd k0 k1 k2 k3 k5 "ValueError.__new__"))/\∀c,c<=6->∃bZ,XCl K (Jt K c) CB bZ
section
variable{X:Cx}{O OL:List Nat}{w:Bool}{st:Stmt}{b:EvS}{xB y n:Str}{np p1 p2 p3 hp pos:Pos}
theorem QsB(i j:Nat)(hN:X.N.Nodup)(T:XT X.K X.mg xB)(hg:Gl X xB)(hb:PX X st O b)(hi:X.N[i]?=some y:=by rfl)(hj:X.N[j]?=some n:=by rfl)(lA:i≠j:=by decide)(hy:X.env.scope.names.lookup y=some .local:=by rfl)(hn:X.env.scope.names.lookup n=some .local:=by rfl)(lD:dl i O=O:=by rfl)(lu:dl j O=O:=by rfl)(fb:JW i∉O:=by decide)(lq:JW j∉O:=by decide)(b5:X.stack=X.env::X.ag:=by rfl)(cJ:X.env.frame=some X.env.locals:=by rfl)(aL:(xB==("__debug__":Str))=false:=by decide)(hd:(n==("__debug__":Str))=false:=by decide)(bC:(n==("__classdict__":Str))=false:=by decide)(hs:swapsWith (.Name n p2) (some (.Name y p1)) p3.line X.env=pure false:=by rfl):PS X (.Try [st] [.ExceptHandler (some (.Name xB np)) (some n) [.Assign [.Name y p1] (.Name n p2) p3] hp] [] [] pos) (tS X O O OL w (QkV i j b)):=by
 intro aa s σ H Dn I⟨F0,F,en,fl,rs,z,k⟩;have z':Qrf i j en (b en)=some fl:=z;cases q:b en with
 |none=>rw[q]at z';cases z'|some f1=>
  rw[q]at z';refine wpAny_Try_except (wpAny_execs_cons (wpAny_mono (hb aa s σ H F0 F en f1 I rs q) (λf s1⟨h1,h2,F',H',sm,I1,r1⟩=>?_) λv s1⟨c,nn,ea,F',H',hf,hv,sm,I1,bb,rp,fly⟩=>?_))
  ·subst h1;subst h2;cases z';exact wpAny_execs_nil (wpAny_execs_nil ⟨σ,H',I1,k σ F' H' sm r1⟩)
  ·subst hf;subst hv;obtain⟨hc,lE⟩:c<=6/\fl=.nx ((en.set i (some (.exc c nn))).set j none):=by
    have z':(if c<=6 then some (Fl.nx ((en.set i (some (.exc c nn))).set j none))else none)=some fl:=z';split at z';·rename_i hc;cases z';exact⟨hc,rfl⟩
    ·cases z'
   subst lE;obtain⟨C,dx,lV⟩:=rp.exF;have lS:=bb.fh _ _ lV;refine QjJ (ae:=X.ae) (ag:=X.ag) (s₀:=X.s₀.heap) (H:=H') (by rw[I1.ok.frames,b5]) (by rw[<-b5];exact I1.stack) cJ I1.sz (λa ha=>I1.hok.fresh ha) fly λh' p=>?_;rw[<-b5]at p;have I2:Inv X aa σ H' {s1 with heap:=h'}:=I1.call' (s':={s1 with heap:=h'}) (ch:=[]) rfl ⟨λb o q n hb _=>p.keep b o q hb (λz=>by rw[z,lS]at n;cases n) (λz=>nomatch z),λb o q n hb _=>p.slot b o q hb,λb o q n _=>n,λb o q _=>?_,λ_ _ q=>q,λ_ _ _ q=>q,λ_ ps q=>⟨#[],by rw[q];simp⟩⟩ (p.hok I1 bb.fh rp) I1.bare (λb z=>nomatch z)
   ·obtain⟨CB,kZ,⟨nm,q',N,bs,sn,sub,ab,col,dd,k0,k1,k2,k3,k5,hB⟩,b8⟩:=T.ex;obtain⟨bZ,cl⟩:=b8 c hc;obtain⟨nm2,q2,N2,dP,sn2,mJ,ab2,mP,eF,k02,k12,k22,k32,k52,hC,_⟩:=cl.obj;have hE:∃ox,h'.get? ea=some ox/\ox.cls=.ref (Jt X.K c):=by obtain⟨ox,od,J⟩:=Qmr I2 bb.fh rp;exact⟨ox,J.at_,J.cls⟩
    obtain⟨ox,kT,gK⟩:=hE;refine wpAny_handleBy_cons (codeAny_handlers_test (Calls.Name_function_global I2.ok.kind hg (Calls.loadGlobal_global (by rw[I2.ok.glob];exact I2.mod.glob.keeps I2.bk) kZ ?_) aL)) (by intro q;cases q);refine QmB (I2.kIn _ _ hC) (I2.kIn _ _ hB) kT gK rfl (by simp) (codeAny_handlers_suite_as ?_);refine QqL p.fly λh2 eL=>?_;have I3:Inv X aa σ H' {s1 with heap:=h2}:=I2.kept (t':=s1.toks) λb u q=>(eL b).trans q;refine Qas (u:=.ref ea) (v:=.ref ea) I3 hN hj (.inl hn) rfl (λs3 I4=>?_) (.inr hn);have e9:j<σ.length:=by rw[I.len];exact(List.getElem?_eq_some_iff.mp hj).1
    have iB:i<σ.length:=by rw[I.len];exact(List.getElem?_eq_some_iff.mp hi).1
    refine wpAny_execs_cons (wpAny_Assign_Name ?_ hs);obtain⟨m,cE,hl⟩:=id I4.loc;obtain⟨u,ru,lk⟩:=hl j n (.ref ea) hj (getElem?_set_self e9) (.inl hn);cases(show u=Value.ref ea from ru);have iw:X.env.kindOf n=some .local:=hn;have ik:m n=some (.ref ea):=by
     rcases lk with⟨_,z⟩|⟨z|z,_⟩;·exact z
     ·rw[iw]at z;cases z
     ·rw[iw]at z;cases z
    refine wpAny_Name (wpAny_loadName_local I4.ok.kind iw cE ik ?_) hd;refine Qas (u:=.ref ea) (v:=.ref ea) I4 hN hi (.inl hy) rfl (λs4 I5=>?_) (.inr hy);refine wpAny_execs_nil ?_;refine wpAny_bind (wpAny_bindName (Qas (u:=.none) (v:=.non) I5 hN hj (.inl hn) rfl (λs5 I6=>?_) (.inr hn)));unfold unbindBehindTheSuite;refine wpAny_onRaise (QmH I6 hN hj hn (v:=.non) (getElem?_set_self (by rw[length_set,length_set];exact e9)) λs6 I7=>?_);have hσ:((((σ.set j (some (.ref ea))).set i (some (.ref ea))).set j (some V.non)).set j none)=(σ.set i (some (.ref ea))).set j none:=by rw[set_set,List.set_comm _ _ (Ne.symm lA),set_set]
    rw[hσ]at I7;have jN:en.length=σ.length:=rs.len.symm;have R1:=bb.put (i:=i) rp (by rw[jN];exact iB) fb;rw[lD]at R1;have R2:=R1.del (i:=j) (by rw[length_set,jN];exact e9) lq;rw[lu]at R2;exact⟨_,H',I7,k _ F' H' sm R2⟩
   ·by_cases b3:b=ea
    ·subst b3;obtain⟨_,oe,vs,e1,e2,_⟩:=fly;obtain⟨cH,e3,_⟩:=p.ex oe vs e1 e2;exact⟨_,e3⟩
    ·by_cases cb:b∈frs X.stack
     ·obtain⟨sl,e3⟩:=p.slot b o q cb;exact⟨_,e3⟩
     ·exact⟨o,p.keep b o q cb b3 (λz=>nomatch z)⟩
end
section
variable{X:Cx}{O:List Nat}{a b:Expr}{pos:Pos}{ea eb:EvE}
theorem Qcy(ha:PE X a (tR X O ea))(hb:PE X b (tR X O eb)):PE X (.BinOp a .Add b pos) (tO X O (eOp D.cat ea eb)):=PE.imp (Qpw Qmh ha hb) λσ H Q⟨F0,F,en,d,rs,w,k⟩=>by
  obtain⟨dx,dy,e1,e2,e3⟩:=Qa9 w;refine⟨F0,F,en,dx,rs,e1,λx F1 H1 g1 r1=>?_⟩;refine⟨F0,F1,en,dy,rs.grow g1,e2,λy F2 H2 g2 r2=>?_⟩;have s:=g2.fh;have kf:=r1.gr g2;cases dx<;>cases dy<;>try(cases e3;done)
  case lst.lst xs ys=>
   have e3:(if xs.length+ys.length<=lI then some (D.lst (xs++ys))else none)=some d:=e3;split at e3
   ·rename_i hz;cases e3;obtain⟨p,us,rfl,h1,q1⟩:=kf.lst s;obtain⟨q,ws,rfl,h2,q2⟩:=r2.lst s;refine⟨p,q,us,ws,rfl,rfl,h1,h2,by rw[Z5,q1.length,q2.length];exact hz,λl hl=>?_⟩;exact k l none (us++ws) (xs++ys) F2 _ ((g1.trans g2).trans (Gr.newO s hl (.lst (us++ws)))) ((g1.trans g2).hh.none hl) (s.none hl) QB (q1.append q2) rfl trivial
   ·cases e3
end
structure XDf(K:Fg)(mg:Str->Option Value)(x qual:Str)(c:Nat)(st:Stmt)(C CB f:Addr)(fd:FuncData):Prop where
 cl:XCl K C CB (some (.ref f))xb:XB K CB
 fn:W.isFn K (.ref f)=true
 bd:Binds K fd ["self","block"] []fu:Fun K "__init__" qual st f fd
 mx:mg x=some (.ref C)mb:mg "BookError"=some (.ref CB)xc:Jt K c=C
theorem XDf.mk'{P:Program}{w:World}{K:Fg}{mg:Str->Option Value}{ae:Heap}{x qual:Str}{c:Nat}{st s1 s2:Stmt}(h:∃C CB f fd,XDf K mg x qual c st C CB f fd)(S:FnScope ["self","block"] ["self","block"] (Qc st))(hd:QY st=[s1,s2])(hb:∀(C CB f:Addr)(fd:FuncData),XDf K mg x qual c st C CB f fd->∀(ao:Value)(A:Around)(ag:List Env)(s:Shared)(H:Hp)(E:XK),PS (ZJ CX0 P w K mg ae ["self","block"] qual (Qc st) f ao A ag s H E).nox s1 (tI1 C)/\PS (ZJ CX0 P w K mg ae ["self","block"] qual (Qc st) f ao A ag s H E).nox s2 (tI2 C)):MkX P w K mg ae 1 x c:=by obtain⟨C,CB,f,fd,z⟩:=h;exact⟨C,CB,f,fd,z.cl,z.fn,z.bd,okI (k:=0) z.fu S hd (hb C CB f fd z),z.mx,z.xc⟩
noncomputable def QcQ(s:Stmt):List Stmt:=match s with|.ClassDef _ _ _ b _ _ _ _ _ _ _=>b|_=>[]
noncomputable def QkT(K:Fg)(C:Addr)(bm:List Value)(bZ:Option Value):Bool:=match K.lookup C with|some ⟨.type "type",_,.cls cd,sl⟩=>(match cd.mro,sl.toList with|.ref C'::fk,[_,_,_,_,some (.builtin n),_]=>C'==C&&n=="ValueError.__new__"&&!cd.hasDel&&fk==bm&&cd.hasDict&&W.nsOkIn K cd.ns&&W.nsIn K cd.ns "__init__"==some bZ|_,_=>false)|_=>false
theorem Ql1{K:Fg}{C:Addr}{bm:List Value}{bZ:Option Value}(q:QkT K C bm bZ=true):∃nm q N bs sn sub ab col dd k0 k1 k2 k3 k5,K.lookup C=some (excClassObj nm q C N bs bm true sn sub ab col dd k0 k1 k2 k3 k5 "ValueError.__new__")/\W.nsOkIn K N=true/\W.nsIn K N "__init__"=some bZ:=by
 unfold QkT at q;split at q
 ·rename_i dd cd sl ho;split at q
  ·rename_i C' fk k0 k1 k2 k3 n k5 hm hs;simp only[and_eq_true,beq_iff_eq,Bool.not_eq_true']at q;obtain⟨⟨⟨⟨⟨⟨rfl,rfl⟩,gm⟩,lL⟩,hd⟩,hok⟩,cW⟩:=q;obtain⟨nm,bs,mro,ns,qn,de,sn,sub,ab,col,del⟩:=cd;dsimp only at hm gm hok cW hd;subst hm gm hd lL;have ib:sl=#[k0,k1,k2,k3,some (.builtin "ValueError.__new__"),k5]:=by
    obtain⟨l⟩:=sl;simp only at hs;rw[hs]
   subst ib;exact⟨nm,qn,ns,bs,sn,sub,ab,col,dd,k0,k1,k2,k3,k5,ho,hok,cW⟩
  ·cases q
 ·cases q
def QhL(K:Fg)(C CB:Addr)(bZ:Option Value):Bool:=QkT K C (.ref CB::Vr) bZ&&W.tailIn K Vr (.ref CB::Vr)&&W.findIn K (.ref C) "__setattr__"==some (some (.builtin "object.__setattr__"))&&W.takerIn K C "block"==some none&&W.findIn K (.ref C) "__getattribute__"==some (some (.builtin "BaseException.__getattribute__"))&&W.findIn K (.ref C) "__getattr__"==some none&&W.findIn K (.ref C) "block"==some none&&W.keepIn K (.ref C)
theorem QhS{K:Fg}{C CB:Addr}{bZ:Option Value}(h:QhL K C CB bZ=true):XCl K C CB bZ:=by unfold QhL at h;simp only[and_eq_true,beq_iff_eq]at h;obtain⟨⟨⟨⟨⟨⟨⟨a,b⟩,c⟩,d⟩,e⟩,f⟩,g⟩,i⟩:=h;exact⟨Ql1 a,b,c,d,e,f,g,i⟩
noncomputable def xbB(K:Fg)(CB:Addr):Bool:=W.readsIn K CB (.type "type")&&W.specialIn K (.ref CB) "__getattribute__"==some (some (.builtin "type.__getattribute__"))&&match W.findCls K (.ref CB) (.type "type") "__init__"with|some (.val (.builtin n))=>n=="ValueError.__init__"|_=>false
theorem QsR{K:Fg}{CB:Addr}(h:xbB K CB=true):XB K CB:=by
 unfold xbB at h;simp only[and_eq_true,beq_iff_eq]at h;obtain⟨⟨a,b⟩,c⟩:=h;refine⟨a,b,?_⟩;split at c;·rename_i n q;rw[q,beq_iff_eq.mp c]
 ·cases c
noncomputable def QnS(K:Fg)(C:Addr):Bool:=W.findIn K (.ref C) "__getattribute__"==some (some (.builtin "BaseException.__getattribute__"))&&W.findIn K (.ref C) "__getattr__"==some none&&W.findIn K (.ref C) "block"==some none&&W.findIn K (.ref C) "__class__"==some (some (.builtin "object.__class__"))&&W.specialIn K (.builtin "object.__class__") "__get__"==some (some (.builtin "getset_descriptor.__get__"))&&W.takesIn K (.builtin "object.__class__")==some true&&W.mroIn K C (.type "BaseException")==some true&&W.mroIn K C (.type "object")==some true&&W.hasDictIn K C
theorem Qrv{K:Fg}{C:Addr}(h:QnS K C=true):XRd K C:=by unfold QnS at h;simp only[and_eq_true,beq_iff_eq]at h;obtain⟨⟨⟨⟨⟨⟨⟨⟨a,b⟩,c⟩,d⟩,e⟩,f⟩,g⟩,i⟩,j⟩:=h;exact⟨a,b,c,d,e,f,g,i,j⟩
def xrB(K:Fg):Bool:=W.kitOne K (.type "NoneType") (.type "ValueError")==some false&&(List.range 7).all λc=>QnS K (Jt K c)&&W.kitOne K (.ref (Jt K c)) (.type "ValueError")==some true&&W.kitOne K (.type "NoneType") (.ref (Jt K c))==some false&&(List.range 7).all λc'=>W.kitOne K (.ref (Jt K c)) (.ref (Jt K c'))==some (decide (c=c'))
theorem xr_of{K:Fg}(h:xrB K=true):XR K:=by unfold xrB at h;rw[and_eq_true,all_eq_true]at h;obtain⟨h0,h⟩:=h;have g:∀c,c<=6->_:=λc hc=>h c (List.mem_range.mpr (by omega));simp only[and_eq_true,beq_iff_eq,all_eq_true]at g;exact⟨λc hc=>Qrv (g c hc).1.1.1,λc c' hc fQ=>(g c hc).2 c' (List.mem_range.mpr (by omega)),λc hc=>(g c hc).1.1.2,λc hc=>(g c hc).1.2,beq_iff_eq.mp h0⟩
noncomputable def Qti(K:Fg)(C:Addr):Option Value:=((W.clsIn K C).bind λcd=>W.nsIn K cd.ns "__init__").join
def xtB(K:Fg)(CB:Addr):Bool:=QkT K CB Vr none&&(List.range 7).all λc=>QhL K (Jt K c) CB (Qti K (Jt K c))
theorem xt_of{K:Fg}{mg:Str->Option Value}{CB:Addr}{xB:Str}(hm:mg xB=some (.ref CB))(h:xtB K CB=true):XT K mg xB:=by unfold xtB at h;rw[and_eq_true,all_eq_true]at h;obtain⟨h0,h⟩:=h;obtain⟨nm,q,N,bs,sn,sub,ab,col,dd,k0,k1,k2,k3,k5,hC,_⟩:=Ql1 h0;exact⟨CB,hm,⟨nm,q,N,bs,sn,sub,ab,col,dd,k0,k1,k2,k3,k5,hC⟩,λc hc=>⟨_,QhS (h c (List.mem_range.mpr (by omega)))⟩⟩
theorem XDf.of{K:Fg}{mg:Str->Option Value}{h:Heap}{x qual:Str}{c:Nat}{st:Stmt}{C CB f:Addr}{oc kV dc pm cd ct:Value}{od an:Option Addr}{osl:Array (Option Value)}(X:K.In h)(G:h.Ns mainGlobals mg)(hb:∀us:List Value,us.length=2->bindArgs (W.fnOf "__init__" qual (JE st) (QY st) (Qc st) .none kV dc pm an cd ct) ⟨us,[]⟩=pure ((["self","block"]:List Str).zip us))(e:(QhL K C CB (some (.ref f)),xbB K CB,W.isFn K (.ref f),W.codeIn K cd qual,W.keepIn K (.ref f))=(true,true,true,true,true))(l:K.lookup f=some ⟨oc,od,.func (W.fnOf "__init__" qual (JE st) (QY st) (Qc st) .none kV dc pm an cd ct),osl⟩)(m:(W.nsIn K mainGlobals x,W.nsIn K mainGlobals "BookError",Jt K c)=(some (some (.ref C)),some (some (.ref CB)),C)):∃C CB f fd,XDf K mg x qual c st C CB f fd:=by simp only[Prod.mk.injEq]at e m;obtain⟨e1,e2,e3,e4,e5⟩:=e;obtain⟨m1,m2,m3⟩:=m;exact⟨C,CB,f,_,QhS e1,QsR e2,e3,Binds.all λus hl=>hb us hl,⟨⟨oc,od,kV,dc,pm,an,cd,ct,osl,rfl,l,e4⟩,e5⟩,W.mg_of X G m1,W.mg_of X G m2,m3⟩
theorem MkX0.of{K:Fg}{mg:Str->Option Value}{h:Heap}{x:Str}{C CB:Addr}(X:K.In h)(G:h.Ns mainGlobals mg)(m:(QhL K C CB none,W.nsIn K mainGlobals x,Jt K 0)=(true,some (some (.ref C)),C)):MkX0 K mg x:=by simp only[Prod.mk.injEq]at m;obtain⟨m1,m2,m3⟩:=m;exact⟨C,CB,QhS m1,W.mg_of X G m2,m3⟩
section
variable{X:Cx}{O:List Nat}{x:Str}{pos p:Pos}{e:Expr}{es:List Expr}{l:EvL}{k k':Nat}{ps:List Str}
theorem dv(i:Nat)(hN:X.N[i]?=some x:=by rfl)(hv:Vis X.env.scope x:=by first|exact Or.inl rfl|exact Or.inr (Or.inl rfl)|exact Or.inr (Or.inr rfl))(hd:(x==("__debug__":Str))=false:=by decide)(hc:(x==("__classdict__":Str))=false:=by decide):PE X (.Name x pos) (tR X O (eV i)):=Jk i hN hv hd hc
theorem dq{i:Int}{j}:PE X (.Constant (.int i) j pos) (tR X O (eC (.int i))):=dr QH
theorem dn(i:Nat)(hr:PA X es (tL X O l))(hN:X.N[i]?=some x:=by rfl)(hv:Vis X.env.scope x:=by first|exact Or.inl rfl|exact Or.inr (Or.inl rfl)|exact Or.inr (Or.inr rfl))(hO:i∉O:=by decide)(hd:(x==("__debug__":Str))=false:=by decide)(hc:(x==("__classdict__":Str))=false:=by decide):PA X (.Name x pos::es) (tL X O (lC (eV i) l)):=Qbm (Qs i hN hv hO hd hc) hr
theorem dc{f:List D->Option D}(c:Cal X.prog X.w X.K X.mg X.ae k x ps (spD X.K f))(hr:Room k' X.A)(ha:PA X (e::es) (tL X O l))(hk:k<=k':=by decide)(hg:Gl X x:=by exact rfl)(aL:(x==("__debug__":Str))=false:=by decide)(he:starEach (e::es) X.env=(false,eval e X.env)::starEach es X.env:=by rfl)(bc:(backTo pos (starEach es X.env)).any (·.1)=false:=by rfl):PE X (.Call (.Name x p) (e::es) [] pos) (tD X O (eK f l)):=Qph c (hr.mono hk) hg ha aL he bc
theorem okD{P:Program}{w:World}{K:Fg}{mg:Str->Option Value}{ae:Heap}{st:Stmt}(N ps:List Str)(b:EvS)(k:Nat)(h:Df K mg x st ps)(S:FnScope N ps (Qc st))(hb:N.Nodup->∀{f:Addr}{ao:Value}{A:Around}{ag:List Env}{s:Shared}{H:Hp}{E:XK},Room k (A.deeper (envOfC x (Qc st) s.heap.objs.size f ao))->PSs (ZJ CX0 P w K mg ae N x (Qc st) f ao A ag s H E).nox (QY st) (tS (ZJ CX0 P w K mg ae N x (Qc st) f ao A ag s H E).nox [] [] [] false b)):Cal P w K mg ae (k+1) x ps (spD K (QO N.length ps.length b)):=okC h S λ_ _ _ _ _ _ _ hr=>hb S.nd hr
end
section
variable{X:Cx}{O:List Nat}{x:Str}{pos p:Pos}{a b:Expr}{es:List Expr}{l:EvL}{k:Nat}{ea eb:EvE}
theorem dE(hr:Room k X.A)(ha:PE X a (tR X O ea))(hb:PE X b (tR X O eb)):PT X (.Compare a [.Eq] [b] pos) (tDT X O (eOp D.eqO ea eb)):=Jj (Vu hr.units) ha hb (QS _)
theorem dF(hr:Room k X.A)(ha:PE X a (tR X O ea))(hb:PE X b (tR X O eb)):PT X (.Compare a [.NotEq] [b] pos) (tDT X O (eOp D.neO ea eb)):=Jj (Qme hr.units) ha hb (QS _)
theorem dy{z:Int}{j}{q:Pos}(i:Nat)(hN:X.N[i]?=some x:=by rfl)(hv:Vis X.env.scope x:=by first|exact Or.inl rfl|exact Or.inr (Or.inl rfl)|exact Or.inr (Or.inr rfl))(hd:(x==("__debug__":Str))=false:=by decide)(hc:(x==("__classdict__":Str))=false:=by decide):PE X (.Subscript (.Name x p) (.Constant (.int z) j q) pos) (tD X O (eOp D.ix (eV i) (eC (.int z)))):=QI (dv i hN hv hd hc) dq
theorem dx{z:Int}{j}{q:Pos}(i:Nat)(hN:X.N[i]?=some x:=by rfl)(hv:Vis X.env.scope x:=by first|exact Or.inl rfl|exact Or.inr (Or.inl rfl)|exact Or.inr (Or.inr rfl))(hd:(x==("__debug__":Str))=false:=by decide)(hc:(x==("__classdict__":Str))=false:=by decide):PE X (.Subscript (.Name x p) (.Constant (.int z) j q) pos) (tR X O (eOp D.ix (eV i) (eC (.int z)))):=dr (dy i hN hv hd hc)
end
end Wd
namespace My
section
open PySem Wd
def Qd5:EvS:=Qj (eUn D.len (eUn D.strI (eV 0)))
def Qb4:List D->Option D:=QO 1 1 Qd5
def Qds:EvS:=Qj (Qz (JO D.le D.le (eC (.int 4)) (eOp D.ix (eV 0) (eC (.int 0))) (eC (.int 90))) (JO D.le D.le (eC (.int 2)) (eOp D.ix (eV 0) (eC (.int 1))) (eC (.int 60))))
def V3:List D->Option D:=QO 1 1 Qds
def Qco:EvS:=Qj (eOp D.inO (eOp D.ix (eV 0) (eC (.int 0))) (Qi (lC (eC (.str "chapter")) (lC (eC (.str "heading")) lN))))
def Vy:List D->Option D:=QO 1 1 Qco
def QeX:EvS:=Qj (eOp D.inO (eOp D.ix (eV 0) (eC (.int 0))) (Qi (lC (eC (.str "word")) (lC (eC (.str "ref")) lN))))
def Yl:List D->Option D:=QO 1 1 QeX
def Qdq:EvS:=Qj (eIf (eOp D.eqO (eOp D.ix (eV 0) (eC (.int 0))) (eC (.str "para"))) (eC (.str "")) (eOp D.ix (eV 0) (eUn D.neg (eC (.int 1)))))
def YH:List D->Option D:=QO 1 1 Qdq
def Qdr:EvS:=Qj (eIf (eOp D.eqO (eOp D.ix (eV 0) (eC (.int 0))) (eC (.str "para"))) (eOp D.ix (eV 0) (eC (.int 1))) (Qf lN))
def JQ:List D->Option D:=QO 1 1 Qdr
def Qh5:EvS:=sQ (Qe (Qf lN) (gS 1)) (sQ (QP (QC (eV 0)) (gS 2) (QnW 1 (QF 1 [] (QC (eK JQ (lC (eV 2) lN))) (gS 0) (eOp D.eqO (eOp D.ix (eV 0) (eC (.int 0))) (eC (.str "ref"))) (eOp D.ix (eV 0) (eC (.int 1)))))) (Qj (eV 1)))
def Qbv:List D->Option D:=QO 3 1 Qh5
def Qcm:EvS:=sQ (sIf (eOp D.eqO (eOp D.ix (eV 0) (eC (.int 0))) (eC (.str "plates"))) (Qj (eOp D.add (eC (.int 2)) (eOp D.ix (eV 0) (eC (.int 1))))) sNx) (sQ (sIf (Qz (eK Vy (lC (eV 0) lN)) (eOp D.ix (eV 1) (eC (.int 3)))) (Qj (eC (.int 4))) sNx) (Qj (eOp D.add (eC (.int 2)) (eOp D.mulA (eC (.int 2)) (eUn D.len (QF 1 [] (QC (eK JQ (lC (eV 0) lN))) (gS 0) (eK Yl (lC (eV 0) lN)) (eV 0)))))))
def YO:List D->Option D:=QO 2 2 Qcm
def Qad:EvS:=Qj (eOp D.add (eC (.int 3)) (eUn D.sumL (QF 1 [1] (QC (eV 0)) (gS 0) (eC (.bl true)) (eK YO (lC (eV 0) (lC (eV 1) lN))))))
def ZC:List D->Option D:=QO 2 2 Qad
def QaD:EvS:=Qj (eK Qb4 (lC (eK ZC (lC (eV 0) (lC (eV 1) lN))) lN))
def Zm:List D->Option D:=QO 2 2 QaD
def V8:EvS:=Qj (eUn D.anyL (QF 1 [1] (QC (eV 0)) (gS 0) (eC (.bl true)) (eOp D.gt (eUn D.len (eV 0)) (eV 1))))
def Zy:List D->Option D:=QO 2 2 V8
def Y3:EvS:=sQ (sIf (eK Vy (lC (eV 0) lN)) (sQ (Qe (eIf (eOp D.ix (eV 1) (eC (.int 3))) (eOp D.add (eC (.int 2)) (eV 2)) (eC (.int 0))) (gS 3)) (Qj (eOp D.gt (eOp D.add (eUn D.len (eOp D.ix (eV 0) (eC (.int 1)))) (eV 3)) (eOp D.ix (eV 1) (eC (.int 0)))))) sNx) (Qj (Qz (eOp D.eqO (eOp D.ix (eV 0) (eC (.int 0))) (eC (.str "table"))) (eK Zy (lC (eOp D.ix (eV 0) (eC (.int 1))) (lC (eOp D.ix (eV 1) (eC (.int 0))) lN)))))
def J2:List D->Option D:=QO 4 3 Y3
def Vq:EvS:=sQ (sIf (eOp D.eqO (eOp D.ix (eV 0) (eC (.int 0))) (eC (.str "word"))) (Qj (eK Zy (lC (eOp D.add (Qf (lC (eOp D.ix (eV 0) (eC (.int 1))) lN)) (eOp D.ix (eV 0) (eC (.int 2)))) (lC (eOp D.ix (eV 1) (eC (.int 0))) lN)))) sNx) (Qj (Qz (eOp D.eqO (eOp D.ix (eV 0) (eC (.int 0))) (eC (.str "ref"))) (eOp D.gt (eOp D.add (eOp D.add (eUn D.len (eOp D.ix (eV 0) (eC (.int 2)))) (eV 2)) (eUn D.len (eOp D.ix (eV 0) (eC (.int 3))))) (eOp D.ix (eV 1) (eC (.int 0))))))
def Zo:List D->Option D:=QO 3 3 Vq
def Qag:EvS:=sQ (sIf (eOp D.eqO (eOp D.ix (eV 0) (eC (.int 0))) (eC (.str "heading"))) (Qj (eOp D.gt (eOp D.add (eOp D.ix (eV 0) (eC (.int 2))) (eC (.int 1))) (eOp D.ix (eV 1) (eC (.int 1))))) sNx) (Qj (Qz (eOp D.eqO (eOp D.ix (eV 0) (eC (.int 0))) (eC (.str "table"))) (eOp D.gt (eUn D.len (eOp D.ix (eV 0) (eC (.int 1)))) (eOp D.ix (eV 1) (eC (.int 1))))))
def Y2:List D->Option D:=QO 2 2 Qag
def QaG:EvS:=Qj (Qz (eOp D.eqO (eOp D.ix (eV 0) (eC (.int 0))) (eC (.str "word"))) (eOp D.gt (eOp D.add (eUn D.len (eOp D.ix (eV 0) (eC (.int 2)))) (eC (.int 1))) (eOp D.ix (eV 1) (eC (.int 1)))))
def Yz:List D->Option D:=QO 2 2 QaG
def Qcp:EvS:=sQ (sIf (eOp D.dIn (eV 0) (eV 2)) (Z9 3 (eV 1)) sNx) (Qpu 2 (eV 0) (eC (.bl true)))
def YQ:List D->Option Rs:=YY 3 3 Qcp
def Qaf:EvS:=sQ (sIf (eK J2 (lC (eV 0) (lC (eV 2) (lC (eV 3) lN)))) (Z9 1 (eV 1)) sNx) (sQ (sIf (eK Y2 (lC (eV 0) (lC (eV 2) lN))) (Z9 2 (eV 1)) sNx) (sIf (eOp D.neO (eK YH (lC (eV 0) lN)) (eC (.str ""))) (Zz 4 YQ (lC (eK YH (lC (eV 0) lN)) (lC (eV 1) lN))) sNx))
def ZD:List D->Option Rs:=YY 5 5 Qaf
def QaF:EvS:=sQ (sIf (eK Zo (lC (eV 0) (lC (eV 2) (lC (eV 3) lN)))) (Z9 1 (eV 1)) sNx) (sQ (sIf (eK Yz (lC (eV 0) (lC (eV 2) lN))) (Z9 2 (eV 1)) sNx) (sIf (eOp D.eqO (eOp D.ix (eV 0) (eC (.int 0))) (eC (.str "mark"))) (Zz 4 YQ (lC (eOp D.ix (eV 0) (eC (.int 1))) (lC (eV 1) lN))) sNx))
def ZU:List D->Option Rs:=YY 5 5 QaF
def Qae:EvS:=sQ (Qe (eUn D.len (QF 1 [] (QC (eV 0)) (gS 0) (eK Yl (lC (eV 0) lN)) (eV 0))) (gS 5)) (QP (QC (eV 0)) (gS 6) (sQ (Zz 4 ZU (lC (eV 6) (lC (eV 1) (lC (eV 2) (lC (eV 3) lN))))) (sIf (eK Yl (lC (eV 6) lN)) (Vt 5 D.sub (eC (.int 1))) (sIf (eOp D.eqO (eV 5) (eC (.int 0))) (Z9 4 (eV 1)) sNx))))
def Ye:List D->Option Rs:=YY 7 5 Qae
def QaE:EvS:=QP (VD (eV 0)) (Q4 [gS 2,gS 3]) (QP (QC (eK Qbv (lC (Qf (lC (eV 3) lN)) lN))) (gS 4) (sIf (eOp D.dNotIn (eV 4) (eV 1)) (Z9 5 (eV 2)) sNx))
def Zn:List D->Option Rs:=VP 5 2 QaE
def Qh6:EvS:=sQ (sIf (Jg (eK V3 (lC (eV 1) lN))) Qgl sNx) (sQ (Qe (eK Zm (lC (eV 0) (lC (eV 1) lN))) (gS 2)) (sQ (Qe (eC (.dic [] [])) (gS 3)) (sQ (QP (VD (eV 0)) (Q4 [gS 4,gS 5]) (sQ (Zz 3 ZD (lC (eV 5) (lC (eV 4) (lC (eV 1) (lC (eV 2) lN))))) (Zz 3 Ye (lC (eK JQ (lC (eV 5) lN)) (lC (eV 4) (lC (eV 1) (lC (eV 2) lN))))))) (Zq Zn (lC (eV 0) (lC (eV 3) lN))))))
def Y7:List D->Option Rs:=VP 6 2 Qh6
def QbQ:EvS:=sQ (Zq Y7 (lC (eV 0) (lC (eV 1) lN))) (Qj (eK ZC (lC (eV 0) (lC (eV 1) lN))))
def Zx:List D->Option Rs:=VP 2 2 QbQ
def Qcn:EvS:=sQ (Zq Y7 (lC (eV 0) (lC (eV 1) lN))) (Qj (eK Zm (lC (eV 0) (lC (eV 1) lN))))
def ZL:List D->Option Rs:=VP 2 2 Qcn
def Qdw:EvS:=sQ (sIf (eOp D.lt (eV 1) (eUn D.len (eV 0))) (Qj (eOp D.ix (eV 0) (eV 1))) sNx) (Qj (eC (.int 0)))
def QJ:List D->Option D:=QO 2 2 Qdw
def Qh7:EvS:=sQ (Qe (eOp D.mod (eOp D.mulA (eOp D.add (eOp D.add (eOp D.mod (eV 0) (eC (.int 2147483647))) (eOp D.mulA (eOp D.mulA (eV 1) (eV 1)) (eC (.int 7919)))) (eC (.int 104729))) (eC (.int 48271))) (eC (.int 2147483647))) (gS 2)) (Qj (eOp D.mod (eOp D.add (eOp D.mulA (eV 2) (eV 2)) (eOp D.mulA (eC (.int 69621)) (eV 1))) (eC (.int 2147483629))))
def Zr:List D->Option D:=QO 3 2 Qh7
def QiT:EvS:=sQ (Qe (eC (.str "abcdefghijkl")) (gS 1)) (Qj (eOp D.add (eOp D.add (eOp D.add (Jh (eC (.str "xxx")) oNo (oAt (eOp D.mod (eOp D.mulA (eV 0) (eC (.int 7))) (eC (.int 4))))) (eOp D.ix (eV 1) (eOp D.mod (eOp D.fdiv (eV 0) (eC (.int 12))) (eC (.int 12))))) (eOp D.ix (eV 1) (eOp D.mod (eV 0) (eC (.int 12))))) (Jh (eC (.str "yy")) oNo (oAt (eOp D.mod (eOp D.mulA (eV 0) (eC (.int 5))) (eC (.int 3)))))))
def Qau:List D->Option D:=QO 2 1 QiT
def Qd6:EvS:=sQ (Qe (eC (.int 10)) (gS 2)) (sQ (QP (JB (eOp D.mod (eOp D.fdiv (eV 1) (eC (.int 97))) (eC (.int 4)))) (gS 3) (Qe (eOp D.mulA (eV 2) (eC (.int 10))) (gS 2))) (sQ (sIf (eOp D.eqO (eOp D.mod (eOp D.fdiv (eV 1) (eC (.int 97))) (eC (.int 8))) (eC (.int 7))) (Qe (eOp D.pow (eC (.int 10)) (eC (.int 30))) (gS 2)) sNx) (Qj (eOp D.ix (Qf (lC (eOp D.add (eC (.int 1)) (eOp D.mod (eOp D.fdiv (eV 1) (eC (.int 16))) (eC (.int 3)))) (lC (eOp D.sub (eOp D.sub (eV 2) (eC (.int 1))) (eOp D.mod (eOp D.fdiv (eV 1) (eC (.int 16))) (eC (.int 5)))) (lC (eOp D.add (eC (.int 1)) (eOp D.mod (eV 0) (eOp D.pow (eC (.int 10)) (eC (.int 39))))) lN)))) (eOp D.mod (eOp D.fdiv (eV 1) (eC (.int 997))) (eC (.int 3)))))))
def Qb5:List D->Option D:=QO 4 2 Qd6
def QeY:EvS:=sQ (Qe (eC (.str "!\"#$&'()*+,-./0123456789:;<=>?@ABCDEFGHIJKLMNOPQRSTUVWXYZ[\\]^_`")) (gS 3)) (sQ (Qe (eOp D.add (eV 3) (eC (.str "abcdefghijklmnopqrstuvwxyz{}~|"))) (gS 3)) (sQ (Qe (eC (.str "")) (gS 4)) (sQ (QP (JB (eV 1)) (gS 5) (sQ (Qe (eOp D.add (eOp D.add (eOp D.fdiv (eV 0) (eC (.int 7))) (eOp D.mulA (eV 5) (eOp D.add (eC (.int 1)) (eOp D.mod (eV 0) (eC (.int 13)))))) (eOp D.mulA (eV 5) (eV 5))) (gS 6)) (sQ (Qe (eOp D.ix (eV 3) (eOp D.mod (eV 6) (eOp D.add (eOp D.sub (eUn D.len (eV 3)) (eC (.int 1))) (eV 2)))) (gS 7)) (sQ (sIf (Qz (eOp D.eqO (eV 2) (eC (.int 1))) (eOp D.eqO (eOp D.mod (eOp D.add (eOp D.fdiv (eV 0) (eC (.int 3))) (eV 5)) (eC (.int 4))) (eC (.int 0)))) (Qe (eC (.str " ")) (gS 7)) sNx) (Qe (eOp D.add (eV 4) (eV 7)) (gS 4)))))) (Qj (eV 4)))))
def YC:List D->Option D:=QO 8 3 QeY
def QgA:EvS:=sQ (Qe (eK Zr (lC (eV 0) (lC (eOp D.add (eV 1) (eC (.int 20))) lN))) (gS 2)) (sQ (Qe (eOp D.mod (eV 2) (eC (.int 17))) (gS 3)) (sQ (Qe (eOp D.add (eC (.int 1)) (eOp D.mod (eOp D.fdiv (eV 2) (eC (.int 17))) (eOp D.ix (Qf (lC (eC (.int 11)) (lC (eC (.int 40)) lN))) (eUn D.intB (eOp D.eqO (eOp D.mod (eOp D.fdiv (eV 2) (eC (.int 187))) (eC (.int 9))) (eC (.int 4))))))) (gS 4)) (sQ (Qe (eOp D.add (eC (.int 1)) (eOp D.mod (eOp D.fdiv (eV 2) (eC (.int 97))) (eOp D.ix (Qf (lC (eC (.int 4)) (lC (eC (.int 30)) lN))) (eUn D.intB (eOp D.eqO (eOp D.mod (eOp D.fdiv (eV 2) (eC (.int 1009))) (eC (.int 11))) (eC (.int 5))))))) (gS 5)) (sQ (Qe (eK YC (lC (eOp D.fdiv (eV 2) (eC (.int 17))) (lC (eV 4) (lC (eC (.int 1)) lN)))) (gS 6)) (sQ (Qe (eK YC (lC (eOp D.fdiv (eV 2) (eC (.int 19))) (lC (eV 4) (lC (eC (.int 0)) lN)))) (gS 7)) (sQ (Qe (eK Qau (lC (eV 1) lN)) (gS 8)) (sQ (Qe (eV 8) (gS 9)) (sQ (sIf (eOp D.eqO (eOp D.mod (eOp D.fdiv (eV 2) (eC (.int 1009))) (eC (.int 2))) (eC (.int 0))) (Qe (eC (.str "")) (gS 9)) sNx) (sQ (sIf (eOp D.eqO (eV 3) (eC (.int 0))) (Qj (Qi (lC (eC (.str "chapter")) (lC (eOp D.add (eOp D.ix (eV 7) (eC (.int 0))) (eUn D.strip (eV 6))) (lC (eV 9) lN))))) sNx) (sQ (sIf (eOp D.eqO (eV 3) (eC (.int 1))) (Qj (Qi (lC (eC (.str "heading")) (lC (eOp D.add (eOp D.ix (eV 7) (eC (.int 0))) (eUn D.strip (eV 6))) (lC (eOp D.sub (eV 5) (eC (.int 1))) (lC (eV 9) lN)))))) sNx) (sQ (sIf (eOp D.eqO (eV 3) (eC (.int 2))) (Qj (Qi (lC (eC (.str "table")) (lC (QF 1 [6,4] (JB (eV 5)) (gS 0) (eC (.bl true)) (Jh (eV 1) oNo (oAt (eOp D.max2 (eC (.int 0)) (eOp D.sub (eV 2) (eV 0)))))) (lC (eV 9) lN))))) sNx) (sQ (sIf (eOp D.eqO (eV 3) (eC (.int 3))) (Qj (Qi (lC (eC (.str "plates")) (lC (eK Qb5 (lC (eV 0) (lC (eV 2) lN))) (lC (eV 9) lN))))) sNx) (sQ (sIf (eOp D.eqO (eV 3) (eC (.int 4))) (Qj (Qi (lC (eC (.str "break")) (lC (eC (.str "")) (lC (eC (.str "")) lN))))) sNx) (sQ (sIf (eOp D.lt (eV 3) (eC (.int 7))) (Qj (Qi (lC (eC (.str "mark")) (lC (eV 8) lN)))) sNx) (sQ (sIf (eOp D.eqO (eV 3) (eC (.int 7))) (Qj (Qi (lC (eC (.str "key")) (lC (Jh (eOp D.mulA (eV 7) (eC (.int 9))) oNo (oAt (eOp D.add (eC (.int 1)) (eOp D.mod (eOp D.fdiv (eV 2) (eC (.int 97))) (eC (.int 80)))))) lN)))) sNx) (sQ (sIf (eOp D.lt (eV 3) (eC (.int 12))) (Qj (Qi (lC (eC (.str "ref")) (lC (eC (.str "")) (lC (Jh (eV 7) oNo (oAt (eOp D.mod (eOp D.fdiv (eV 2) (eC (.int 97))) (eC (.int 3))))) (lC (eK YC (lC (eOp D.fdiv (eV 2) (eC (.int 23))) (lC (eOp D.mod (eOp D.fdiv (eV 2) (eC (.int 291))) (eC (.int 3))) (lC (eC (.int 0)) lN)))) lN)))))) sNx) (sQ (sIf (eOp D.eqO (eV 3) (eC (.int 12))) (Qj (Qi (lC (eC (.str "word")) (lC (eV 7) (lC (QF 1 [6] (JB (eV 5)) (gS 0) (eC (.bl true)) (Jh (eV 1) (oAt (eV 0)) oNo)) lN))))) sNx) (Qj (Qi (lC (eC (.str "word")) (lC (eV 7) (lC (Qf lN) lN))))))))))))))))))))))
def VM:List D->Option D:=QO 10 2 QgA
def Qdu:EvS:=sQ (Qe (Qf lN) (gS 2)) (sQ (QP (QC (eV 0)) (gS 3) (sIf (eOp D.eqO (eOp D.ix (eV 3) (eC (.int 0))) (eC (.str "mark"))) (sP 2 (eOp D.ix (eV 3) (eC (.int 1)))) (sIf (Qz (eOp D.notInO (eOp D.ix (eV 3) (eC (.int 0))) (Qf (lC (eC (.str "break")) (lC (eC (.str "word")) (lC (eC (.str "key")) (lC (eC (.str "ref")) lN)))))) (eOp D.neO (eOp D.ix (eV 3) (eUn D.neg (eC (.int 1)))) (eC (.str "")))) (sP 2 (eOp D.ix (eV 3) (eUn D.neg (eC (.int 1))))) sNx))) (sQ (Qe (Qf lN) (gS 4)) (sQ (QP (VD (eV 0)) (Q4 [gS 5,gS 3]) (sIf (Qz (eOp D.eqO (eOp D.ix (eV 3) (eC (.int 0))) (eC (.str "ref"))) (eOp D.eqO (eV 2) (Qf lN))) (sP 4 (Qi (lC (eC (.str "word")) (lC (eC (.str "lost")) (lC (Qf lN) lN))))) (sIf (eOp D.eqO (eOp D.ix (eV 3) (eC (.int 0))) (eC (.str "ref"))) (sQ (Qe (eOp D.ix (eV 2) (eOp D.mod (eK Zr (lC (eOp D.ix (eV 1) (eV 5)) (lC (eOp D.add (eV 5) (eC (.int 90))) lN))) (eUn D.len (eV 2)))) (gS 6)) (sP 4 (Qi (lC (eC (.str "ref")) (lC (eV 6) (lC (eOp D.ix (eV 3) (eC (.int 2))) (lC (eOp D.ix (eV 3) (eC (.int 3))) lN))))))) (sP 4 (eV 3))))) (Qj (eV 4)))))
def Qbe:List D->Option D:=QO 7 2 Qdu
def Qdv:EvS:=sQ (Qe (Qf lN) (gS 1)) (sQ (Qe (Qf lN) (gS 2)) (sQ (QP (QC (eOp D.add (eV 0) (Qf (lC (Qi (lC (eC (.str "end")) (lC (eC (.str "")) (lC (eC (.str "")) lN)))) lN)))) (gS 3) (sQ (sIf (eOp D.inO (eOp D.ix (eV 3) (eC (.int 0))) (Qf (lC (eC (.str "mark")) (lC (eC (.str "key")) (lC (eC (.str "ref")) (lC (eC (.str "word")) lN)))))) (sQ (sP 2 (eV 3)) Vs) sNx) (sQ (sIf (Qz (eOp D.neO (eV 2) (Qf lN)) (eOp D.inO (eOp D.ix (eOp D.ix (eV 2) (eUn D.neg (eC (.int 1)))) (eC (.int 0))) (Qf (lC (eC (.str "mark")) (lC (eC (.str "key")) lN))))) (sP 2 (Qi (lC (eC (.str "word")) (lC (eC (.str "end")) (lC (Qf lN) lN))))) sNx) (sQ (sIf (eOr (eOp D.neO (eV 2) (Qf lN)) (eOp D.eqO (eOp D.ix (eV 3) (eC (.int 0))) (eC (.str "break")))) (sP 1 (Qi (lC (eC (.str "para")) (lC (eV 2) lN)))) sNx) (sQ (Qe (Qf lN) (gS 2)) (sIf (eOp D.notInO (eOp D.ix (eV 3) (eC (.int 0))) (Qf (lC (eC (.str "break")) (lC (eC (.str "end")) lN)))) (sP 1 (eV 3)) sNx)))))) (Qj (eV 1))))
def YI:List D->Option D:=QO 4 1 Qdv
def Qgx:EvS:=sQ (sIf (eOr (eOp D.ix (eV 1) (eC (.int 3))) (eOp D.neO (eOp D.mod (eK QJ (lC (eV 0) (lC (eC (.int 4)) lN))) (eC (.int 3))) (eC (.int 1)))) (Qj (Qf lN)) sNx) (sQ (Qe (eOp D.add (eC (.int 1)) (eOp D.mod (eK Zr (lC (eK QJ (lC (eV 0) (lC (eC (.int 4)) lN))) (lC (eC (.int 19)) lN))) (eC (.int 6)))) (gS 2)) (sQ (Qe (eC (.int 1)) (gS 3)) (sQ (QP (JB (eV 2)) (gS 4) (Qe (eOp D.mulA (eV 3) (eC (.int 10))) (gS 3))) (sQ (Qe (Qf (lC (Qi (lC (eC (.str "word")) (lC (eOp D.mulA (eC (.str "w")) (eOp D.max2 (eC (.int 1)) (eOp D.sub (eOp D.sub (eOp D.ix (eV 1) (eC (.int 0))) (eC (.int 1))) (eV 2)))) (lC (Qf lN) lN)))) (lC (Qi (lC (eC (.str "mark")) (lC (eC (.str "z")) lN))) (lC (Qi (lC (eC (.str "ref")) (lC (eC (.str "z")) (lC (eC (.str "")) (lC (eC (.str "")) lN))))) lN)))) (gS 5)) (Qj (Qf (lC (Qi (lC (eC (.str "plates")) (lC (eOp D.sub (eV 3) (eC (.int 2))) (lC (eC (.str "")) lN)))) (lC (Qi (lC (eC (.str "table")) (lC (QF 1 [] (JB (eOp D.sub (eOp D.ix (eV 1) (eC (.int 1))) (eC (.int 1)))) (gS 0) (eC (.bl true)) (eC (.str ""))) (lC (eC (.str "")) lN)))) (lC (Qi (lC (eC (.str "para")) (lC (eV 5) lN))) lN)))))))))
def QcO:List D->Option D:=QO 6 2 Qgx
def QeZ:EvS:=sQ (Qe (eC (.int 4)) (gS 2)) (sQ (Qe (eC (.int 2)) (gS 3)) (sQ (QP (QC (eV 0)) (gS 4) (sQ (sIf (eOr (eOp D.eqO (eOp D.ix (eV 4) (eC (.int 0))) (eC (.str "chapter"))) (eOp D.eqO (eOp D.ix (eV 4) (eC (.int 0))) (eC (.str "heading")))) (Qe (eOp D.max2 (eV 2) (eOp D.add (eOp D.add (eUn D.len (eOp D.ix (eV 4) (eC (.int 1)))) (eC (.int 2))) (eV 1))) (gS 2)) sNx) (sQ (sIf (eOp D.eqO (eOp D.ix (eV 4) (eC (.int 0))) (eC (.str "heading"))) (Qe (eOp D.max2 (eV 3) (eOp D.add (eOp D.ix (eV 4) (eC (.int 2))) (eC (.int 1)))) (gS 3)) sNx) (sQ (sIf (eOp D.eqO (eOp D.ix (eV 4) (eC (.int 0))) (eC (.str "table"))) (sQ (Qe (eOp D.max2 (eV 3) (eUn D.len (eOp D.ix (eV 4) (eC (.int 1))))) (gS 3)) (Qe (eUn D.maxL (eOp D.add (Qf (lC (eV 2) lN)) (QF 1 [] (QC (eOp D.ix (eV 4) (eC (.int 1)))) (gS 0) (eC (.bl true)) (eUn D.len (eV 0))))) (gS 2))) sNx) (sIf (eOp D.eqO (eOp D.ix (eV 4) (eC (.int 0))) (eC (.str "para"))) (sQ (Qe (eUn D.maxL (eOp D.add (Qf (lC (eV 2) lN)) (QF 1 [1] (QC (eOp D.ix (eV 4) (eC (.int 1)))) (gS 0) (eOp D.eqO (eOp D.ix (eV 0) (eC (.int 0))) (eC (.str "ref"))) (eOp D.add (eOp D.add (eUn D.len (eOp D.ix (eV 0) (eC (.int 2)))) (eV 1)) (eUn D.len (eOp D.ix (eV 0) (eC (.int 3)))))))) (gS 2)) (sQ (Qe (eUn D.maxL (eOp D.add (Qf (lC (eV 2) lN)) (QF 1 [] (QC (eOp D.ix (eV 4) (eC (.int 1)))) (gS 0) (eOp D.eqO (eOp D.ix (eV 0) (eC (.int 0))) (eC (.str "word"))) (eUn D.len (eOp D.ix (eV 0) (eC (.int 1))))))) (gS 2)) (sQ (Qe (QF 1 [] (QC (eOp D.ix (eV 4) (eC (.int 1)))) (gS 0) (eOp D.eqO (eOp D.ix (eV 0) (eC (.int 0))) (eC (.str "word"))) (eOp D.ix (eV 0) (eC (.int 2)))) (gS 5)) (sQ (Qe (eUn D.maxL (eOp D.add (Qf (lC (eV 3) lN)) (QF 1 [] (QC (eV 5)) (gS 0) (eC (.bl true)) (eOp D.add (eC (.int 1)) (eUn D.len (eV 0)))))) (gS 3)) (QP (QC (eV 5)) (gS 6) (Qe (eUn D.maxL (eOp D.add (Qf (lC (eV 2) lN)) (QF 1 [] (QC (eV 6)) (gS 0) (eC (.bl true)) (eUn D.len (eV 0))))) (gS 2))))))) sNx))))) (Qj (Qi (lC (eV 2) (lC (eV 3) lN))))))
def QbM:List D->Option D:=QO 7 2 QeZ
def Qgu:EvS:=sQ (Qe (eC (.int 3)) (gS 2)) (sQ (QP (QC (eV 0)) (gS 3) (sQ (Qe (eOp D.add (eV 2) (eC (.int 2))) (gS 2)) (sQ (sIf (Qz (eV 1) (eOr (eOp D.eqO (eOp D.ix (eV 3) (eC (.int 0))) (eC (.str "chapter"))) (eOp D.eqO (eOp D.ix (eV 3) (eC (.int 0))) (eC (.str "heading"))))) (Qe (eOp D.add (eV 2) (eC (.int 2))) (gS 2)) sNx) (sQ (sIf (eOp D.eqO (eOp D.ix (eV 3) (eC (.int 0))) (eC (.str "plates"))) (Qe (eOp D.add (eV 2) (eOp D.ix (eV 3) (eC (.int 1)))) (gS 2)) sNx) (sIf (eOp D.eqO (eOp D.ix (eV 3) (eC (.int 0))) (eC (.str "para"))) (Qe (eOp D.add (eV 2) (eOp D.mulA (eC (.int 2)) (eUn D.len (QF 1 [] (QC (eOp D.ix (eV 3) (eC (.int 1)))) (gS 0) (eOr (eOp D.eqO (eOp D.ix (eV 0) (eC (.int 0))) (eC (.str "word"))) (eOp D.eqO (eOp D.ix (eV 0) (eC (.int 0))) (eC (.str "ref")))) (eV 0))))) (gS 2)) sNx))))) (Qj (eV 2)))
def VL:List D->Option D:=QO 4 2 Qgu
def Qe0:EvS:=sQ (Qe (eOp D.add (Jh (eV 0) oNo (oAt (eC (.int 63)))) (Qf (lC (eC (.int 7)) lN))) (gS 1)) (sQ (Qe (QF 1 [1] (JB (eOp D.mod (eK Zr (lC (eK QJ (lC (eV 0) (lC (eC (.int 5)) lN))) (lC (eC (.int 29)) lN))) (eC (.int 58)))) (gS 0) (eC (.bl true)) (eOp D.ix (eV 1) (eOp D.mod (eV 0) (eUn D.len (eV 1))))) (gS 2)) (sQ (Qe (eK YI (lC (eK Qbe (lC (QF 2 [] (VD (eV 2)) (Q4 [gS 0,gS 1]) (eC (.bl true)) (eK VM (lC (eV 1) (lC (eV 0) lN)))) (lC (eV 2) lN))) lN)) (gS 3)) (sQ (Qe (eOp D.eqO (eOp D.mod (eK QJ (lC (eV 0) (lC (eC (.int 3)) lN))) (eC (.int 2))) (eC (.int 1))) (gS 4)) (sQ (Qe (eK QcO (lC (eV 0) (lC (Qi (lC (eC (.int 4)) (lC (eC (.int 2)) (lC (eC (.bl false)) (lC (eV 4) lN))))) lN))) (gS 5)) (sQ (Qe (eUn D.len (eUn D.strI (eK VL (lC (eOp D.add (eV 5) (eV 3)) (lC (eV 4) lN))))) (gS 6)) (sQ (Qe (eK QbM (lC (eOp D.add (eV 3) (eV 5)) (lC (eV 6) lN))) (Q4 [gS 7,gS 8])) (sQ (Qe (eOp D.max2 (eV 7) (eOp D.mulA (eOp D.add (eV 6) (eC (.int 2))) (eUn D.intB (eOp D.neO (eV 5) (Qf lN))))) (gS 7)) (sQ (Qe (eOp D.max2 (eV 7) (eOp D.add (eC (.int 4)) (eOp D.mod (eK Zr (lC (eK QJ (lC (eV 0) (lC (eC (.int 0)) lN))) (lC (eC (.int 1)) lN))) (eC (.int 30))))) (gS 9)) (sQ (Qe (eOp D.max2 (eV 8) (eOp D.add (eC (.int 2)) (eOp D.mod (eK Zr (lC (eK QJ (lC (eV 0) (lC (eC (.int 1)) lN))) (lC (eC (.int 2)) lN))) (eC (.int 5))))) (gS 10)) (sQ (sIf (eOp D.eqO (eOp D.mod (eK QJ (lC (eV 0) (lC (eC (.int 1)) lN))) (eC (.int 5))) (eC (.int 1))) (Qe (eOp D.max2 (eV 8) (eOp D.add (eC (.int 2)) (eOp D.mod (eK Zr (lC (eK QJ (lC (eV 0) (lC (eC (.int 1)) lN))) (lC (eC (.int 4)) lN))) (eC (.int 59))))) (gS 10)) sNx) (sQ (Qe (Qi (lC (eV 9) (lC (eV 10) (lC (eOp D.eqO (eOp D.mod (eK QJ (lC (eV 0) (lC (eC (.int 2)) lN))) (eC (.int 2))) (eC (.int 1))) (lC (eV 4) lN))))) (gS 11)) (Qj (Qi (lC (eOp D.add (eK QcO (lC (eV 0) (lC (eV 11) lN))) (eV 3)) (lC (eV 11) (lC (eV 6) lN))))))))))))))))
def Qav:List D->Option D:=QO 12 1 Qe0
def Qgy:EvS:=sQ (Qe (Qf lN) (gS 1)) (sQ (QP (QC (eV 0)) (gS 2) (sIf (eOp D.eqO (eOp D.ix (eV 2) (eC (.int 0))) (eC (.str "para"))) (sQ (Qe (Qf lN) (gS 3)) (sQ (QP (QC (eOp D.ix (eV 2) (eC (.int 1)))) (gS 4) (sIf (eOp D.eqO (eOp D.ix (eV 4) (eC (.int 0))) (eC (.str "word"))) (sP 3 (Qi (lC (eC (.str "word")) (lC (eOp D.ix (eV 4) (eC (.int 1))) (lC (eUn D.listOf (eOp D.ix (eV 4) (eC (.int 2)))) lN))))) (sP 3 (eV 4)))) (sP 1 (Qi (lC (eC (.str "para")) (lC (eV 3) lN)))))) (sIf (eOp D.eqO (eOp D.ix (eV 2) (eC (.int 0))) (eC (.str "table"))) (sP 1 (Qi (lC (eC (.str "table")) (lC (eUn D.listOf (eOp D.ix (eV 2) (eC (.int 1)))) (lC (eOp D.ix (eV 2) (eC (.int 2))) lN))))) (sP 1 (eV 2))))) (Qj (eV 1)))
def Qer:List D->Option D:=QO 5 1 Qgy
def Qgw:EvS:=Qj (eOp D.mulA (eC (.str "m")) (eOp D.max2 (eC (.int 0)) (eOp D.min2 (eV 0) (eC (.int 90)))))
def ZA:List D->Option D:=QO 1 1 Qgw
def QiS:EvS:=sQ (QP (QC (eV 0)) (gS 1) (sQ (sIf (Qz (eOp D.neO (eOp D.ix (eV 1) (eC (.int 0))) (eC (.str "para"))) (eOp D.neO (eOp D.ix (eV 1) (eUn D.neg (eC (.int 1)))) (eC (.str "")))) (Qj (eOp D.ix (eV 1) (eUn D.neg (eC (.int 1))))) sNx) (sIf (eOp D.eqO (eOp D.ix (eV 1) (eC (.int 0))) (eC (.str "para"))) (QP (QC (eOp D.ix (eV 1) (eC (.int 1)))) (gS 2) (sIf (eOp D.eqO (eOp D.ix (eV 2) (eC (.int 0))) (eC (.str "mark"))) (Qj (eOp D.ix (eV 2) (eC (.int 1)))) sNx)) sNx))) (Qj (eC (.str "zz")))
def QbL:List D->Option D:=QO 3 1 QiS
def Qgv:EvS:=sQ (Qe (eV 0) (Q4 [gS 5,gS 6,gS 7,gS 8])) (sQ (Qe (eOp D.mod (eV 3) (eC (.int 2))) (gS 9)) (sQ (Qe (eOp D.ix (Qf (lC (eC (.str "")) (lC (eV 4) lN))) (eOp D.mod (eOp D.fdiv (eV 3) (eC (.int 4))) (eC (.int 2)))) (gS 10)) (sQ (sIf (eOp D.eqO (eV 2) (eC (.int 0))) (sQ (Qe (eK ZA (lC (eOp D.max2 (eC (.int 1)) (eOp D.add (eOp D.sub (eV 5) (eOp D.mulA (eUn D.intB (eV 8)) (eOp D.add (eC (.int 2)) (eV 1)))) (eV 9))) lN)) (gS 11)) (Qj (eOp D.ix (Qf (lC (Qi (lC (eC (.str "chapter")) (lC (eV 11) (lC (eV 10) lN)))) (lC (Qi (lC (eC (.str "heading")) (lC (eV 11) (lC (eC (.int 0)) (lC (eV 10) lN))))) lN))) (eOp D.mod (eOp D.fdiv (eV 3) (eC (.int 2))) (eC (.int 2)))))) sNx) (sQ (sIf (eOp D.eqO (eV 2) (eC (.int 1))) (Qj (Qi (lC (eC (.str "heading")) (lC (eC (.str "t")) (lC (eOp D.add (eOp D.sub (eV 6) (eC (.int 1))) (eV 9)) (lC (eV 10) lN)))))) sNx) (sQ (sIf (eOp D.eqO (eV 2) (eC (.int 2))) (Qj (Qi (lC (eC (.str "table")) (lC (eOp D.add (eOp D.mulA (Qf (lC (eC (.str "")) lN)) (eOp D.add (eOp D.sub (eV 6) (eC (.int 1))) (eV 9))) (Qf (lC (eK ZA (lC (eOp D.mod (eOp D.fdiv (eV 3) (eC (.int 2))) (eC (.int 3))) lN)) lN))) (lC (eV 10) lN))))) sNx) (sQ (sIf (eOp D.eqO (eV 2) (eC (.int 3))) (sQ (Qe (eOp D.ix (Qf (lC (Qf lN) (lC (Qf (lC (eC (.str "n")) (lC (eK ZA (lC (eOp D.add (eV 5) (eV 9)) lN)) lN))) lN))) (eOp D.mod (eOp D.fdiv (eV 3) (eC (.int 2))) (eC (.int 2)))) (gS 12)) (sQ (Qe (eOp D.ix (Qf (lC (eK ZA (lC (eOp D.add (eV 5) (eV 9)) lN)) (lC (eC (.str "w")) lN))) (eOp D.mod (eOp D.fdiv (eV 3) (eC (.int 2))) (eC (.int 2)))) (gS 13)) (Qj (Qi (lC (eC (.str "para")) (lC (Qf (lC (Qi (lC (eC (.str "word")) (lC (eV 13) (lC (eV 12) lN)))) lN)) lN)))))) sNx) (sQ (sIf (eOp D.eqO (eV 2) (eC (.int 4))) (Qj (Qi (lC (eC (.str "para")) (lC (Qf (lC (Qi (lC (eC (.str "word")) (lC (eC (.str "w")) (lC (eOp D.add (eOp D.mulA (Qf (lC (eC (.str "")) lN)) (eOp D.add (eOp D.sub (eV 6) (eC (.int 2))) (eV 9))) (Qf (lC (eC (.str "n")) lN))) lN)))) lN)) lN)))) sNx) (sQ (sIf (eOp D.eqO (eV 2) (eC (.int 5))) (sQ (Qe (eK ZA (lC (eOp D.mod (eOp D.fdiv (eV 3) (eC (.int 2))) (eOp D.max2 (eC (.int 1)) (eOp D.sub (eV 5) (eV 1)))) lN)) (gS 14)) (Qj (Qi (lC (eC (.str "para")) (lC (Qf (lC (Qi (lC (eC (.str "mark")) (lC (eC (.str "zz")) lN))) (lC (Qi (lC (eC (.str "ref")) (lC (eC (.str "zz")) (lC (eV 14) (lC (eK ZA (lC (eOp D.add (eOp D.sub (eOp D.sub (eV 5) (eV 1)) (eUn D.len (eV 14))) (eV 9)) lN)) lN))))) lN))) lN))))) sNx) (sQ (sIf (eOp D.eqO (eV 2) (eC (.int 6))) (Qj (Qi (lC (eC (.str "table")) (lC (Qf (lC (eC (.str "")) (lC (eK ZA (lC (eOp D.add (eV 5) (eV 9)) lN)) lN))) (lC (eC (.str "zz")) lN))))) sNx) (sQ (sIf (eOp D.eqO (eV 2) (eC (.int 7))) (Qj (Qi (lC (eC (.str "para")) (lC (Qf (lC (Qi (lC (eC (.str "word")) (lC (eC (.str "w")) (lC (Qf lN) lN)))) (lC (eOp D.ix (Qf (lC (Qi (lC (eC (.str "key")) (lC (eC (.str "k")) lN))) (lC (Qi (lC (eC (.str "mark")) (lC (eC (.str "zzz")) lN))) (lC (Qi (lC (eC (.str "mark")) (lC (eV 4) lN))) lN)))) (eOp D.mod (eOp D.fdiv (eV 3) (eC (.int 2))) (eC (.int 3)))) lN))) lN)))) sNx) (Qj (Qi (lC (eC (.str "para")) (lC (Qf (lC (Qi (lC (eC (.str "key")) (lC (eK ZA (lC (eOp D.add (eV 5) (eV 9)) lN)) lN))) (lC (Qi (lC (eC (.str "word")) (lC (eC (.str "w")) (lC (Qf lN) lN)))) lN))) lN))))))))))))))
def Qbj:List D->Option D:=QO 15 5 Qgv
def Qgz:EvS:=sQ (Qe (eV 1) (Q4 [gS 4,gS 5,gS 6,gS 7])) (sQ (Qe (eOp D.mod (eOp D.ix (eV 3) (eC (.int 0))) (eC (.int 13))) (gS 8)) (sQ (Qe (eOp D.mod (eOp D.ix (eV 3) (eC (.int 1))) (eOp D.add (eUn D.len (eV 0)) (eC (.int 1)))) (gS 9)) (sQ (sIf (eOr (eOp D.lt (eV 8) (eC (.int 8))) (eOp D.eqO (eV 8) (eC (.int 12)))) (Qj (Qi (lC (eOp D.add (eOp D.add (Jh (eV 0) oNo (oAt (eV 9))) (Qf (lC (eK Qbj (lC (eV 1) (lC (eV 2) (lC (eV 8) (lC (eOp D.ix (eV 3) (eC (.int 2))) (lC (eK QbL (lC (eV 0) lN)) lN)))))) lN))) (Jh (eV 0) (oAt (eV 9)) oNo)) (lC (eV 1) lN)))) sNx) (sQ (sIf (eOp D.eqO (eV 8) (eC (.int 8))) (Qj (Qi (lC (eV 0) (lC (Qi (lC (eOp D.sub (eOp D.sub (eV 4) (eC (.int 1))) (eOp D.mod (eOp D.ix (eV 3) (eC (.int 2))) (eC (.int 2)))) (lC (eV 5) (lC (eV 6) (lC (eV 7) lN))))) lN)))) sNx) (sQ (sIf (eOp D.eqO (eV 8) (eC (.int 9))) (Qj (Qi (lC (eV 0) (lC (Qi (lC (eV 4) (lC (eOp D.sub (eV 5) (eC (.int 1))) (lC (eV 6) (lC (eV 7) lN))))) lN)))) sNx) (sQ (sIf (Qz (eOp D.eqO (eV 8) (eC (.int 10))) (eOp D.eqO (eOp D.mod (eOp D.ix (eV 3) (eC (.int 2))) (eC (.int 2))) (eC (.int 0)))) (Qj (Qi (lC (eOp D.add (eOp D.add (Jh (eV 0) oNo (oAt (eV 9))) (Qf (lC (Qi (lC (eC (.str "para")) (lC (Qf (lC (Qi (lC (eC (.str "ref")) (lC (eC (.str "nolabelhere")) (lC (eC (.str "")) (lC (eC (.str "")) lN))))) lN)) lN))) lN))) (Jh (eV 0) (oAt (eV 9)) oNo)) (lC (eV 1) lN)))) sNx) (sQ (sIf (Qz (eOp D.eqO (eV 8) (eC (.int 10))) (eOp D.gt (eUn D.len (eV 0)) (eC (.int 0)))) (sQ (Qe (eOp D.mod (eV 9) (eUn D.len (eV 0))) (gS 9)) (Qj (Qi (lC (eOp D.add (eOp D.add (Jh (eV 0) oNo (oAt (eV 9))) (Qf (lC (Qi (lC (eC (.str "plates")) (lC (eC (.int 1)) (lC (eC (.str "zz")) lN)))) (lC (Qi (lC (eC (.str "plates")) (lC (eC (.int 2)) (lC (eC (.str "z")) lN)))) lN)))) (Jh (eV 0) (oAt (eV 9)) oNo)) (lC (eV 1) lN))))) sNx) (sQ (sIf (Qz (eOp D.lt (eV 9) (eUn D.len (eV 0))) (eOp D.eqO (eOp D.ix (eOp D.ix (eV 0) (eV 9)) (eC (.int 0))) (eC (.str "para")))) (sQ (Qe (QF 1 [] (QC (eOp D.ix (eOp D.ix (eV 0) (eV 9)) (eC (.int 1)))) (gS 0) (eOp D.eqO (eOp D.ix (eV 0) (eC (.int 0))) (eC (.str "mark"))) (eV 0)) (gS 10)) (Qj (Qi (lC (eOp D.add (eV 0) (Qf (lC (Qi (lC (eC (.str "para")) (lC (eOp D.add (eV 10) (Qf (lC (Qi (lC (eC (.str "word")) (lC (eC (.str "w")) (lC (Qf lN) lN)))) lN))) lN))) lN))) (lC (eV 1) lN))))) sNx) (sQ (sIf (eOp D.lt (eV 9) (eUn D.len (eV 0))) (Qj (Qi (lC (eOp D.add (eV 0) (Qf (lC (eOp D.ix (eV 0) (eV 9)) lN))) (lC (eV 1) lN)))) sNx) (Qj (Qi (lC (eV 0) (lC (eV 1) lN)))))))))))))
def Qar:List D->Option D:=QO 11 4 Qgz
def Qde:EvS:=sQ (Qe (eK Qav (lC (eV 0) lN)) (Q4 [gS 1,gS 2,gS 3])) (sQ (Qe (QF 1 [0] (JB (eC (.int 8))) (gS 0) (eC (.bl true)) (eK Zr (lC (eK QJ (lC (eV 1) (lC (eC (.int 5)) lN))) (lC (eOp D.add (eC (.int 301)) (eV 0)) lN)))) (gS 4)) (sQ (QP (JB (eOp D.mod (eOp D.ix (eV 4) (eC (.int 7))) (eC (.int 3)))) (gS 5) (Qe (eK Qar (lC (eV 1) (lC (eV 2) (lC (eV 3) (lC (Jh (eV 4) (oAt (eOp D.mulA (eC (.int 3)) (eV 5))) (oAt (eOp D.add (eOp D.mulA (eC (.int 3)) (eV 5)) (eC (.int 3))))) lN))))) (Q4 [gS 1,gS 2]))) (sQ (sIf (eOp D.eqO (eOp D.mod (eOp D.ix (eV 4) (eC (.int 6))) (eC (.int 8))) (eC (.int 0))) (sQ (Qe (Qf (lC (eC (.int 2)) (lC (eC (.int 3)) (lC (eC (.int 4)) (lC (eC (.int 61)) (lC (eC (.int 90)) (lC (eC (.int 91)) (lC (eOp D.mod (eK QJ (lC (eV 0) (lC (eC (.int 0)) lN))) (eOp D.pow (eC (.int 10)) (eC (.int 39)))) (lC (eOp D.sub (eC (.int 0)) (eOp D.mod (eK QJ (lC (eV 0) (lC (eC (.int 0)) lN))) (eOp D.pow (eC (.int 10)) (eC (.int 39))))) lN))))))))) (gS 6)) (sQ (Qe (eOp D.ix (eV 6) (eOp D.mod (eOp D.fdiv (eOp D.ix (eV 4) (eC (.int 6))) (eC (.int 8))) (eC (.int 8)))) (gS 6)) (Qe (eOp D.ix (Qf (lC (Qi (lC (eV 6) (lC (eOp D.ix (eV 2) (eC (.int 1))) (lC (eC (.bl false)) (lC (eOp D.ix (eV 2) (eC (.int 3))) lN))))) (lC (Qi (lC (eOp D.ix (eV 2) (eC (.int 0))) (lC (eV 6) (lC (eC (.bl true)) (lC (eOp D.ix (eV 2) (eC (.int 3))) lN))))) lN))) (eOp D.mod (eOp D.fdiv (eOp D.ix (eV 4) (eC (.int 6))) (eC (.int 64))) (eC (.int 2)))) (gS 2)))) sNx) (Qj (Qi (lC (eV 1) (lC (eV 2) lN)))))))
def Qdb:List D->Option D:=QO 7 1 Qde
def QbR:EvS:=sQ (sIf (Qz (eOp D.neO (eV 0) (eC (.str ""))) (eOp D.inO (eV 0) (eV 1))) (JY 1 (eC (.str "twice"))) sNx) (sQ (sP 1 (eV 0)) (JY 1 (eC (.str ""))))
def JA:List D->Option (D×D):=Qa3 2 2 QbR
def QbS:EvS:=sQ (QP (JB (eUn D.len (eV 0))) (gS 4) (sQ (Qe (eOp D.ix (eV 0) (eV 4)) (gS 5)) (sQ (Qe (eC (.str "")) (gS 6)) (sQ (sIf (eOp D.eqO (eOp D.ix (eV 5) (eC (.int 0))) (eC (.str "word"))) (sQ (sIf (eOp D.gt (eUn D.maxL (QF 1 [] (QC (eOp D.add (Qf (lC (eOp D.ix (eV 5) (eC (.int 1))) lN)) (eOp D.ix (eV 5) (eC (.int 2))))) (gS 0) (eC (.bl true)) (eUn D.len (eV 0)))) (eOp D.ix (eV 1) (eC (.int 0)))) (JY 3 (eC (.str "wide"))) sNx) (sIf (eOp D.gt (eOp D.add (eUn D.len (eOp D.ix (eV 5) (eC (.int 2)))) (eC (.int 1))) (eOp D.ix (eV 1) (eC (.int 1)))) (JY 3 (eC (.str "high"))) sNx)) sNx) (sQ (sIf (Qz (eOp D.eqO (eOp D.ix (eV 5) (eC (.int 0))) (eC (.str "ref"))) (eOp D.gt (eOp D.add (eOp D.add (eUn D.len (eOp D.ix (eV 5) (eC (.int 2)))) (eV 2)) (eUn D.len (eOp D.ix (eV 5) (eC (.int 3))))) (eOp D.ix (eV 1) (eC (.int 0))))) (JY 3 (eC (.str "wide"))) sNx) (sQ (sIf (eOp D.eqO (eOp D.ix (eV 5) (eC (.int 0))) (eC (.str "mark"))) (Qc1 3 JA (lC (eOp D.ix (eV 5) (eC (.int 1))) lN) (gS 6)) sNx) (sQ (sIf (eOp D.neO (eV 6) (eC (.str ""))) (JY 3 (eV 6)) sNx) (sQ (Qe (QF 1 [] (QC (Jh (eV 0) (oAt (eV 4)) oNo)) (gS 0) (eOr (eOp D.eqO (eOp D.ix (eV 0) (eC (.int 0))) (eC (.str "word"))) (eOp D.eqO (eOp D.ix (eV 0) (eC (.int 0))) (eC (.str "ref")))) (eV 0)) (gS 7)) (sIf (eOp D.eqO (eV 7) (Qf lN)) (JY 3 (eC (.str "loose"))) sNx))))))))) (JY 3 (eC (.str "")))
def Yw:List D->Option (D×D):=Qa3 8 4 QbS
def QbT:EvS:=sQ (sIf (eOp D.eqO (eOp D.ix (eV 0) (eC (.int 0))) (eC (.str "para"))) (Qeg 3 Yw (lC (eOp D.ix (eV 0) (eC (.int 1))) (lC (eV 1) (lC (eV 2) lN)))) sNx) (sQ (sIf (eOr (eOp D.eqO (eOp D.ix (eV 0) (eC (.int 0))) (eC (.str "chapter"))) (eOp D.eqO (eOp D.ix (eV 0) (eC (.int 0))) (eC (.str "heading")))) (sQ (sIf (eOp D.gt (eUn D.len (eOp D.ix (eV 0) (eC (.int 1)))) (eOp D.sub (eOp D.ix (eV 1) (eC (.int 0))) (eOp D.mulA (eUn D.intB (eOp D.ix (eV 1) (eC (.int 3)))) (eOp D.add (eC (.int 2)) (eV 2))))) (JY 3 (eC (.str "wide"))) sNx) (sIf (Qz (eOp D.eqO (eOp D.ix (eV 0) (eC (.int 0))) (eC (.str "heading"))) (eOp D.gt (eOp D.add (eOp D.ix (eV 0) (eC (.int 2))) (eC (.int 1))) (eOp D.ix (eV 1) (eC (.int 1))))) (JY 3 (eC (.str "high"))) sNx)) sNx) (sQ (sIf (eOp D.eqO (eOp D.ix (eV 0) (eC (.int 0))) (eC (.str "table"))) (sQ (sIf (eOp D.gt (eUn D.maxL (QF 1 [] (QC (eOp D.ix (eV 0) (eC (.int 1)))) (gS 0) (eC (.bl true)) (eUn D.len (eV 0)))) (eOp D.ix (eV 1) (eC (.int 0)))) (JY 3 (eC (.str "wide"))) sNx) (sIf (eOp D.gt (eUn D.len (eOp D.ix (eV 0) (eC (.int 1)))) (eOp D.ix (eV 1) (eC (.int 1)))) (JY 3 (eC (.str "high"))) sNx)) sNx) (Qeg 3 JA (lC (eOp D.ix (eV 0) (eUn D.neg (eC (.int 1)))) lN))))
def Yx:List D->Option (D×D):=Qa3 4 4 QbT
def Qh8:EvS:=sQ (sIf (eOr (eOp D.lt (eOp D.ix (eV 1) (eC (.int 0))) (eC (.int 4))) (eOr (eOp D.gt (eOp D.ix (eV 1) (eC (.int 0))) (eC (.int 90))) (eOr (eOp D.lt (eOp D.ix (eV 1) (eC (.int 1))) (eC (.int 2))) (eOp D.gt (eOp D.ix (eV 1) (eC (.int 1))) (eC (.int 60)))))) (Qj (Qf (lC (eC (.str "style")) (lC (eC .non) lN)))) sNx) (sQ (Qe (eUn D.len (eUn D.strI (eK VL (lC (eV 0) (lC (eOp D.ix (eV 1) (eC (.int 3))) lN))))) (gS 2)) (sQ (Qe (Qf lN) (gS 3)) (sQ (QP (JB (eUn D.len (eV 0))) (gS 4) (sQ (Qc1 3 Yx (lC (eOp D.ix (eV 0) (eV 4)) (lC (eV 1) (lC (eV 2) lN))) (gS 5)) (sIf (eOp D.neO (eV 5) (eC (.str ""))) (Qj (Qf (lC (eV 5) (lC (eV 4) lN)))) sNx))) (sQ (QP (JB (eUn D.len (eV 0))) (gS 4) (sIf (eOp D.eqO (eOp D.ix (eOp D.ix (eV 0) (eV 4)) (eC (.int 0))) (eC (.str "para"))) (QP (QC (eOp D.ix (eOp D.ix (eV 0) (eV 4)) (eC (.int 1)))) (gS 6) (sIf (Qz (eOp D.eqO (eOp D.ix (eV 6) (eC (.int 0))) (eC (.str "ref"))) (eOp D.notInO (eOp D.ix (eV 6) (eC (.int 1))) (eV 3))) (Qj (Qf (lC (eC (.str "label")) (lC (eV 4) lN)))) sNx)) sNx)) (Qj (Qf lN))))))
def Qfs:List D->Option D:=QO 7 2 Qh8
def Qev:EvS:=sQ (Qe (Qf lN) (gS 1)) (sQ (sIf (eUn (D.instX 0) (eV 0)) (Qe (eOp D.cat (eV 1) (Qf (lC (eC (.str "style")) (lC (eC .non) lN)))) (gS 1)) sNx) (sQ (sIf (eUn (D.instX 1) (eV 0)) (Qe (eOp D.cat (eV 1) (Qf (lC (eC (.str "wide")) (lC (eUn D.blk (eV 0)) lN)))) (gS 1)) sNx) (sQ (sIf (eUn (D.instX 2) (eV 0)) (Qe (eOp D.cat (eV 1) (Qf (lC (eC (.str "high")) (lC (eUn D.blk (eV 0)) lN)))) (gS 1)) sNx) (sQ (sIf (eUn (D.instX 3) (eV 0)) (Qe (eOp D.cat (eV 1) (Qf (lC (eC (.str "twice")) (lC (eUn D.blk (eV 0)) lN)))) (gS 1)) sNx) (sQ (sIf (eUn (D.instX 4) (eV 0)) (Qe (eOp D.cat (eV 1) (Qf (lC (eC (.str "loose")) (lC (eUn D.blk (eV 0)) lN)))) (gS 1)) sNx) (sQ (sIf (eUn (D.instX 5) (eV 0)) (Qe (eOp D.cat (eV 1) (Qf (lC (eC (.str "label")) (lC (eUn D.blk (eV 0)) lN)))) (gS 1)) sNx) (sQ (sIf (eOr (eUn (D.instX 6) (eV 0)) (Qz (eUn D.isNN (eV 0)) (Jg (eUn D.instV (eV 0))))) (sP 1 (eC (.str "other"))) sNx) (sQ (sIf (Qz (eOp D.eqO (eUn D.len (eV 1)) (eC (.int 2))) (Za "bool" (eOp D.ix (eV 1) (eC (.int 1))))) (sP 1 (eC (.str "truth"))) sNx) (Qj (eV 1))))))))))
def Qbk:List D->Option D:=QO 2 1 Qev
def Qdt:EvS:=sQ (Qe (eC .non) (gS 3)) (sQ (QkV 3 4 (sIf (eOp D.eqO (eV 2) (eC (.int 0))) (Zq Zx (lC (eV 0) (lC (eV 1) lN))) (Zq ZL (lC (eV 0) (lC (eV 1) lN))))) (Qj (eK Qbk (lC (eV 3) lN))))
def V4:List D->Option D:=QO 5 3 Qdt
def Qlg:EvS:=sQ (Qe (eK Qdb (lC (eV 0) lN)) (Q4 [gS 1,gS 2])) (sQ (Qe (eK Qfs (lC (eV 1) (lC (eV 2) lN))) (gS 3)) (sQ (Qe (eK Qer (lC (eV 1) lN)) (gS 4)) (sQ (QP (JB (eC (.int 2))) (gS 5) (sIf (eOr (eOp D.neO (eK V4 (lC (eV 4) (lC (eV 2) (lC (eV 5) lN)))) (eV 3)) (eOp D.neO (eK V4 (lC (eV 4) (lC (eV 2) (lC (eOp D.sub (eC (.int 1)) (eV 5)) lN)))) (eV 3))) (Qj (eC (.bl false))) sNx)) (sQ (sIf (eOp D.eqO (eV 3) (Qf lN)) (sQ (Qe (QdT Zx (lC (eV 4) (lC (eV 2) lN))) (gS 6)) (sQ (Qe (QdT ZL (lC (eV 4) (lC (eV 2) lN))) (gS 7)) (sQ (sIf (eOr (Za "bool" (eV 6)) (eOr (Za "bool" (eV 7)) (eOr (Jg (Za "int" (eV 6))) (Jg (Za "int" (eV 7)))))) (Qj (eC (.bl false))) sNx) (sIf (eOr (eOp D.neO (eV 6) (eK VL (lC (eV 1) (lC (eOp D.ix (eV 2) (eC (.int 3))) lN)))) (eOp D.neO (eV 7) (eUn D.len (eUn D.strI (eV 6))))) (Qj (eC (.bl false))) sNx)))) sNx) (Qj (eOp D.eqO (eV 4) (eV 1)))))))
def Qej:List D->Option D:=QO 8 1 Qlg
noncomputable def cell(ns:List Int)(k:Nat):Int:=ns.getD k 0
theorem VN(ns:List Int)(k:Nat):QJ [.scr ns,.int k]=some (.int (cell ns k)):=by
 unfold QJ Qdw;by_cases h:k<ns.length;·simp[QE,Jh,ZF,lI,QO,sD,sQ,sIf,Qj,Vi,Qe,Vt,Vj,sNx,Qal,Vs,gS,Q4,ZI,eV,eC,eOp,eUn,Jg,Qz,eOr,eIf,JO,Qi,Qf,eK,lN,lC,Za,oNo,oAt,Vl,D.len,D.lt,D.le,D.gt,D.ge,D.add,D.sub,D.ix,D.eqO,D.neO,D.cmp,D.cmpN,D.inst,tyD,D.isT,D.intB,D.min2,D.max2,D.neg,D.addI,Qp,ZO,ZR,Ze,QN,QT,ZN,ZM,JU,Zd,ZS,ZT,Zf,Zh,ZQ,Jl,J4,Yb,QD,Qy,Jw,Q2,QW,QQ,D.rng,D.its,D.itsT,QM,Vk,QG,JG,JH,Jv,JJ,ixD,h,cell]
 ·simp[QE,Jh,ZF,lI,QO,sD,sQ,sIf,Qj,Vi,Qe,Vt,Vj,sNx,Qal,Vs,gS,Q4,ZI,eV,eC,eOp,eUn,Jg,Qz,eOr,eIf,JO,Qi,Qf,eK,lN,lC,Za,oNo,oAt,Vl,D.len,D.lt,D.le,D.gt,D.ge,D.add,D.sub,D.ix,D.eqO,D.neO,D.cmp,D.cmpN,D.inst,tyD,D.isT,D.intB,D.min2,D.max2,D.neg,D.addI,Qp,ZO,ZR,Ze,QN,QT,ZN,ZM,JU,Zd,ZS,ZT,Zf,Zh,ZQ,Jl,J4,Yb,QD,Qy,Jw,Q2,QW,QQ,D.rng,D.its,D.itsT,QM,Vk,QG,JG,JH,Jv,JJ,ixD,h,cell]
noncomputable def mix(c t:Int):Int:=((c%2147483647+t*t*7919+104729)*48271%2147483647*((c%2147483647+t*t*7919+104729)*48271%2147483647)+69621*t)%2147483629
theorem Vv(c t:Int):0<=mix c t:=emod_nonneg _ (by decide)
theorem Qsc(c t:Int):mix c t<2147483629:=emod_lt_of_pos _ (by decide)
theorem QaS(c t:Int)(h0:0<=t)(h1:t<=1000):Zr [.int c,.int t]=some (.int (mix c t)):=by have e1:D.mul (.int t) (.int t)=some (.int (t*t)):=Qa5 (by omega);have e2:D.mul (.int (t*t)) (.int 7919)=some (.int (t*t*7919)):=Qeh (by decide);have e3:D.mul (.int (c%2147483647+t*t*7919+104729)) (.int 48271)=some (.int ((c%2147483647+t*t*7919+104729)*48271)):=Qeh (by decide);have n0:=emod_nonneg ((c%2147483647+t*t*7919+104729)*48271) (show(2147483647:Int)≠0 by decide);have n1:=emod_lt_of_pos ((c%2147483647+t*t*7919+104729)*48271) (show(0:Int)<2147483647 by decide);have e4:D.mul (.int ((c%2147483647+t*t*7919+104729)*48271%2147483647)) (.int ((c%2147483647+t*t*7919+104729)*48271%2147483647))=some (.int _):=Qa5 ⟨by omega,by omega⟩;have e5:D.mul (.int 69621) (.int t)=some (.int (69621*t)):=Qa5 (by decide);have m1:D.mod (.int c) (.int 2147483647)=some (.int (c%2147483647)):=QaL (by decide);have m2:D.mod (.int ((c%2147483647+t*t*7919+104729)*48271)) (.int 2147483647)=some (.int _):=QaL (by decide);have m3:∀z:Int,D.mod (.int z) (.int 2147483629)=some (.int (z%2147483629)):=λz=>QaL (by decide);unfold Zr Qh7 mix;simp[QE,Jh,ZF,lI,QO,sD,sQ,sIf,Qj,Vi,Qe,Vt,Vj,sNx,Qal,Vs,gS,Q4,ZI,eV,eC,eOp,eUn,Jg,Qz,eOr,eIf,JO,Qi,Qf,eK,lN,lC,Za,oNo,oAt,Vl,D.len,D.lt,D.le,D.gt,D.ge,D.add,D.sub,D.ix,D.eqO,D.neO,D.cmp,D.cmpN,D.inst,tyD,D.isT,D.intB,D.min2,D.max2,D.neg,D.addI,Qp,ZO,ZR,Ze,QN,QT,ZN,ZM,JU,Zd,ZS,ZT,Zf,Zh,ZQ,Jl,J4,Yb,QD,Qy,Jw,Q2,QW,QQ,D.rng,D.its,D.itsT,QM,Vk,QG,JG,JH,Jv,JJ,e1,e2,e3,e4,e5,m1,m2,m3]
theorem Ju(z:Int){j:Int}(h:0<j):D.mod (.int z) (.int j)=some (.int (z%j)):=QaL h
theorem Qc3(z:Int){j:Int}(h:0<j):∃x,z%j=x/\0<=x/\x<j:=⟨_,rfl,emod_nonneg z (by omega),emod_lt_of_pos z h⟩
theorem toNat_inj:∀{a b:List Char},a.map Char.toNat=b.map Char.toNat->a=b|[],[],_=>rfl|[],_::_,h=>nomatch h|_::_,[],h=>nomatch h|a::x,b::y,h=>by rw[map_cons,map_cons]at h;obtain⟨h1,h2⟩:=List.cons.inj h;rw[toNat_inj h2,Char.toNat_inj.mp h1]
@[simp]theorem tg(a b:String):(Str.ofString a=Str.ofString b)=(a=b):=propext ⟨λh=>by rw[Str.ofString_eq_byList]at h;unfold Str.ofStringByList at h;have h2:(a.toList.map Char.toNat).toArray=(b.toList.map Char.toNat).toArray:=Str.mk.inj h;exact String.toList_inj.mp (toNat_inj (congrArg Array.toList h2)),λh=>h▸rfl⟩
inductive It where|word(w:Str)(ns:List Str)|ref(l a b:Str)|mark(l:Str)|key(w:Str)
inductive Bk where|chapter(t l:Str)|heading(t:Str)(k:Int)(l:Str)|para(is:List It)|table(rs:List Str)(l:Str)|plates(n:Int)(l:Str)
inductive At where|bk(b:Bk)|it(i:It)|brk|fin
noncomputable def Qd(xs:List Str):D:=.lst (xs.map .str)
@[simp]def It.d:It->D|.word w ns=>.tup [.str "word",.str w,Qd ns]|.ref l a b=>.tup [.str "ref",.str l,.str a,.str b]|.mark l=>.tup [.str "mark",.str l]|.key w=>.tup [.str "key",.str w]
@[simp]def Bk.d:Bk->D|.chapter t l=>.tup [.str "chapter",.str t,.str l]|.heading t k l=>.tup [.str "heading",.str t,.int k,.str l]|.para is=>.tup [.str "para",.lst (is.map It.d)]|.table rs l=>.tup [.str "table",Qd rs,.str l]|.plates n l=>.tup [.str "plates",.int n,.str l]
@[simp]def At.d:At->D|.bk b=>b.d|.it i=>i.d|.brk=>.tup [.str "break",.str "",.str ""]|.fin=>.tup [.str "end",.str "",.str ""]
def bks(bs:List Bk):D:=.lst (bs.map Bk.d)
theorem QpC{α σ:Type}{g:EvG}{b:EvS}(d:α->D)(R:σ->Qh->Prop)(step:σ->α->σ):∀(xs:List α),(∀a∈xs,∀s e,R s e->∃e',((g (d a) e).bind b=some (.nx e')\/(g (d a) e).bind b=some (.ct e'))/\R (step s a) e')->∀s e,R s e->∃e',QA g b (xs.map d) e=some (.nx e')/\R (xs.foldl step s) e'
 |[],_,s,e,h=>⟨e,rfl,h⟩|a::xs,hb,s,e,h=>by
  obtain⟨e1,h1,r1⟩:=hb a mem_cons_self s e h;obtain⟨e2,h2,r2⟩:=QpC d R step xs (λx hx=>hb x (mem_cons_of_mem _ hx)) _ _ r1;refine⟨e2,?_,r2⟩;show Z4 ((g (d a) e).bind b) (QA g b (xs.map d))=_;rcases h1 with h1|h1;·rw[h1];exact h2
  ·rw[h1];exact h2
theorem QpQ{α:Type}{g:EvG}{c el:EvE}(d:α->D)(R:Qh->Prop)(p:α->Bool)(o:α->D):∀(xs:List α),(∀a∈xs,∀e,R e->∃e',g (d a) e=some e'/\R e'/\c e'=some (.bl (p a))/\(p a=true->el e'=some (o a)))->∀e,R e->VU g c el (xs.map d) e=some ((xs.filter p).map o)|[],_,e,h=>rfl|a::xs,hb,e,h=>by obtain⟨e1,h1,r1,h2,h3⟩:=hb a mem_cons_self e h;have ih:=QpQ d R p o xs (λx hx=>hb x (mem_cons_of_mem _ hx)) _ r1;show(g (d a) e).bind (λe1=>ifO (c e1) ((el e1).bind λx=>(VU g c el (xs.map d) e1).map λr=>x::r) (VU g c el (xs.map d) e1))=_;rw[h1];show ifO (c e1) _ _=_;rw[h2,Qp,ih];cases q:p a with|false=>rw[if_neg (by decide),List.filter_cons_of_neg (by simp[q])]|true=>rw[if_pos rfl,h3 q,List.filter_cons_of_pos q];rfl
theorem QhG{α:Type}{g:EvG}{b:EvS}(d:α->D):∀(xs:List α)(R:Nat->Qh->Prop),(∀i(hi:i<xs.length)e,R i e->∃e',((g (d xs[i]) e).bind b=some (.nx e')\/(g (d xs[i]) e).bind b=some (.ct e'))/\R (i+1) e')->∀e,R 0 e->∃e',QA g b (xs.map d) e=some (.nx e')/\R xs.length e'
 |[],R,_,e,h=>⟨e,rfl,h⟩|a::xs,R,hb,e,h=>by
  obtain⟨e1,h1,r1⟩:=hb 0 (by simp) e h;obtain⟨e2,h2,r2⟩:=QhG d xs (λi=>R (i+1)) (λi hi x hx=>hb (i+1) (by simpa using hi) x hx) _ r1;refine⟨e2,?_,r2⟩;show Z4 ((g (d a) e).bind b) (QA g b (xs.map d))=_;have lY:(g (d a) e).bind b=some (.nx e1)\/(g (d a) e).bind b=some (.ct e1):=h1;rcases lY with h1|h1;·rw[h1];exact h2
  ·rw[h1];exact h2
theorem Qkl{g:EvG}{b:EvS}(n:Nat)(R:Nat->Qh->Prop)(h:∀i,i<n->∀e,R i e->∃e',((g (.int (0+(i:Int))) e).bind b=some (.nx e')\/(g (.int (0+(i:Int))) e).bind b=some (.ct e'))/\R (i+1) e'):∀e,R 0 e->∃e',QA g b (rD 0 n) e=some (.nx e')/\R n e':=by
 intro e h0;have:=QhG (g:=g) (b:=b) (λi:Nat=>D.int (0+(i:Int))) (List.range n) R (λi hi e r=>by
  have q:(List.range n)[i]=i:=by simp
  rw[q];exact h i (by simpa using hi) e r) e h0;simpa[rD]using this
theorem st{a k:EvS}{e e1:Qh}{r:Option Fl}(h:a e=some (.nx e1))(hk:k e1=r):sQ a k e=r:=by unfold sQ;rw[h];exact hk
theorem stR{a k:EvS}{e:Qh}{d:D}(h:a e=some (.rt d)):sQ a k e=some (.rt d):=by unfold sQ;rw[h];rfl
theorem stC{a k:EvS}{e e1:Qh}(h:a e=some (.ct e1)):sQ a k e=some (.ct e1):=by unfold sQ;rw[h];rfl
theorem stD{n k:Nat}{b:EvS}{ds:List D}{r:D}(hl:ds.length=k)(h:b (sD n ds)=some (.rt r)):QO n k b ds=some r:=by unfold QO;rw[if_pos hl,h];rfl
theorem Qpt{it:EvI}{g:EvG}{b k:EvS}{e:Qh}{r:Option Fl}(n:Nat)(R:Nat->Qh->Prop)(hit:it e=some (rD 0 n))(h0:R 0 e)(hb:∀i,i<n->∀e,R i e->∃e',((g (.int (0+(i:Int))) e).bind b=some (.nx e')\/(g (.int (0+(i:Int))) e).bind b=some (.ct e'))/\R (i+1) e')(hk:∀e',R n e'->k e'=r):sQ (QP it g b) k e=r:=by obtain⟨e',h1,h2⟩:=Qkl n R hb e h0;refine st (e1:=e') ?_ (hk e' h2);unfold QP;rw[hit];exact h1
theorem Qff{α:Type}{it:EvI}{g:EvG}{b k:EvS}{e:Qh}{r:Option Fl}(d:α->D)(xs:List α)(R:Nat->Qh->Prop)(hit:it e=some (xs.map d))(h0:R 0 e)(hb:∀i(hi:i<xs.length)e,R i e->∃e',((g (d xs[i]) e).bind b=some (.nx e')\/(g (d xs[i]) e).bind b=some (.ct e'))/\R (i+1) e')(hk:∀e',R xs.length e'->k e'=r):sQ (QP it g b) k e=r:=by obtain⟨e',h1,h2⟩:=QhG d xs R hb e h0;refine st (e1:=e') ?_ (hk e' h2);unfold QP;rw[hit];exact h1
theorem QpM{α σ:Type}{it:EvI}{g:EvG}{b:EvS}{e:Qh}(d:α->D)(xs:List α)(R:σ->Qh->Prop)(step:σ->α->σ)(s:σ)(hit:it e=some (xs.map d))(h0:R s e)(hb:∀a∈xs,∀s e,R s e->∃e',((g (d a) e).bind b=some (.nx e')\/(g (d a) e).bind b=some (.ct e'))/\R (step s a) e'):∃e',QP it g b e=some (.nx e')/\R (xs.foldl step s) e':=by obtain⟨e',h1,h2⟩:=QpC d R step xs hb s e h0;refine⟨e',?_,h2⟩;unfold QP;rw[hit];exact h1
theorem Ql5{α σ:Type}{it:EvI}{g:EvG}{b k:EvS}{e:Qh}{r:Option Fl}(d:α->D)(xs:List α)(R:σ->Qh->Prop)(step:σ->α->σ)(s:σ)(hit:it e=some (xs.map d))(h0:R s e)(hb:∀a∈xs,∀s e,R s e->∃e',((g (d a) e).bind b=some (.nx e')\/(g (d a) e).bind b=some (.ct e'))/\R (step s a) e')(hk:∀e',R (xs.foldl step s) e'->k e'=r):sQ (QP it g b) k e=r:=by obtain⟨e',h1,h2⟩:=QpM d xs R step s hit h0 hb;exact st h1 (hk e' h2)
theorem bnd{g:EvG}{b:EvS}{d:D}{e e1:Qh}{r:Option Fl}(h:g d e=some e1)(hk:b e1=r):(g d e).bind b=r:=by rw[h];exact hk
theorem ret{a:EvE}{e:Qh}{d:D}(h:a e=some d):Qj a e=some (.rt d):=by unfold Qj;rw[h];rfl
theorem exD{β:Type}{dd:β->D}{P:β->Prop}{n k:Nat}{b:EvS}{ds:List D}(hl:ds.length=k)(h:∃x,b (sD n ds)=some (.rt (dd x))/\P x):∃x,QO n k b ds=some (dd x)/\P x:=by obtain⟨x,h1,h2⟩:=h;exact⟨x,stD hl h1,h2⟩
theorem YT{β:Type}{dd:β->D}{P:β->Prop}{a k:EvS}{e e1:Qh}(h:a e=some (.nx e1))(hk:∃x,k e1=some (.rt (dd x))/\P x):∃x,sQ a k e=some (.rt (dd x))/\P x:=by obtain⟨x,h1,h2⟩:=hk;exact⟨x,st h h1,h2⟩
theorem JL{α:Type}{n:Nat}{caps:List Nat}{it:EvI}{g:EvG}{c el:EvE}{e:Qh}(d:α->D)(xs:List α)(R:Qh->Prop)(p:α->Bool)(o:α->D)(hit:it e=some (xs.map d))(hl:xs.length<=lI)(h0:R (Qci n caps e))(hb:∀a∈xs,∀e,R e->∃e',g (d a) e=some e'/\R e'/\c e'=some (.bl (p a))/\(p a=true->el e'=some (o a))):QF n caps it g c el e=some (.lst ((xs.filter p).map o)):=by unfold QF;rw[hit];show(if(xs.map d).length<=lI then(VU g c el (xs.map d) (Qci n caps e)).map D.lst else none)=_;rw[if_pos (by rw[length_map];exact hl),QpQ d R p o xs hb _ h0];rfl
theorem Zt{α:Type}(xs:List α):xs.filter (λ_=>true)=xs:=by simp
theorem orF{a b:EvE}{e:Qh}{r:Option D}(ha:a e=some (.bl false))(hb:b e=r):eOr a b e=r:=by unfold eOr;rw[ha];exact hb
theorem orT{a b:EvE}{e:Qh}(ha:a e=some (.bl true)):eOr a b e=some (.bl true):=by unfold eOr;rw[ha];rfl
theorem JM{a b:EvE}{e:Qh}{r:Option D}(ha:a e=some (.bl true))(hb:b e=r):Qz a b e=r:=by unfold Qz;rw[ha];exact hb
theorem J6{a b:EvE}{e:Qh}(ha:a e=some (.bl false)):Qz a b e=some (.bl false):=by unfold Qz;rw[ha];rfl
theorem opE{g:D->D->Option D}{a b:EvE}{e:Qh}{x y:D}{r:Option D}(ha:a e=some x)(hb:b e=some y)(h:g x y=r):eOp g a b e=r:=by unfold eOp;rw[ha,hb];exact h
theorem unE{g:D->Option D}{a:EvE}{e:Qh}{x:D}{r:Option D}(ha:a e=some x)(h:g x=r):eUn g a e=r:=by unfold eUn;rw[ha];exact h
theorem QhP{a:EvE}{e:Qh}{b:Bool}(ha:a e=some (.bl b)):Jg a e=some (.bl (!b)):=by unfold Jg;rw[ha];rfl
theorem Qfh{t:String}{a:EvE}{e:Qh}{x:D}{r:Option D}(ha:a e=some x)(h:D.inst t x=r):Za t a e=r:=by unfold Za;rw[ha];exact h
theorem Q7{f:List D->Option D}{a:EvE}{e:Qh}{x:D}{r:Option D}(ha:a e=some x)(h:f [x]=r):eK f (lC a lN) e=r:=by unfold eK lC lN;rw[ha];exact h
theorem JV{f:List D->Option D}{a b:EvE}{e:Qh}{x y:D}{r:Option D}(ha:a e=some x)(hb:b e=some y)(h:f [x,y]=r):eK f (lC a (lC b lN)) e=r:=by unfold eK lC lN;rw[ha,hb];exact h
theorem Vo{f:List D->Option D}{a b c:EvE}{e:Qh}{x y z:D}{r:Option D}(ha:a e=some x)(hb:b e=some y)(hc:c e=some z)(h:f [x,y,z]=r):eK f (lC a (lC b (lC c lN))) e=r:=by unfold eK lC lN;rw[ha,hb,hc];exact h
theorem Qty{f:List D->Option D}{a b c d:EvE}{e:Qh}{x y z u:D}{r:Option D}(ha:a e=some x)(hb:b e=some y)(hc:c e=some z)(hd:d e=some u)(h:f [x,y,z,u]=r):eK f (lC a (lC b (lC c (lC d lN)))) e=r:=by unfold eK lC lN;rw[ha,hb,hc,hd];exact h
theorem Qge{i:Nat}{a:EvE}{e:Qh}{x d z:D}(hx:eV i e=some x)(ha:a e=some d)(h:D.app x d=some z):sP i a e=some (.nx (e.set i (some z))):=by unfold sP;rw[hx,ha];show(D.app x d).map _=_;rw[h];rfl
theorem asg{a:EvE}{g:EvG}{e e1:Qh}{d:D}(h:a e=some d)(hg:g d e=some e1):Qe a g e=some (.nx e1):=by unfold Qe;rw[h];show(g d e).map _=_;rw[hg];rfl
theorem ifT{c:EvE}{a b:EvS}{e:Qh}{r:Option Fl}(h:c e=some (.bl true))(ha:a e=r):sIf c a b e=r:=by unfold sIf;rw[h];exact ha
theorem ifF{c:EvE}{a b:EvS}{e:Qh}{r:Option Fl}(h:c e=some (.bl false))(ha:b e=r):sIf c a b e=r:=by unfold sIf;rw[h];exact ha
theorem eqS(x y:Str):D.eqO (.str x) (.str y)=some (.bl (decide (x=y))):=by simp[D.eqO,Qy,QG,D.cmp]
theorem Qaj{a b c:EvE}{e:Qh}{x y z:D}(ha:a e=some x)(hb:b e=some y)(hc:c e=some z):Qi (lC a (lC b (lC c lN))) e=some (.tup [x,y,z]):=by unfold Qi lC lN;rw[ha,hb,hc];rfl
theorem Yg{a b:EvE}{e:Qh}{x y:D}(ha:a e=some x)(hb:b e=some y):Qi (lC a (lC b lN)) e=some (.tup [x,y]):=by unfold Qi lC lN;rw[ha,hb];rfl
theorem Qbn{a b c d:EvE}{e:Qh}{x y z u:D}(ha:a e=some x)(hb:b e=some y)(hc:c e=some z)(hd:d e=some u):Qi (lC a (lC b (lC c (lC d lN)))) e=some (.tup [x,y,z,u]):=by unfold Qi lC lN;rw[ha,hb,hc,hd];rfl
theorem eqF{x y:Int}(h:x≠y):D.eqO (.int x) (.int y)=some (.bl false):=by simp[D.eqO,QD,QM,D.cmp,h]
theorem eqT{x y:Int}(h:x=y):D.eqO (.int x) (.int y)=some (.bl true):=by simp[D.eqO,QD,QM,D.cmp,h]
theorem ltF{x y:Int}(h:¬x<y):D.lt (.int x) (.int y)=some (.bl false):=by show some (D.bl (decide (x<y)))=_;rw[decide_eq_false h]
theorem ltT{x y:Int}(h:x<y):D.lt (.int x) (.int y)=some (.bl true):=by show some (D.bl (decide (x<y)))=_;rw[decide_eq_true h]
theorem Qch{a:EvE}{lo hi:EvO}{e:Qh}{x:D}{l h:Option Int}{r:Option D}(ha:a e=some x)(hl:lo e=some l)(hh:hi e=some h)(hc:ZF x l h=r):Jh a lo hi e=r:=by unfold Jh;rw[ha,hl,hh];exact hc
theorem atE{a:EvE}{e:Qh}{i:Int}(ha:a e=some (.int i)):oAt a e=some (some i):=by unfold oAt;rw[ha];rfl
noncomputable def Ql3:Option D->Str|some (.str x)=>x|_=>""
noncomputable def Qmp:Option D->Bool|some (.str _)=>true|_=>false
theorem QjW{o:Option D}(h:Qmp o=true):o=some (.str (Ql3 o)):=by cases o with|none=>cases h|some d=>cases d<;>first|rfl|cases h
def lab(k:Nat):Str:=Ql3 (Qau [.int k])
def Qeq(k:Nat):Bool:=Qmp (Qau [.int k])&&decide (1<=(lab k).length)&&decide ((lab k).length<=7)&&decide (lab k≠"z")
theorem QqD:(List.range 58).all Qeq=true:=by decide+kernel
theorem Qiw(k:Nat)(h:k<58):Qeq k=true:=List.all_eq_true.mp QqD k (List.mem_range.mpr h)
theorem Qsh(k:Nat)(h:k<58):Qau [.int k]=some (.str (lab k)):=by have:=Qiw k h;simp only[Qeq,and_eq_true]at this;exact QjW this.1.1.1
theorem QqC(k:Nat)(h:k<58):1<=(lab k).length/\(lab k).length<=7:=by have:=Qiw k h;simp only[Qeq,and_eq_true,decide_eq_true_eq]at this;exact⟨this.1.1.2,this.1.2⟩
theorem Z6(z:Int){j:Int}(h:0<j/\j<1073741824):D.fdiv (.int z) (.int j)=some (.int (z/j)):=Qsv h
theorem QtF(t:Int)(a b c:Option D):∀(ds:List D),∃c',QA (gS 3) (Qe (eOp D.mulA (eV 2) (eC (.int 10))) (gS 2)) ds [a,b,some (.int t),c]=some (.nx [a,b,some (.int (t*10^ds.length)),c']):=by intro ds;induction ds generalizing t c with|nil=>exact⟨c,by simp[QA]⟩|cons d ds ih=>obtain⟨c',e⟩:=ih (t*10) (some d);refine⟨c',?_⟩;have m:D.mul (.int t) (.int 10)=some (.int (t*10)):=Qeh (by decide);simp[QA,QE,Jh,ZF,lI,QO,sD,sQ,sIf,Qj,Vi,Qe,Vt,Vj,sNx,Qal,Vs,gS,Q4,ZI,eV,eC,eOp,eUn,Jg,Qz,eOr,eIf,JO,Qi,Qf,eK,lN,lC,Za,oNo,oAt,Vl,D.len,D.lt,D.le,D.gt,D.ge,D.add,D.sub,D.ix,D.eqO,D.neO,D.cmp,D.cmpN,D.inst,tyD,D.isT,D.intB,D.min2,D.max2,D.neg,D.addI,Qp,ZO,ZR,Ze,QN,QT,ZN,ZM,JU,Zd,ZS,ZT,Zf,Zh,ZQ,Jl,J4,Yb,QD,Qy,Jw,Q2,QW,QQ,D.rng,D.its,D.itsT,QM,Vk,QG,JG,JH,Jv,JJ,Y9,m,e];rw[Int.mul_assoc,<-Int.pow_succ']
theorem QtG(t:Int)(a b c d e:Option D):∀(ds:List D),∃d',QA (gS 4) (Qe (eOp D.mulA (eV 3) (eC (.int 10))) (gS 3)) ds [a,b,c,some (.int t),d,e]=some (.nx [a,b,c,some (.int (t*10^ds.length)),d',e]):=by intro ds;induction ds generalizing t d with|nil=>exact⟨d,by simp[QA]⟩|cons x ds ih=>obtain⟨c',q⟩:=ih (t*10) (some x);refine⟨c',?_⟩;have m:D.mul (.int t) (.int 10)=some (.int (t*10)):=Qeh (by decide);simp[QA,QE,Jh,ZF,lI,QO,sD,sQ,sIf,Qj,Vi,Qe,Vt,Vj,sNx,Qal,Vs,gS,Q4,ZI,eV,eC,eOp,eUn,Jg,Qz,eOr,eIf,JO,Qi,Qf,eK,lN,lC,Za,oNo,oAt,Vl,D.len,D.lt,D.le,D.gt,D.ge,D.add,D.sub,D.ix,D.eqO,D.neO,D.cmp,D.cmpN,D.inst,tyD,D.isT,D.intB,D.min2,D.max2,D.neg,D.addI,Qp,ZO,ZR,Ze,QN,QT,ZN,ZM,JU,Zd,ZS,ZT,Zf,Zh,ZQ,Jl,J4,Yb,QD,Qy,Jw,Q2,QW,QQ,D.rng,D.its,D.itsT,QM,Vk,QG,JG,JH,Jv,JJ,Y9,m,q];rw[Int.mul_assoc,<-Int.pow_succ']
theorem Qij(lo:Int)(n:Nat):(rD lo n).length=n:=by unfold rD;simp
theorem QrA(n:Nat)(h:n<=3):(10:Int)<=10*10^n/\(10:Int)*10^n<=10^30:=by
 have:n=0\/n=1\/n=2\/n=3:=by omega
 rcases this with z|z|z|z<;>subst z<;>decide
theorem ix3{x y z:D}{i:Int}(h:i=0\/i=1\/i=2):D.ix (.lst [x,y,z]) (.int i)=some (if i=0 then x else if i=1 then y else z):=by rcases h with h|h|h<;>subst h<;>rfl
theorem Qt5(x:Int)(h:x<=3):x<=10^39:=by
 have:(3:Int)<=10^39:=by decide
 omega
theorem Qtz(x:Int)(h:x<=10^30):x<=10^39:=by
 have:(10:Int)^30<=10^39:=by decide
 omega
theorem QmY(c n:Int)(hn:0<=n):∃p:Int,Qb5 [.int c,.int n]=some (.int p)/\1<=p/\p<=10^39:=by
 obtain⟨m4,e4,l4,u4⟩:=Qc3 (n/97) (show(0:Int)<4 by decide);obtain⟨m3,e3,l3,u3⟩:=Qc3 (n/16) (show(0:Int)<3 by decide);obtain⟨m5,e5,l5,u5⟩:=Qc3 (n/16) (show(0:Int)<5 by decide);obtain⟨m8,e8,l8,u8⟩:=Qc3 (n/97) (show(0:Int)<8 by decide);obtain⟨q3,f3,g3,h3⟩:=Qc3 (n/997) (show(0:Int)<3 by decide);obtain⟨mc,ec,lc,uc⟩:=Qc3 c (show(0:Int)<10^39 by decide);have jY:c%1000000000000000000000000000000000000000=mc:=ec;have gW:D.pow (.int 10) (.int 39)=some (.int (10^39)):=Qk7 (by decide);have jv:D.pow (.int 10) (.int 30)=some (.int (10^30)):=Qk7 (by decide);have jA:D.mod (.int c) (.int (10^39))=some (.int mc):=by rw[<-ec];exact QaL (by decide)
 have z3:q3=0\/q3=1\/q3=2:=by omega
 have rg:(if m4.natAbs<4611686018427387904 then some (rD 0 m4.toNat)else none)=some (rD 0 m4.toNat):=if_pos (by omega);obtain⟨c',el⟩:=QtF 10 (some (.int c)) (some (.int n)) none (rD 0 m4.toNat);rw[Qij]at el;have tl:=QrA m4.toNat (by omega);obtain⟨T,eT⟩:∃T:Int,10*10^m4.toNat=T:=⟨_,rfl⟩;rw[eT]at el tl;have fin:∀T:Int,10<=T->T<=10^30->∃p:Int,(if q3=0 then D.int (1+m3)else if q3=1 then D.int (T-1-m5)else D.int (1+mc))=.int p/\1<=p/\p<=10^39:=by
  intro T t0 t1;split;·exact⟨_,rfl,by omega,Qt5 _ (by omega)⟩
  ·split;·exact⟨_,rfl,by omega,Qtz _ (by omega)⟩
   ·exact⟨_,rfl,by omega,by omega⟩
 unfold Qb5 Qd6;by_cases h8:m8=7
 ·obtain⟨p,ep,b0,b1⟩:=fin (10^30) (by decide) (by decide);refine⟨p,?_,b0,b1⟩;simp[QE,Jh,ZF,lI,QO,sD,sQ,sIf,Qj,Vi,Qe,Vt,Vj,sNx,Qal,Vs,gS,Q4,ZI,eV,eC,eOp,eUn,Jg,Qz,eOr,eIf,JO,Qi,Qf,eK,lN,lC,Za,oNo,oAt,Vl,D.len,D.lt,D.le,D.gt,D.ge,D.add,D.sub,D.eqO,D.neO,D.cmp,D.cmpN,D.inst,tyD,D.isT,D.intB,D.min2,D.max2,D.neg,D.addI,Qp,ZO,ZR,Ze,QN,QT,ZN,ZM,JU,Zd,ZS,ZT,Zf,Zh,ZQ,Jl,J4,Yb,QD,Qy,Jw,Q2,QW,QQ,D.rng,D.its,D.itsT,QM,Vk,QG,JG,JH,Jv,JJ,<-eT,gW,jv,jA,Z6,Ju,e4,e3,e5,e8,f3,h8,QP,JB,rg,el,ix3 z3,jY];simpa using ep
 ·obtain⟨p,ep,b0,b1⟩:=fin T tl.1 tl.2;refine⟨p,?_,b0,b1⟩;simp[QE,Jh,ZF,lI,QO,sD,sQ,sIf,Qj,Vi,Qe,Vt,Vj,sNx,Qal,Vs,gS,Q4,ZI,eV,eC,eOp,eUn,Jg,Qz,eOr,eIf,JO,Qi,Qf,eK,lN,lC,Za,oNo,oAt,Vl,D.len,D.lt,D.le,D.gt,D.ge,D.add,D.sub,D.eqO,D.neO,D.cmp,D.cmpN,D.inst,tyD,D.isT,D.intB,D.min2,D.max2,D.neg,D.addI,Qp,ZO,ZR,Ze,QN,QT,ZN,ZM,JU,Zd,ZS,ZT,Zf,Zh,ZQ,Jl,J4,Yb,QD,Qy,Jw,Q2,QW,QQ,D.rng,D.its,D.itsT,QM,Vk,QG,JG,JH,Jv,JJ,gW,jv,jA,Z6,Ju,e4,e3,e5,e8,f3,h8,QP,JB,rg,el,ix3 z3,jY];simpa using ep
noncomputable def someS:Str:=Str.ofString "!\"#$&'()*+,-./0123456789:;<=>?@ABCDEFGHIJKLMNOPQRSTUVWXYZ[\\]^_`"++Str.ofString "abcdefghijklmnopqrstuvwxyz{}~|"
theorem QdZ:someS.length=93:=by decide+kernel
theorem QrE:(Str.ofString "!\"#$&'()*+,-./0123456789:;<=>?@ABCDEFGHIJKLMNOPQRSTUVWXYZ[\\]^_`").length=63:=by decide+kernel
theorem QrD:(Str.ofString "abcdefghijklmnopqrstuvwxyz{}~|").length=30:=by decide+kernel
noncomputable def Qa2(x:Str)(i:Int):Str:=⟨#[x.cps.toList.getD i.toNat 0]⟩
theorem Qim(x:Str)(i:Int):(Qa2 x i).length=1:=rfl
theorem ixS{x:Str}{i:Int}(h:0<=i)(h':i<x.length)(hl:x.length<=lI):D.ix (.str x) (.int i)=some (.str (Qa2 x i)):=by
 have q0:x.length=x.cps.size:=rfl;have q:i.toNat<x.cps.size:=by omega
 show(if x.length<=lI then(ixD x.length i).bind λk=>(x.cps[k]?).map λc=>D.str ⟨#[c]⟩else none)=_;rw[if_pos hl,ixD,if_pos h,if_pos h'];show(x.cps[i.toNat]?).map _=_;rw[Array.getElem?_eq_getElem q];show some (D.str ⟨#[x.cps[i.toNat]]⟩)=_;unfold Qa2;rw[getD_eq_getElem?_getD,Array.getElem?_toList,Array.getElem?_eq_getElem q];rfl
theorem Qkm(x y:Str):(x++y).length=x.length+y.length:=Array.size_append
theorem Qn8{x y:Str}(h:x.length+y.length<=lI):D.add (.str x) (.str y)=some (.str (x++y)):=if_pos h
def sgn(n g:Int)(k:Nat):Str:=if g=1/\(n/3+k)%4=0 then " "else Qa2 someS ((n/7+k*(1+n%13)+k*k)%(92+g))
theorem Qj8(n g:Int)(k:Nat):(sgn n g k).length=1:=by
 unfold sgn;split;·decide+kernel
 ·rfl
def YW(n g:Int)(s:Nat):Str:=(List.range s).foldl (λx k=>x++sgn n g k) ""
theorem Qg4(n g:Int):∀(ks:List Nat)(x:Str),(ks.foldl (λx k=>x++sgn n g k) x).length=x.length+ks.length|[],x=>rfl|k::ks,x=>by show(ks.foldl (λx k=>x++sgn n g k) (x++sgn n g k)).length=_;rw[Qg4 n g ks,Qkm,Qj8,length_cons];omega
theorem Qb3(n g:Int)(s:Nat):(YW n g s).length=s:=by unfold YW;rw[Qg4,length_range];show 0+s=s;omega
theorem Qlk(n g:Int):YW n g 0=Str.ofString "":=by unfold YW;rw[List.range_zero,List.foldl_nil]
theorem QeH(n g:Int)(s:Nat)(hn:0<=n)(hg:g=0\/g=1)(hs:s<=1000):YC [.int n,.int s,.int g]=some (.str (YW n g s)):=by
 have rg:D.rng (.int s)=some (rD 0 s):=by
  show(if(s:Int).natAbs<4611686018427387904 then some (rD 0 (s:Int).toNat)else none)=_;rw[if_pos (by omega)];rfl
 have a0:D.add (.str (Str.ofString "!\"#$&'()*+,-./0123456789:;<=>?@ABCDEFGHIJKLMNOPQRSTUVWXYZ[\\]^_`")) (.str (Str.ofString "abcdefghijklmnopqrstuvwxyz{}~|"))=some (.str someS):=Qn8 (by rw[QrE,QrD];decide);unfold YC QeY;refine stD rfl ?_;refine st (e1:=[some (.int n),some (.int s),some (.int g),some (.str (Str.ofString "!\"#$&'()*+,-./0123456789:;<=>?@ABCDEFGHIJKLMNOPQRSTUVWXYZ[\\]^_`")),none,none,none,none]) (by simp[sD,sQ,sIf,Qj,Qe,sNx,gS,eV,eC,eOp,eUn,Jg,Qz,eOr,Qi,Qf,eK,lN,lC,D.lt,D.sub,D.eqO,D.cmp,Qp,QN,QT,QD,Qy,QM,QG,QE]) ?_;refine st (e1:=[some (.int n),some (.int s),some (.int g),some (.str someS),none,none,none,none]) (by simp[sD,sQ,sIf,Qj,Qe,sNx,gS,eV,eC,eOp,eUn,Jg,Qz,eOr,Qi,Qf,eK,lN,lC,D.lt,D.sub,D.eqO,D.cmp,Qp,QN,QT,QD,Qy,QM,QG,QE,a0]) ?_;refine st (e1:=[some (.int n),some (.int s),some (.int g),some (.str someS),some (.str (Str.ofString "")),none,none,none]) (by simp[sD,sQ,sIf,Qj,Qe,sNx,gS,eV,eC,eOp,eUn,Jg,Qz,eOr,Qi,Qf,eK,lN,lC,D.lt,D.sub,D.eqO,D.cmp,Qp,QN,QT,QD,Qy,QM,QG,QE]) ?_;refine Qpt s (λi e=>∃a b c,e=[some (.int n),some (.int s),some (.int g),some (.str someS),some (.str (YW n g i)),a,b,c]) (by simp[JB,eV,rg]) ⟨none,none,none,by rw[Qlk]⟩ ?_ ?_
 ·rintro i hi e⟨a,b,c,rfl⟩;obtain⟨j,ej⟩:∃j:Int,(i:Int)=j:=⟨_,rfl⟩;have i0:(0:Int)<=j/\j<1000:=by omega
  have e1:D.mul (.int j) (.int (1+n%13))=some (.int (j*(1+n%13))):=Qa5 (by omega);have e2:D.mul (.int j) (.int j)=some (.int (j*j)):=Qa5 (by omega);have e3:D.mod (.int (n/7+j*(1+n%13)+j*j)) (.int (92+g))=some (.int ((n/7+j*(1+n%13)+j*j)%(92+g))):=QaL (by omega);have e4:D.ix (.str someS) (.int ((n/7+j*(1+n%13)+j*j)%(92+g)))=some (.str (Qa2 someS ((n/7+j*(1+n%13)+j*j)%(92+g)))):=by have a0:=emod_nonneg (n/7+j*(1+n%13)+j*j) (show(92+g)≠0 by omega);have a1:=emod_lt_of_pos (n/7+j*(1+n%13)+j*j) (show 0<92+g by omega);exact ixS a0 (by rw[QdZ];omega) (by rw[QdZ];decide)
  have e5:D.add (.str (YW n g i)) (.str (sgn n g i))=some (.str (YW n g (i+1))):=by
   rw[Qn8 (by rw[Qb3,Qj8];unfold lI;omega)];unfold YW;rw[List.range_succ,foldl_append];rfl
  have e6:D.len (.str someS)=some (.int 93):=by
   show(if someS.length<=lI then some (D.int someS.length)else none)=_;rw[QdZ];rfl
  have e7:(93:Int)-1+g=92+g:=by omega
  have ai:∀x y:Int,D.add (.int x) (.int y)=some (.int (x+y)):=λ_ _=>rfl;refine⟨[some (.int n),some (.int s),some (.int g),some (.str someS),some (.str (YW n g (i+1))),some (.int j),some (.int (n/7+j*(1+n%13)+j*j)),some (.str (sgn n g i))],.inl ?_,_,_,_,rfl⟩;rw[ej,zero_add];refine bnd (e1:=[some (.int n),some (.int s),some (.int g),some (.str someS),some (.str (YW n g i)),some (.int j),b,c]) rfl ?_;refine st (e1:=[some (.int n),some (.int s),some (.int g),some (.str someS),some (.str (YW n g i)),some (.int j),some (.int (n/7+j*(1+n%13)+j*j)),c]) (by simp[sD,sQ,sIf,Qj,Qe,sNx,gS,eV,eC,eOp,eUn,Jg,Qz,eOr,Qi,Qf,eK,lN,lC,D.lt,D.sub,D.eqO,D.cmp,Qp,QN,QT,QD,Qy,QM,QG,QE,Z6,Ju,ai,e1,e2]) ?_;refine st (e1:=[some (.int n),some (.int s),some (.int g),some (.str someS),some (.str (YW n g i)),some (.int j),some (.int (n/7+j*(1+n%13)+j*j)),some (.str (Qa2 someS ((n/7+j*(1+n%13)+j*j)%(92+g))))]) (by simp[sD,sQ,sIf,Qj,Qe,sNx,gS,eV,eC,eOp,eUn,Jg,Qz,eOr,Qi,Qf,eK,lN,lC,D.lt,D.sub,D.eqO,D.cmp,Qp,QN,QT,QD,Qy,QM,QG,QE,e6,ai,e7,e3,e4]) ?_;refine st (e1:=[some (.int n),some (.int s),some (.int g),some (.str someS),some (.str (YW n g i)),some (.int j),some (.int (n/7+j*(1+n%13)+j*j)),some (.str (sgn n g i))]) ?_ (by simp[sD,sQ,sIf,Qj,Qe,sNx,gS,eV,eC,eOp,eUn,Jg,Qz,eOr,Qi,Qf,eK,lN,lC,D.lt,D.sub,D.eqO,D.cmp,Qp,QN,QT,QD,Qy,QM,QG,QE,e5]);unfold sgn;rw[ej];rcases hg with z|z<;>by_cases hc:(n/3+j)%4=0<;>simp[sD,sQ,sIf,Qj,Qe,sNx,gS,eV,eC,eOp,eUn,Jg,Qz,eOr,Qi,Qf,eK,lN,lC,D.lt,D.sub,D.eqO,D.cmp,Qp,QN,QT,QD,Qy,QM,QG,QE,Z6,Ju,ai,z,hc]
 ·rintro e⟨a,b,c,rfl⟩;simp[Qj,eV]
theorem QiM(x:Str)(lo hi:Option Int):(VQ x lo hi).length<=x.length:=by show(ZE x.cps.toList lo hi).toArray.size<=x.cps.size;rw[size_toArray];unfold ZE;rw[length_take,length_drop];have:x.cps.toList.length=x.cps.size:=length_toList;omega
theorem QkE(x:Str)(j:Int)(h:0<=j):((VQ x none (some j)).length:Int)=min j x.length:=by show((ZE x.cps.toList none (some j)).toArray.size:Int)=_;rw[size_toArray];unfold ZE Yh;have:x.cps.toList.length=x.length:=length_toList;rw[length_take,length_drop,this];simp only[];rw[if_neg (by omega)];omega
theorem Qfv{x:Str}(h:x.length<=lI)(lo hi:Option Int):ZF (.str x) lo hi=some (.str (VQ x lo hi)):=if_pos h
theorem Qoh{x:Str}(h:x.length<=lI):D.strip (.str x)=some (.str (Txt.strip x)):=if_pos h
theorem QeP(x:Str)(n:Int):(YS x n).length=n.toNat*x.length:=by show(List.replicate n.toNat x.cps.toList).flatten.toArray.size=_;rw[size_toArray,List.length_flatten,List.map_replicate,List.sum_replicate_nat];rfl
theorem Qgo{x:Str}{n:Int}(h:-1073741824<n/\n<1073741824/\x.length*n.toNat<=lI):D.mulA (.str x) (.int n)=some (.str (YS x n)):=if_pos h
def QeG(k:Nat)(l:Str):Prop:=l=""\/l=lab k
def Qoc(k:Nat):At->Prop|.brk=>True|.fin=>False|.bk (.chapter t l)=>(1<=t.length/\t.length<=41)/\QeG k l|.bk (.heading t n l)=>(1<=t.length/\t.length<=41)/\(0<=n/\n<=29)/\QeG k l|.bk (.table rs l)=>(1<=rs.length/\rs.length<=30)/\(∀r∈rs,r.length<=40)/\QeG k l|.bk (.plates n l)=>(1<=n/\n<=10^39)/\QeG k l|.bk (.para _)=>False|.it (.mark l)=>l=lab k|.it (.key w)=>1<=w.length/\w.length<=80|.it (.ref l a b)=>l=""/\a.length<=2/\b.length<=2|.it (.word w ns)=>(1<=w.length/\w.length<=40)/\ns.length<=30/\∀r∈ns,r.length<=40
theorem QqA(k:Nat)(p:Prop)[Decidable p]:QeG k (if p then Str.ofString ""else lab k):=by
 by_cases h:p;·rw[if_pos h];exact .inl rfl
 ·rw[if_neg h];exact .inr rfl
theorem Qts(z:Int){j:Int}(h:0<j):∃x:Nat,z%j=(x:Int)/\(x:Int)<j:=⟨(z%j).toNat,by have:=emod_nonneg z (show j≠0 by omega);omega,by have:=emod_lt_of_pos z h;have:=emod_nonneg z (show j≠0 by omega);omega⟩
theorem QrL(n:Int)(h:0<=n/\n<=1000):D.rng (.int n)=some (rD 0 n.toNat):=if_pos (by omega)
theorem VJ(m:Nat)(h:m<=100000):D.rng (.int m)=some ((List.range m).map λi:Nat=>D.int (0+(i:Int))):=by show(if(m:Int).natAbs<4611686018427387904 then some (rD 0 (m:Int).toNat)else none)=_;rw[if_pos (by omega)];rfl
theorem add_int(x y:Int):D.add (.int x) (.int y)=some (.int (x+y)):=rfl
theorem QfC{a:Nat}(h:a<=1000000):1+a<=lI:=le_trans (Nat.add_le_add_left h 1) (by decide)
theorem lB{a:Nat}(h:a<=1000000):a<=lI:=le_trans h (by decide)
theorem QkG(c:Int)(k:Nat)(hk:k<58):∃a,VM [.int c,.int k]=some a.d/\Qoc k a:=by
 obtain⟨kk,ek⟩:∃kk:Int,(k:Int)=kk:=⟨_,rfl⟩;obtain⟨n,en⟩:∃n:Int,mix c (kk+20)=n:=⟨_,rfl⟩;have n0:0<=n:=en▸Vv _ _;have n1:n<2147483629:=en▸Qsc _ _;have hm:Zr [.int c,.int (kk+20)]=some (.int n):=en▸QaS c (kk+20) (by omega) (by omega);obtain⟨kd,mf,kd0,kd1⟩:=Qc3 n (show(0:Int)<17 by decide);obtain⟨sz,iQ,sz0,sz1⟩:∃sz:Nat,1+n/17%(if decide (n/187%9=4)then(40:Int)else 11)=(sz:Int)/\1<=sz/\sz<=40:=by
  cases decide (n/187%9=4);·exact⟨(1+n/17%11).toNat,by simp;omega,by omega,by omega⟩
  ·exact⟨(1+n/17%40).toNat,by simp;omega,by omega,by omega⟩
 obtain⟨mn,iT,mn0,mn1⟩:∃mn:Int,1+n/97%(if decide (n/1009%11=5)then(30:Int)else 4)=mn/\1<=mn/\mn<=30:=by
  cases decide (n/1009%11=5);·exact⟨(1+n/97%4),by simp,by omega,by omega⟩
  ·exact⟨(1+n/97%30),by simp,by omega,by omega⟩
 have km:D.mod (.int (n/17)) (.int (if decide (n/187%9=4)then(40:Int)else 11))=some (.int (n/17%(if decide (n/187%9=4)then(40:Int)else 11))):=QaL (by split<;>omega);have kl:D.mod (.int (n/97)) (.int (if decide (n/1009%11=5)then(30:Int)else 4))=some (.int (n/97%(if decide (n/1009%11=5)then(30:Int)else 4))):=QaL (by split<;>omega);obtain⟨tx,jV,tl⟩:∃tx,YC [.int (n/17),.int sz,.int 1]=some (.str tx)/\tx.length=sz:=⟨_,QeH (n/17) 1 sz (by omega) (.inr rfl) (by omega),Qb3 _ _ _⟩;obtain⟨wd,jU,wl⟩:∃tx,YC [.int (n/19),.int sz,.int 0]=some (.str tx)/\tx.length=sz:=⟨_,QeH (n/19) 0 sz (by omega) (.inl rfl) (by omega),Qb3 _ _ _⟩;have jC:Qau [.int kk]=some (.str (lab k)):=ek▸Qsh k hk;obtain⟨nm,jW,eZ⟩:∃nm,(if n/1009%2=0 then Str.ofString ""else lab k)=nm/\QeG k nm:=⟨_,rfl,QqA _ _⟩;rw[ek];unfold VM QgA;refine exD (dd:=At.d) rfl ?_;refine YT (e1:=[some (.int c),some (.int kk),some (.int n),none,none,none,none,none,none,none]) (by simp[sD,sQ,sIf,Qj,Qe,sNx,gS,eV,eC,eOp,eUn,Jg,Qz,eOr,Qi,Qf,eK,lN,lC,D.lt,D.sub,D.eqO,D.cmp,Qp,QN,QT,QD,Qy,QM,QG,QE,hm,add_int]) ?_;refine YT (e1:=[some (.int c),some (.int kk),some (.int n),some (.int kd),none,none,none,none,none,none]) (by simp[sD,sQ,sIf,Qj,Qe,sNx,gS,eV,eC,eOp,eUn,Jg,Qz,eOr,Qi,Qf,eK,lN,lC,D.lt,D.sub,D.eqO,D.cmp,Qp,QN,QT,QD,Qy,QM,QG,QE,Ju,mf]) ?_;refine YT (e1:=[some (.int c),some (.int kk),some (.int n),some (.int kd),some (.int sz),none,none,none,none,none]) (by by_cases z:n/187%9=4<;>simp[z]at iQ<;>simp[QE,Jh,ZF,lI,QO,sD,sQ,sIf,Qj,Vi,Qe,Vt,Vj,sNx,Qal,Vs,gS,Q4,ZI,eV,eC,eOp,eUn,Jg,Qz,eOr,eIf,JO,Qi,Qf,eK,lN,lC,Za,oNo,oAt,Vl,D.len,D.lt,D.le,D.gt,D.ge,D.add,D.sub,D.ix,D.eqO,D.neO,D.cmp,D.cmpN,D.inst,tyD,D.isT,D.intB,D.min2,D.max2,D.neg,D.addI,Qp,ZO,ZR,Ze,QN,QT,ZN,ZM,JU,Zd,ZS,ZT,Zf,Zh,ZQ,Jl,J4,Yb,QD,Qy,Jw,Q2,QW,QQ,D.rng,D.its,D.itsT,QM,Vk,QG,JG,JH,Jv,JJ,Z6,Ju,z,ixD,iQ]) ?_;refine YT (e1:=[some (.int c),some (.int kk),some (.int n),some (.int kd),some (.int sz),some (.int mn),none,none,none,none]) (by by_cases z:n/1009%11=5<;>simp[z]at iT<;>simp[QE,Jh,ZF,lI,QO,sD,sQ,sIf,Qj,Vi,Qe,Vt,Vj,sNx,Qal,Vs,gS,Q4,ZI,eV,eC,eOp,eUn,Jg,Qz,eOr,eIf,JO,Qi,Qf,eK,lN,lC,Za,oNo,oAt,Vl,D.len,D.lt,D.le,D.gt,D.ge,D.add,D.sub,D.ix,D.eqO,D.neO,D.cmp,D.cmpN,D.inst,tyD,D.isT,D.intB,D.min2,D.max2,D.neg,D.addI,Qp,ZO,ZR,Ze,QN,QT,ZN,ZM,JU,Zd,ZS,ZT,Zf,Zh,ZQ,Jl,J4,Yb,QD,Qy,Jw,Q2,QW,QQ,D.rng,D.its,D.itsT,QM,Vk,QG,JG,JH,Jv,JJ,Z6,Ju,z,ixD,iT]) ?_;refine YT (e1:=[some (.int c),some (.int kk),some (.int n),some (.int kd),some (.int sz),some (.int mn),some (.str tx),none,none,none]) (by simp[sD,sQ,sIf,Qj,Qe,sNx,gS,eV,eC,eOp,eUn,Jg,Qz,eOr,Qi,Qf,eK,lN,lC,D.lt,D.sub,D.eqO,D.cmp,Qp,QN,QT,QD,Qy,QM,QG,QE,Z6,jV]) ?_;refine YT (e1:=[some (.int c),some (.int kk),some (.int n),some (.int kd),some (.int sz),some (.int mn),some (.str tx),some (.str wd),none,none]) (by simp[sD,sQ,sIf,Qj,Qe,sNx,gS,eV,eC,eOp,eUn,Jg,Qz,eOr,Qi,Qf,eK,lN,lC,D.lt,D.sub,D.eqO,D.cmp,Qp,QN,QT,QD,Qy,QM,QG,QE,Z6,jU]) ?_;refine YT (e1:=[some (.int c),some (.int kk),some (.int n),some (.int kd),some (.int sz),some (.int mn),some (.str tx),some (.str wd),some (.str (lab k)),none]) (by simp[sD,sQ,sIf,Qj,Qe,sNx,gS,eV,eC,eOp,eUn,Jg,Qz,eOr,Qi,Qf,eK,lN,lC,D.lt,D.sub,D.eqO,D.cmp,Qp,QN,QT,QD,Qy,QM,QG,QE,jC]) ?_;refine YT (e1:=[some (.int c),some (.int kk),some (.int n),some (.int kd),some (.int sz),some (.int mn),some (.str tx),some (.str wd),some (.str (lab k)),some (.str (lab k))]) (by simp[sD,sQ,sIf,Qj,Qe,sNx,gS,eV,eC,eOp,eUn,Jg,Qz,eOr,Qi,Qf,eK,lN,lC,D.lt,D.sub,D.eqO,D.cmp,Qp,QN,QT,QD,Qy,QM,QG,QE]) ?_;refine YT (e1:=[some (.int c),some (.int kk),some (.int n),some (.int kd),some (.int sz),some (.int mn),some (.str tx),some (.str wd),some (.str (lab k)),some (.str nm)]) (by by_cases z:n/1009%2=0<;>simp[sD,sQ,sIf,Qj,Qe,sNx,gS,eV,eC,eOp,eUn,Jg,Qz,eOr,Qi,Qf,eK,lN,lC,D.lt,D.sub,D.eqO,D.cmp,Qp,QN,QT,QD,Qy,QM,QG,QE,Z6,Ju,z,<-jW]) ?_;clear hm jV jU jC km kl jW iQ iT;have hS:tx.length<=lI:=lB (by omega);have hW:wd.length<=lI:=lB (by omega);have sT:=Qoh hS;have sL:(Txt.strip tx).length<=40:=le_trans (PyProof.Rows.len_strip tx) (by omega);have o0:D.ix (.str wd) (.int 0)=some (.str (Qa2 wd 0)):=ixS (by decide) (by omega) hW;have aT:D.add (.str (Qa2 wd 0)) (.str (Txt.strip tx))=some (.str (Qa2 wd 0++Txt.strip tx)):=Qn8 (by rw[Qim];exact lB (by omega));have lT:(Qa2 wd 0++Txt.strip tx).length=1+(Txt.strip tx).length:=by rw[Qkm,Qim]
 by_cases z:kd=0;·exact⟨.bk (.chapter (Qa2 wd 0++Txt.strip tx) nm),stR (ifT (opE rfl rfl (eqT z)) (ret (Qaj rfl (opE (opE rfl rfl o0) (unE rfl sT) aT) rfl))),⟨by omega,eZ⟩⟩
 refine YT (ifF (opE rfl rfl (eqF z)) rfl) ?_;by_cases z:kd=1;·exact⟨.bk (.heading (Qa2 wd 0++Txt.strip tx) (mn-1) nm),stR (ifT (opE rfl rfl (eqT z)) (ret (Qbn rfl (opE (opE rfl rfl o0) (unE rfl sT) aT) rfl rfl))),⟨by omega,by omega,eZ⟩⟩
 refine YT (ifF (opE rfl rfl (eqF z)) rfl) ?_;obtain⟨m,em⟩:∃m:Nat,mn=m:=⟨mn.toNat,by omega⟩;by_cases z:kd=2
 ·refine⟨.bk (.table ((List.range m).map λi:Nat=>VQ tx none (some (if(sz:Int)-(0+(i:Int))>0 then(sz:Int)-(0+(i:Int))else 0))) nm),stR (ifT (opE rfl rfl (eqT z)) (ret (Qaj rfl ?_ rfl))),⟨by simp;omega,?_,eZ⟩⟩
  ·rw[JL (g:=gS 0) (n:=1) (caps:=[6,4]) (λi:Nat=>D.int (0+(i:Int))) (List.range m) (λe=>∃v,e=[v,some (.str tx),some (.int sz)]) (λ_=>true) (λi:Nat=>.str (VQ tx none (some (if(sz:Int)-(0+(i:Int))>0 then(sz:Int)-(0+(i:Int))else 0)))) (by show D.rng (.int mn)=_;rw[em];exact VJ m (by omega)) (lB (by simp;omega)) ⟨none,rfl⟩ (by
    rintro i hi e⟨v,rfl⟩;exact⟨[some (.int (0+(i:Int))),some (.str tx),some (.int sz)],rfl,⟨_,rfl⟩,rfl,λ_=>Qch rfl rfl (atE (opE rfl (opE rfl rfl rfl) rfl)) (Qfv hS _ _)⟩)];rw[Zt];unfold Qd;rw[map_map];rfl
  ·intro r hr;obtain⟨i,_,rfl⟩:=List.mem_map.mp hr;exact le_trans (QiM _ _ _) (by omega)
 refine YT (ifF (opE rfl rfl (eqF z)) rfl) ?_;by_cases z:kd=3
 ·obtain⟨p,ep,p0,p1⟩:=QmY c n n0;exact⟨.bk (.plates p nm),stR (ifT (opE rfl rfl (eqT z)) (ret (Qaj rfl (JV rfl rfl ep) rfl))),⟨⟨p0,p1⟩,eZ⟩⟩
 refine YT (ifF (opE rfl rfl (eqF z)) rfl) ?_;by_cases z:kd=4;·exact⟨.brk,stR (ifT (opE rfl rfl (eqT z)) (ret rfl)),trivial⟩
 refine YT (ifF (opE rfl rfl (eqF z)) rfl) ?_;by_cases z:kd<7;·exact⟨.it (.mark (lab k)),stR (ifT (opE rfl rfl (ltT z)) (ret rfl)),rfl⟩
 refine YT (ifF (opE rfl rfl (ltF z)) rfl) ?_;by_cases z:kd=7
 ·have q0:0<=n/97%80/\n/97%80<80:=by omega
  have mw:D.mulA (.str wd) (.int 9)=some (.str (YS wd 9)):=Qgo ⟨by decide,by decide,lB (by show wd.length*9<=_;omega)⟩;have ml:(YS wd 9).length=9*wd.length:=QeP wd 9;have ch:=QkE (YS wd 9) (1+n/97%80) (by omega);have mc:=Qfv (x:=YS wd 9) (lB (by omega)) none (some (1+n/97%80));exact⟨.it (.key (VQ (YS wd 9) none (some (1+n/97%80)))),stR (ifT (opE rfl rfl (eqT z)) (ret (Yg rfl (Qch (opE rfl rfl mw) rfl (atE (opE rfl (opE (opE rfl rfl (Z6 n (by decide))) rfl (Ju _ (by decide))) rfl)) mc)))),⟨by omega,by omega⟩⟩
 refine YT (ifF (opE rfl rfl (eqF z)) rfl) ?_;by_cases z:kd<12
 ·obtain⟨m,em,lm⟩:=Qts (n/291) (show(0:Int)<3 by decide);obtain⟨w2,e2,l2⟩:∃tx,YC [.int (n/23),.int m,.int 0]=some (.str tx)/\tx.length=m:=⟨_,QeH (n/23) 0 m (by omega) (.inl rfl) (by omega),Qb3 _ _ _⟩;have q0:0<=n/97%3/\n/97%3<3:=by omega
  have ch:=QkE wd (n/97%3) (by omega);have mc:=Qfv hW none (some (n/97%3));exact⟨.it (.ref "" (VQ wd none (some (n/97%3))) w2),stR (ifT (opE rfl rfl (ltT z)) (ret (Qbn rfl rfl (Qch rfl rfl (atE (opE (opE rfl rfl (Z6 n (by decide))) rfl (Ju _ (by decide)))) mc) (Vo (opE rfl rfl (Z6 n (by decide))) (opE (opE rfl rfl (Z6 n (by decide))) rfl ((Ju _ (by decide)).trans (by rw[em]))) rfl e2)))),⟨rfl,by omega,by omega⟩⟩
 refine YT (ifF (opE rfl rfl (ltF z)) rfl) ?_;by_cases z:kd=12
 ·refine⟨.it (.word wd ((List.range m).map λi:Nat=>VQ tx (some (0+(i:Int))) none)),stR (ifT (opE rfl rfl (eqT z)) (ret (Qaj rfl rfl ?_))),⟨by omega,by simp;omega,?_⟩⟩
  ·rw[JL (g:=gS 0) (n:=1) (caps:=[6]) (λi:Nat=>D.int (0+(i:Int))) (List.range m) (λe=>∃v,e=[v,some (.str tx)]) (λ_=>true) (λi:Nat=>.str (VQ tx (some (0+(i:Int))) none)) (by show D.rng (.int mn)=_;rw[em];exact VJ m (by omega)) (lB (by simp;omega)) ⟨none,rfl⟩ (by rintro i hi e⟨v,rfl⟩;exact⟨[some (.int (0+(i:Int))),some (.str tx)],rfl,⟨_,rfl⟩,rfl,λ_=>Qch rfl (atE rfl) rfl (Qfv hS _ _)⟩)];rw[Zt];unfold Qd;rw[map_map];rfl
  ·intro r hr;obtain⟨i,_,rfl⟩:=List.mem_map.mp hr;exact le_trans (QiM _ _ _) (by omega)
 refine YT (ifF (opE rfl rfl (eqF z)) rfl) ?_;exact⟨.it (.word wd []),ret rfl,⟨by omega,by simp,λr hr=>by cases hr⟩⟩
theorem Qaw{α:Type}{f:α->D}{n:Nat}(h:∀a,(f a).dep<=n):∀xs:List α,D.depL (xs.map f)<=n|[]=>by rw[map_nil,QW];exact zero_le _|x::xs=>by rw[map_cons,QQ];exact Nat.max_le.mpr ⟨h x,Qaw h xs⟩
theorem QiG(xs:List Str):(Qd xs).dep<=1:=by unfold Qd;rw[Q2];exact succ_le_succ (Qaw (λa=>by rw[Qy];exact zero_le _) xs)
theorem Qh3(i:It):i.d.dep<=2:=by cases i with|word w ns=>have:=QiG ns;simp only[It.d,Jw,QQ,QW,Qy];omega|_=>simp[Jw,QQ,QW,Qy]
theorem QqW(is:List It):(D.lst (is.map It.d)).dep<=3:=by rw[Q2];exact succ_le_succ (Qaw Qh3 is)
theorem Qmt(b:Bk):b.d.dep<=4:=by cases b with|para is=>have:=QqW is;simp only[Bk.d,Jw,QQ,QW,Qy];omega|table rs l=>have:=QiG rs;simp only[Bk.d,Jw,QQ,QW,Qy];omega|_=>simp[Jw,QQ,QW,Qy,QD]
theorem QqX(bs:List Bk):(bks bs).dep<=5:=by unfold bks;rw[Q2];exact succ_le_succ (Qaw Qmt bs)
theorem Qft(x:D)(xs:List D):D.eqL (x::xs) []=some false:=by rw[D.eqL];all_goals simp
theorem QpN{α:Type}{f:α->D}{n:Nat}(h:∀a,(f a).dep<=n)(hn:n<=39)(xs:List α):D.eqO (.lst (xs.map f)) (.lst [])=some (.bl xs.isEmpty):=by unfold D.eqO;rw[if_pos (by rw[Q2];have:=Qaw h xs;omega),JH];cases xs with|nil=>rw[map_nil,Jv];rfl|cons x xs=>rw[map_cons,Qft];rfl
theorem QpA{α:Type}{f:α->D}{n:Nat}(h:∀a,(f a).dep<=n)(hn:n<=39)(xs:List α):D.neO (.lst (xs.map f)) (.lst [])=some (.bl (!xs.isEmpty)):=by unfold D.neO;rw[if_pos (by rw[Q2];have:=Qaw h xs;omega),JH];cases xs with|nil=>rw[map_nil,Jv];rfl|cons x xs=>rw[map_cons,Qft];rfl
theorem Qfw{α:Type}{f:α->D}{xs:List α}(x:α)(h:xs.length<lI):D.app (.lst (xs.map f)) (f x)=some (.lst ((xs++[x]).map f)):=by show(if(xs.map f).length<lI then some (D.lst (xs.map f++[f x]))else none)=_;rw[if_pos (by rw[length_map];exact h),map_append];rfl
theorem Qsp(l:List D)(x:D):D.ix (.lst (l++[x])) (.int (-1))=some x:=by
 show(ixD (l++[x]).length (-1)).bind (λk=>(l++[x])[k]?)=_;have:ixD (l++[x]).length (-1)=some l.length:=by
  unfold ixD;rw[if_neg (by decide),if_pos (by simp only[length_append,length_cons,length_nil];omega),length_append];congr 1;show((-1:Int)+((l.length+1:Nat):Int)).toNat=_;omega
 rw[this];show(l++[x])[l.length]?=_;simp
theorem Qdd{α:Type}(f:α->D):∀(xs:List α)(n:Nat),VE n (xs.map f)=(xs.zipIdx n).map λp=>D.tup [.int p.2,f p.1]|[],n=>rfl|x::xs,n=>by show D.tup [.int n,f x]::VE (n+1) (xs.map f)=_;rw[Qdd f xs (n+1),zipIdx_cons,map_cons]
theorem Qbs{a:Nat}(h:a<=1000000):a<lI:=Nat.lt_of_le_of_lt h (by decide)
noncomputable def Q9:At->List Str|.it (.mark l)=>[l]|.bk (.chapter _ l)=>if l=""then[]else[l]|.bk (.heading _ _ l)=>if l=""then[]else[l]|.bk (.table _ l)=>if l=""then[]else[l]|.bk (.plates _ l)=>if l=""then[]else[l]|_=>[]
theorem QlE(a:At):(Q9 a).length<=1:=by unfold Q9;split<;>first|(split<;>simp)|simp
def Z0(as:List At):List Str:=as.flatMap Q9
theorem Qiu(as:List At):(Z0 as).length<=as.length:=by induction as with|nil=>exact le_refl _|cons a as ih=>show((a::as).flatMap Q9).length<=_;rw[flatMap_cons,length_append,length_cons];have:=QlE a;have:(as.flatMap Q9).length<=as.length:=ih;omega
theorem Qnh(as:List At)(i:Nat)(hi:i<as.length):Z0 (as.take (i+1))=Z0 (as.take i)++Q9 as[i]:=by unfold Z0;rw[take_succ_eq_append_getElem hi,flatMap_append];simp
def pt(ls:List Str)(cs:List Int)(i:Nat):At->At|.it (.ref l a b)=>if ls=[]then .it (.word "lost" [])else .it (.ref (ls.getD (mix (cs.getD i 0) (i+90)%ls.length).toNat "") a b)|a=>a
def Q1(cs:List Int)(as:List At):List At:=as.mapIdx λi a=>pt (Z0 as) cs i a
noncomputable def AtS:At->Prop|.bk (.para _)=>False|.fin=>False|_=>True
theorem Qf9{α:Type}{f:α->D}(xs:List α)(i:Int)(d:α)(h:0<=i)(h':i<xs.length):D.ix (.lst (xs.map f)) (.int i)=some (f (xs.getD i.toNat d)):=by show(ixD (xs.map f).length i).bind (λk=>(xs.map f)[k]?)=_;unfold ixD;rw[if_pos h,if_pos (by rw[length_map];exact h')];show(xs.map f)[i.toNat]?=_;rw[getElem?_map,getD_eq_getElem?_getD,getElem?_eq_getElem (by omega)];rfl
theorem QkH{xs:List Str}(x:Str)(h:xs.length<lI):D.app (Qd xs) (.str x)=some (Qd (xs++[x])):=Qfw (f:=D.str) x h
theorem Qap(xs:List Str):D.len (Qd xs)=some (.int xs.length):=by show some (D.int (xs.map D.str).length)=_;rw[length_map]
theorem Qsx(xs:List Str):D.eqO (Qd xs) (.lst [])=some (.bl xs.isEmpty):=QpN (f:=D.str) (n:=0) (λa=>by rw[Qy];exact le_refl _) (by decide) xs
theorem Qso(xs:List Str)(i:Int)(h:0<=i)(h':i<xs.length):D.ix (Qd xs) (.int i)=some (.str (xs.getD i.toNat "")):=Qf9 (f:=D.str) xs i "" h h'
theorem Qlp(as:List At)(cs:List Int)(hl:as.length=cs.length)(h58:as.length<=100)(hs:∀a∈as,AtS a):Qbe [.lst (as.map At.d),.lst (cs.map .int)]=some (.lst ((Q1 cs as).map At.d)):=by
 unfold Qbe Qdu;refine stD rfl ?_;refine st (e1:=[some (.lst (as.map At.d)),some (.lst (cs.map .int)),some (Qd []),none,none,none,none]) (by simp[sD,sQ,sIf,Qj,Qe,sNx,gS,eV,eC,eOp,eUn,Jg,Qz,eOr,Qi,Qf,eK,lN,lC,D.lt,D.sub,D.eqO,D.cmp,Qp,QN,QT,QD,Qy,QM,QG,QE,Qd]) ?_;refine Qff At.d as (λi e=>∃v,e=[some (.lst (as.map At.d)),some (.lst (cs.map .int)),some (Qd (Z0 (as.take i))),v,none,none,none]) rfl ⟨none,rfl⟩ ?_ ?_
 ·rintro i hi e⟨v,rfl⟩;have hb:(Z0 (as.take i)).length<lI:=Qbs (le_trans (Qiu _) (by rw[length_take];omega));have ha:=hs as[i] (getElem_mem hi);rw[Qnh as i hi];have ap:=λx=>QkH x hb;generalize as[i]=a at*;generalize Z0 (as.take i)=ls at*;refine⟨_,.inl ?_,some a.d,rfl⟩;refine bnd (e1:=[some (.lst (as.map At.d)),some (.lst (cs.map .int)),some (Qd ls),some a.d,none,none,none]) rfl ?_;have neS:∀x y:Str,D.neO (.str x) (.str y)=some (.bl (decide (x≠y))):=λx y=>by by_cases h:x=y<;>simp[D.neO,Qy,QG,D.cmpN,h]
  have gU:∀(d:D)(t l:Str),D.ix d (.int 0)=some (.str t)->D.ix d (.int (-1))=some (.str l)->t≠"mark"->D.notInO (.str t) (.lst [.str "break",.str "word",.str "key",.str "ref"])=some (.bl true)->sIf (eOp D.eqO (eOp D.ix (eV 3) (eC (.int 0))) (eC (.str "mark"))) (sP 2 (eOp D.ix (eV 3) (eC (.int 1)))) (sIf (Qz (eOp D.notInO (eOp D.ix (eV 3) (eC (.int 0))) (Qf (lC (eC (.str "break")) (lC (eC (.str "word")) (lC (eC (.str "key")) (lC (eC (.str "ref")) lN)))))) (eOp D.neO (eOp D.ix (eV 3) (eUn D.neg (eC (.int 1)))) (eC (.str "")))) (sP 2 (eOp D.ix (eV 3) (eUn D.neg (eC (.int 1))))) (sNx)) [some (.lst (as.map At.d)),some (.lst (cs.map .int)),some (Qd ls),some d,none,none,none]=some (.nx [some (.lst (as.map At.d)),some (.lst (cs.map .int)),some (Qd (ls++if l=""then[]else[l])),some d,none,none,none]):=by
   intro d t l h0 h1 hm h4;refine ifF (opE (opE rfl rfl h0) rfl (by rw[eqS,decide_eq_false hm])) ?_;by_cases z:l="";·rw[if_pos z,append_nil];exact ifF (JM (opE (opE rfl rfl h0) rfl h4) (opE (opE rfl (unE rfl rfl) h1) rfl (by rw[neS,decide_eq_false (λq=>q z)]))) rfl
   ·rw[if_neg z];exact ifT (JM (opE (opE rfl rfl h0) rfl h4) (opE (opE rfl (unE rfl rfl) h1) rfl (by rw[neS,decide_eq_true z]))) (Qge rfl (opE rfl (unE rfl rfl) h1) (ap l))
  have gD:∀(d:D)(t:Str),D.ix d (.int 0)=some (.str t)->t≠"mark"->D.notInO (.str t) (.lst [.str "break",.str "word",.str "key",.str "ref"])=some (.bl false)->sIf (eOp D.eqO (eOp D.ix (eV 3) (eC (.int 0))) (eC (.str "mark"))) (sP 2 (eOp D.ix (eV 3) (eC (.int 1)))) (sIf (Qz (eOp D.notInO (eOp D.ix (eV 3) (eC (.int 0))) (Qf (lC (eC (.str "break")) (lC (eC (.str "word")) (lC (eC (.str "key")) (lC (eC (.str "ref")) lN)))))) (eOp D.neO (eOp D.ix (eV 3) (eUn D.neg (eC (.int 1)))) (eC (.str "")))) (sP 2 (eOp D.ix (eV 3) (eUn D.neg (eC (.int 1))))) (sNx)) [some (.lst (as.map At.d)),some (.lst (cs.map .int)),some (Qd ls),some d,none,none,none]=some (.nx [some (.lst (as.map At.d)),some (.lst (cs.map .int)),some (Qd (ls++[])),some d,none,none,none]):=by intro d t h0 hm h4;rw[append_nil];exact ifF (opE (opE rfl rfl h0) rfl (by rw[eqS,decide_eq_false hm])) (ifF (J6 (opE (opE rfl rfl h0) rfl h4)) rfl)
  cases a with
  |bk b=>cases b with
   |para is=>exact ha.elim|chapter t l=>exact gU _ "chapter" l rfl rfl (by simp) (by rfl)|heading t n l=>exact gU _ "heading" l rfl rfl (by simp) (by rfl)|table rs l=>exact gU _ "table" l rfl rfl (by simp) (by rfl)|plates n l=>exact gU _ "plates" l rfl rfl (by simp) (by rfl)
  |it x=>cases x with
   |mark l=>exact ifT (opE (opE (x:=(It.mark l).d) rfl rfl rfl) rfl (by rw[eqS];simp)) (Qge rfl (opE (x:=(It.mark l).d) rfl rfl rfl) (ap l))|word w ns=>exact gD _ "word" rfl (by simp) (by rfl)|key w=>exact gD _ "key" rfl (by simp) (by rfl)|ref l a b=>exact gD _ "ref" rfl (by simp) (by rfl)
  |brk=>exact gD _ "break" rfl (by simp) (by rfl)|fin=>exact ha.elim
 ·rintro e⟨v,rfl⟩;rw[take_length];have hb:(Z0 as).length<=as.length:=Qiu as;have i4:∀i(hi:i<as.length)(hp:i<(Q1 cs as).length),(Q1 cs as)[i]=pt (Z0 as) cs i as[i]:=by intro i hi hp;simp only[Q1,List.getElem_mapIdx]
  have iZ:(Q1 cs as).length=as.length:=by unfold Q1;simp
  generalize Q1 cs as=ps at*;generalize Z0 as=ls at*;refine st (e1:=[some (.lst (as.map At.d)),some (.lst (cs.map .int)),some (Qd ls),v,some (.lst []),none,none]) (by simp[sD,sQ,sIf,Qj,Qe,sNx,gS,eV,eC,eOp,eUn,Jg,Qz,eOr,Qi,Qf,eK,lN,lC,D.lt,D.sub,D.eqO,D.cmp,Qp,QN,QT,QD,Qy,QM,QG,QE]) ?_;refine Qff (λp:At×Nat=>D.tup [.int p.2,p.1.d]) as.zipIdx (λi e=>∃v w x,e=[some (.lst (as.map At.d)),some (.lst (cs.map .int)),some (Qd ls),v,some (.lst ((ps.take i).map At.d)),w,x]) (by show some (VE 0 (as.map At.d))=_;rw[Qdd]) ⟨v,none,none,rfl⟩ ?_ ?_
  ·rintro i hi e⟨v,w,x,rfl⟩;have cA:i<as.length:=by simpa using hi
   have jK:i<ps.length:=by omega
   have ei:as.zipIdx[i]=(as[i],i):=by simp
   rw[ei,take_succ_eq_append_getElem jK,i4 i cA jK];have ap:∀x:At,D.app (.lst ((ps.take i).map At.d)) x.d=some (.lst ((ps.take i++[x]).map At.d)):=λx=>Qfw x (Qbs (by rw[length_take];omega));have mx:∃m:Int,mix (cs.getD i 0) ((i:Int)+90)=m/\Zr [.int (cs.getD i 0),.int ((i:Int)+90)]=some (.int m)/\0<=m:=⟨_,rfl,QaS _ _ (by omega) (by omega),Vv _ _⟩;have cx:D.ix (.lst (cs.map .int)) (.int i)=some (.int (cs.getD i 0)):=Qf9 (f:=D.int) cs i 0 (by omega) (by omega);have ha:=hs as[i] (getElem_mem cA);obtain⟨m,em,mm,m0⟩:=mx;have hp:∀l a b,pt ls cs i (.it (.ref l a b))=if ls=[]then .it (.word "lost" [])else .it (.ref (ls.getD (m%ls.length).toNat "") a b):=by intro l a b;rw[<-em];rfl
   have i90:(i:Int)+90=(i:Int)+90:=rfl;generalize hq:pt ls cs i as[i]=q;generalize as[i]=a at*;generalize cs.getD i 0=c at*;generalize ps.take i=qs at*;obtain⟨j,ej⟩:∃j:Int,(i:Int)=j:=⟨_,rfl⟩;rw[ej]at mm cx;simp only[];rw[ej];have oth:∀(d z:D)(t:Str),D.ix d (.int 0)=some (.str t)->t≠"ref"->D.app (.lst (qs.map At.d)) d=some z->sIf (Qz (eOp D.eqO (eOp D.ix (eV 3) (eC (.int 0))) (eC (.str "ref"))) (eOp D.eqO (eV 2) (Qf (lN)))) (sP 4 (Qi (lC (eC (.str "word")) (lC (eC (.str "lost")) (lC (Qf (lN)) lN))))) (sIf (eOp D.eqO (eOp D.ix (eV 3) (eC (.int 0))) (eC (.str "ref"))) (sQ (Qe (eOp D.ix (eV 2) (eOp D.mod (eK Zr (lC (eOp D.ix (eV 1) (eV 5)) (lC (eOp D.add (eV 5) (eC (.int 90))) lN))) (eUn D.len (eV 2)))) (gS 6)) (sP 4 (Qi (lC (eC (.str "ref")) (lC (eV 6) (lC (eOp D.ix (eV 3) (eC (.int 2))) (lC (eOp D.ix (eV 3) (eC (.int 3))) lN))))))) (sP 4 (eV 3))) [some (.lst (as.map At.d)),some (.lst (cs.map .int)),some (Qd ls),some d,some (.lst (qs.map At.d)),some (.int j),x]=some (.nx [some (.lst (as.map At.d)),some (.lst (cs.map .int)),some (Qd ls),some d,some z,some (.int j),x]):=by
    intro d z t h0 hm hz;exact ifF (J6 (opE (opE rfl rfl h0) rfl (by rw[eqS,decide_eq_false hm]))) (ifF (opE (opE rfl rfl h0) rfl (by rw[eqS,decide_eq_false hm])) (Qge rfl rfl hz))
   cases a with
   |it y=>cases y with
    |ref l a b=>
     have es:D.eqO (.str (Str.ofString "ref")) (.str (Str.ofString "ref"))=some (.bl true):=by rw[eqS];simp
     have t0:D.ix (It.ref l a b).d (.int 0)=some (.str "ref"):=rfl;have eq:=Qsx ls;rw[hp]at hq;cases ls with
     |nil=>rw[if_pos rfl]at hq;subst hq;exact⟨_,.inl (bnd rfl (ifT (JM (opE (opE rfl rfl t0) rfl es) (opE rfl rfl eq)) (Qge rfl rfl (ap (.it (.word "lost" [])))))),some (It.ref l a b).d,some (.int j),x,rfl⟩|cons l0 ls=>
      rw[if_neg (by simp)]at hq;subst hq;have hn:(0:Int)<((l0::ls).length:Int):=by simp only[length_cons];omega
      have md:D.mod (.int m) (.int ((l0::ls).length:Int))=some (.int (m%((l0::ls).length:Int))):=QaL hn;have eX:=Qso (l0::ls) (m%((l0::ls).length:Int)) (emod_nonneg _ (by omega)) (emod_lt_of_pos _ hn);have ln:=Qap (l0::ls);have mE:=ap (.it (.ref ((l0::ls).getD (m%((l0::ls).length:Int)).toNat "") a b));generalize(l0::ls).getD (m%((l0::ls).length:Int)).toNat ""=lx at*;generalize m%((l0::ls).length:Int)=mi at*;generalize((l0::ls).length:Int)=ll at*;have ie:(l0::ls).isEmpty=false:=rfl;rw[ie]at eq;generalize Qd (l0::ls)=LS at*;refine⟨_,.inl ?_,some (It.ref l a b).d,some (.int j),some (.str lx),rfl⟩;refine bnd (e1:=[some (.lst (as.map At.d)),some (.lst (cs.map .int)),some LS,some (It.ref l a b).d,some (.lst (qs.map At.d)),some (.int j),x]) rfl ?_;refine ifF (JM (opE (opE rfl rfl t0) rfl es) (opE rfl rfl eq)) (ifT (opE (opE rfl rfl t0) rfl es) ?_);refine st (e1:=[some (.lst (as.map At.d)),some (.lst (cs.map .int)),some LS,some (It.ref l a b).d,some (.lst (qs.map At.d)),some (.int j),some (.str lx)]) (asg (opE rfl (opE (JV (opE rfl rfl cx) (opE rfl rfl rfl) mm) (unE rfl ln) md) eX) rfl) ?_;exact Qge rfl (Qbn rfl rfl (opE (x:=(It.ref l a b).d) rfl rfl rfl) (opE (x:=(It.ref l a b).d) rfl rfl rfl)) mE
    |word w ns=>subst hq;exact⟨_,.inl (bnd rfl (oth _ _ "word" rfl (by simp) (ap (.it (.word w ns))))),some (It.word w ns).d,some (.int j),x,rfl⟩|mark l=>subst hq;exact⟨_,.inl (bnd rfl (oth _ _ "mark" rfl (by simp) (ap (.it (.mark l))))),some (It.mark l).d,some (.int j),x,rfl⟩|key l=>subst hq;exact⟨_,.inl (bnd rfl (oth _ _ "key" rfl (by simp) (ap (.it (.key l))))),some (It.key l).d,some (.int j),x,rfl⟩
   |bk b=>have c6:q=.bk b:=hq.symm;subst c6;refine⟨_,.inl (bnd rfl ?_),some b.d,some (.int j),x,rfl⟩;cases b with|para is=>exact ha.elim|chapter t l=>exact oth _ _ "chapter" rfl (by simp) (ap (.bk (.chapter t l)))|heading t k l=>exact oth _ _ "heading" rfl (by simp) (ap (.bk (.heading t k l)))|table t l=>exact oth _ _ "table" rfl (by simp) (ap (.bk (.table t l)))|plates t l=>exact oth _ _ "plates" rfl (by simp) (ap (.bk (.plates t l)))
   |brk=>have c6:q=.brk:=hq.symm;subst c6;exact⟨_,.inl (bnd rfl (oth _ _ "break" rfl (by simp) (ap .brk))),some At.brk.d,some (.int j),x,rfl⟩|fin=>exact ha.elim
  ·rintro e⟨v,w,x,rfl⟩;have:as.zipIdx.length=ps.length:=by simp[iZ]
   rw[this,take_length];exact ret rfl
noncomputable def QhQ:It->Bool|.mark _=>true|.key _=>true|_=>false
def Qn(row:List It):List It:=match row.getLast? with|some x=>if QhQ x then row++[.word "end" []]else row|none=>row
def Jy:List Bk×List It->At->List Bk×List It|(bs,row),.it i=>(bs,row++[i])|(bs,row),.bk b=>((if Qn row=[]then bs else bs++[.para (Qn row)])++[b],[])|(bs,row),.brk=>(bs++[.para (Qn row)],[])|(bs,row),.fin=>(if Qn row=[]then bs else bs++[.para (Qn row)],[])
def grp(as:List At):List Bk×List It:=as.foldl Jy ([],[])
theorem Qjp(row:List It):(Qn row).length<=row.length+1:=by
 unfold Qn;split
 ·split;·simp
  ·omega
 ·omega
theorem Qkq(as:List At):∀s:List Bk×List It,(as.foldl Jy s).1.length<=s.1.length+2*as.length/\(as.foldl Jy s).2.length<=s.2.length+as.length:=by induction as with|nil=>intro s;simp|cons a as ih=>
  intro s;obtain⟨h1,h2⟩:=ih (Jy s a);rw[foldl_cons,length_cons];have:(Jy s a).1.length<=s.1.length+2/\(Jy s a).2.length<=s.2.length+1:=by
   obtain⟨bs,row⟩:=s;cases a with
   |it i=>simp[Jy]|bk b=>simp only[Jy];split<;>simp|brk=>simp[Jy]|fin=>simp only[Jy];split<;>simp
  omega
theorem Qpa(as:List At)(i:Nat)(hi:i<as.length):grp (as.take (i+1))=Jy (grp (as.take i)) as[i]:=by unfold grp;rw[take_succ_eq_append_getElem hi,foldl_append];rfl
theorem QrK(row:List It):row=[]\/∃r x,row=r++[x]:=by
 rcases List.eq_nil_or_concat row with h|⟨r,x,h⟩;·exact .inl h
 ·exact .inr ⟨r,x,by rw[h,List.concat_eq_append]⟩
theorem QpB(is:List It):D.neO (.lst (is.map It.d)) (.lst [])=some (.bl (!is.isEmpty)):=QpA Qh3 (by decide) is
theorem Qia{is:List It}(x:It)(h:is.length<lI):D.app (.lst (is.map It.d)) x.d=some (.lst ((is++[x]).map It.d)):=Qfw x h
theorem Qib{is:List Bk}(x:Bk)(h:is.length<lI):D.app (bks is) x.d=some (bks (is++[x])):=Qfw (f:=Bk.d) x h
theorem QeW(A:Option D)(bs:Option D)(row:List It)(h:row.length<lI)(d:D):(sIf (Qz (eOp D.neO (eV 2) (Qf lN)) (eOp D.inO (eOp D.ix (eOp D.ix (eV 2) (eUn D.neg (eC (.int 1)))) (eC (.int 0))) (Qf (lC (eC (.str "mark")) (lC (eC (.str "key")) lN))))) (sP 2 (Qi (lC (eC (.str "word")) (lC (eC (.str "end")) (lC (Qf lN) lN))))) sNx) [A,bs,some (.lst (row.map It.d)),some d]=some (.nx [A,bs,some (.lst ((Qn row).map It.d)),some d]):=by
 have ne:=QpB row;have ap:=Qia (.word "end" []) h;simp only[It.d,Qd,map_nil]at ap;rcases QrK row with z|⟨r,x,z⟩
 ·subst z;simp only[map_nil]at ne;simp[sIf,Qz,eOp,eV,Qf,lN,ne,Qp,sNx,Qn]
 ·have il:D.ix (.lst (row.map It.d)) (.int (-1))=some x.d:=by rw[z,map_append];exact Qsp _ _
  have ie:row.isEmpty=false:=by rw[z];simp
  have cl:Qn row=if QhQ x then row++[.word "end" []]else row:=by unfold Qn;rw[z];simp
  rw[ie]at ne;rw[cl];have i0:∃t:Str,D.ix x.d (.int 0)=some (.str t)/\D.inO (.str t) (.lst [.str (Str.ofString "mark"),.str (Str.ofString "key")])=some (.bl (QhQ x)):=by cases x<;>exact⟨_,rfl,by simp[D.inO,Jp,inD,QG,QhQ]⟩
  obtain⟨t,i0,i1⟩:=i0;generalize row++[It.word "end" []]=iY at*;generalize It.d x=X at*;cases q:QhQ x with
  |true=>
   rw[q]at i1;rw[if_pos rfl];generalize iY.map It.d=R2 at*;generalize row.map It.d=R at*;simp[sIf,Qz,eOp,eV,Qf,lN,lC,eC,eUn,D.neg,ne,il,i0,i1,Qp,sP,Qi,ap]|false=>rw[q]at i1;rw[if_neg (by decide)];generalize row.map It.d=R at*;simp[sIf,Qz,eOp,eV,Qf,lN,lC,eC,eUn,D.neg,ne,il,i0,i1,Qp,sNx]
theorem Qgm(A:D)(bs:List Bk)(row:List It)(h:bs.length<lI)(d:D)(t:Str)(ht:D.ix d (.int 0)=some (.str t)):(sIf (eOr (eOp D.neO (eV 2) (Qf lN)) (eOp D.eqO (eOp D.ix (eV 3) (eC (.int 0))) (eC (.str "break")))) (sP 1 (Qi (lC (eC (.str "para")) (lC (eV 2) lN)))) sNx) [some A,some (bks bs),some (.lst (row.map It.d)),some d]=some (.nx [some A,some (bks (if row=[]/\t≠"break"then bs else bs++[.para row])),some (.lst (row.map It.d)),some d]):=by
 have ne:=QpB row;have ap:=Qib (.para row) h;simp only[Bk.d]at ap;have eb:D.eqO (.str t) (.str (Str.ofString "break"))=some (.bl (decide (t=Str.ofString "break"))):=by simp[D.eqO,Qy,QG,D.cmp]
 cases q:row.isEmpty with
 |true=>
  have z:row=[]:=List.isEmpty_iff.mp q;rw[q]at ne;subst z;simp only[map_nil]at ne ap;by_cases w:t=Str.ofString "break"
  ·rw[if_neg (by simp[w])];rw[w]at eb ht;generalize bks bs=B at*;generalize bks (bs++_)=B2 at*;simp[sIf,eOr,eOp,eV,Qf,lN,lC,eC,ne,ht,eb,Qp,sP,Qi,ap]
  ·rw[if_pos ⟨rfl,w⟩];simp[sIf,eOr,eOp,eV,Qf,lN,lC,eC,ne,ht,eb,w,Qp,sNx]|false=>
  have z:row≠[]:=λz=>by rw[z]at q;cases q
  rw[q]at ne;rw[if_neg (by simp[z])];generalize bks bs=B at*;generalize bks (bs++_)=B2 at*;generalize row.map It.d=R at*;simp[sIf,eOr,eOp,eV,Qf,lN,lC,eC,ne,Qp,sP,Qi,ap]
theorem QlG(as:List At)(mO:as.length<=100)(hs:∀a∈as,AtS a):YI [.lst (as.map At.d)]=some (bks (grp (as++[.fin])).1):=by
 have key:∀xs:List At,xs.length<=101->(∀a∈xs,AtS a\/a=.fin)->D.add (.lst (as.map At.d)) (.lst [At.fin.d])=some (.lst (xs.map At.d))->YI [.lst (as.map At.d)]=some (bks (grp xs).1):=by
  intro xs hx ha gp;unfold YI Qdv;refine stD rfl ?_;refine st (e1:=[some (.lst (as.map At.d)),some (bks []),none,none]) (by simp[sD,sQ,sIf,Qj,Qe,sNx,gS,eV,eC,eOp,eUn,Jg,Qz,eOr,Qi,Qf,eK,lN,lC,D.lt,D.sub,D.eqO,D.cmp,Qp,QN,QT,QD,Qy,QM,QG,QE,bks]) ?_;refine st (e1:=[some (.lst (as.map At.d)),some (bks []),some (.lst []),none]) (by simp[sD,sQ,sIf,Qj,Qe,sNx,gS,eV,eC,eOp,eUn,Jg,Qz,eOr,Qi,Qf,eK,lN,lC,D.lt,D.sub,D.eqO,D.cmp,Qp,QN,QT,QD,Qy,QM,QG,QE]) ?_;refine Qff At.d xs (λi e=>∃v,e=[some (.lst (as.map At.d)),some (bks (grp (xs.take i)).1),some (.lst ((grp (xs.take i)).2.map It.d)),v]) ?_ ⟨none,rfl⟩ ?_ ?_
  ·simp only[At.d]at gp;simp[QC,eOp,eV,Qf,Qi,lC,lN,eC,gp,D.its]
  ·rintro i hi e⟨v,rfl⟩;rw[Qpa xs i hi];have hl:=Qkq (xs.take i) ([],[]);have hb:(grp (xs.take i)).1.length<lI:=Qbs (by have:=hl.1;unfold grp;simp at this;omega);have hr:(grp (xs.take i)).2.length<lI:=Qbs (by have:=hl.2;unfold grp;simp at this;omega);have gJ:(grp (xs.take i)).1.length+1<lI:=Qbs (by have:=hl.1;unfold grp;simp at this;omega);have hAt:=ha xs[i] (getElem_mem hi);generalize xs[i]=a at*;generalize grp (xs.take i)=s at*;obtain⟨bs,row⟩:=s;generalize D.lst (as.map At.d)=AS at*;simp only[]at hb hr gJ⊢;cases a with
   |it x=>
    have ap:=Qia x hr;refine⟨[some AS,some (bks bs),some (.lst ((row++[x]).map It.d)),some x.d],.inr ?_,some x.d,rfl⟩;refine bnd (e1:=[some AS,some (bks bs),some (.lst (row.map It.d)),some x.d]) rfl ?_;have i0:∃t:Str,D.ix x.d (.int 0)=some (.str t)/\D.inO (.str t) (.lst [.str (Str.ofString "mark"),.str (Str.ofString "key"),.str (Str.ofString "ref"),.str (Str.ofString "word")])=some (.bl true):=by cases x<;>exact⟨_,rfl,by simp[D.inO,Jp,inD,QG]⟩
    obtain⟨t,i0,i1⟩:=i0;refine stC ?_;generalize It.d x=X at*;generalize(row++[x]).map It.d=R2 at*;generalize row.map It.d=R at*;simp[sIf,eOp,eV,Qf,lN,lC,eC,i0,i1,Qp,sQ,sP,ap,QN,Vs]|bk b=>
    have i0:∃t:Str,D.ix b.d (.int 0)=some (.str t)/\D.inO (.str t) (.lst [.str (Str.ofString "mark"),.str (Str.ofString "key"),.str (Str.ofString "ref"),.str (Str.ofString "word")])=some (.bl false)/\D.notInO (.str t) (.lst [.str (Str.ofString "break"),.str (Str.ofString "end")])=some (.bl true)/\t≠Str.ofString "break":=by cases b<;>exact⟨_,rfl,by simp[D.inO,Jp,inD,QG],by simp[D.notInO,Jp,inD,QG],by simp⟩
    obtain⟨t,i0,i1,i2,i3⟩:=i0;have pa:=Qgm AS bs (Qn row) hb b.d t i0;have gs:Jy (bs,row) (.bk b)=((if Qn row=[]/\t≠Str.ofString "break"then bs else bs++[.para (Qn row)])++[b],[]):=by
     show((if Qn row=[]then bs else bs++[.para (Qn row)])++[b],[])=_;by_cases w:Qn row=[];·rw[if_pos w,if_pos ⟨w,i3⟩]
     ·rw[if_neg w,if_neg (by simp[w])]
    rw[gs];have cI:(if Qn row=[]/\t≠Str.ofString "break"then bs else bs++[.para (Qn row)]).length<lI:=by
     split;·exact hb
     ·rw[length_append];exact gJ
    generalize(if Qn row=[]/\t≠Str.ofString "break"then bs else bs++[.para (Qn row)])=dP at*;have ap:=Qib b cI;refine⟨[some AS,some (bks (dP++[b])),some (.lst []),some b.d],.inl ?_,some b.d,rfl⟩;refine bnd (e1:=[some AS,some (bks bs),some (.lst (row.map It.d)),some b.d]) rfl ?_;refine st (e1:=[some AS,some (bks bs),some (.lst (row.map It.d)),some b.d]) ?_ ?_;·generalize Bk.d b=X at*;simp[sIf,eOp,eV,Qf,lN,lC,eC,i0,i1,Qp,sNx]
    refine st (QeW (some AS) (some (bks bs)) row hr b.d) ?_;refine st pa ?_;refine st (e1:=[some AS,some (bks dP),some (.lst []),some b.d]) rfl ?_;generalize Bk.d b=X at*;generalize bks dP=B at*;generalize bks (dP++_)=B2 at*;simp[sIf,eOp,eV,Qf,lN,lC,eC,i0,i2,Qp,sP,ap]|brk=>have pa:=Qgm AS bs (Qn row) hb At.brk.d (Str.ofString "break") rfl;rw[if_neg (by simp)]at pa;refine⟨[some AS,some (bks (bs++[.para (Qn row)])),some (.lst []),some At.brk.d],.inl ?_,some At.brk.d,rfl⟩;refine bnd (e1:=[some AS,some (bks bs),some (.lst (row.map It.d)),some At.brk.d]) rfl ?_;refine st (e1:=[some AS,some (bks bs),some (.lst (row.map It.d)),some At.brk.d]) (by simp[sIf,eOp,eV,Qf,lN,lC,eC,D.ix,ixD,Qp,sNx,D.inO,Jp,inD,QG]) ?_;refine st (QeW (some AS) (some (bks bs)) row hr At.brk.d) ?_;refine st pa ?_;refine st (e1:=[some AS,some (bks (bs++[.para (Qn row)])),some (.lst []),some At.brk.d]) rfl ?_;simp[sIf,eOp,eV,Qf,lN,lC,eC,D.ix,ixD,Qp,sNx,D.notInO,Jp,inD,QG]|fin=>
    have pa:=Qgm AS bs (Qn row) hb At.fin.d (Str.ofString "end") rfl;have gs:Jy (bs,row) .fin=((if Qn row=[]/\Str.ofString "end"≠Str.ofString "break"then bs else bs++[.para (Qn row)]),[]):=by
     show(if Qn row=[]then bs else bs++[.para (Qn row)],[])=_;by_cases w:Qn row=[];·rw[if_pos w,if_pos ⟨w,by simp⟩]
     ·rw[if_neg w,if_neg (by simp[w])]
    rw[gs];generalize(if Qn row=[]/\Str.ofString "end"≠Str.ofString "break"then bs else bs++[.para (Qn row)])=dP at*;refine⟨[some AS,some (bks dP),some (.lst []),some At.fin.d],.inl ?_,some At.fin.d,rfl⟩;refine bnd (e1:=[some AS,some (bks bs),some (.lst (row.map It.d)),some At.fin.d]) rfl ?_;refine st (e1:=[some AS,some (bks bs),some (.lst (row.map It.d)),some At.fin.d]) (by simp[sIf,eOp,eV,Qf,lN,lC,eC,D.ix,ixD,Qp,sNx,D.inO,Jp,inD,QG]) ?_;refine st (QeW (some AS) (some (bks bs)) row hr At.fin.d) ?_;refine st pa ?_;refine st (e1:=[some AS,some (bks dP),some (.lst []),some At.fin.d]) rfl ?_;simp[sIf,eOp,eV,Qf,lN,lC,eC,D.ix,ixD,Qp,sNx,D.notInO,Jp,inD,QG]
  ·rintro e⟨v,rfl⟩;rw[take_length];exact ret rfl
 refine key (as++[.fin]) (by simp;omega) (λa h=>?_) ?_
 ·rcases List.mem_append.mp h with z|z;·exact .inl (hs a z)
  ·exact .inr (by simpa using z)
 ·show(if(as.map At.d).length+1<=lI then _ else _)=_;rw[if_pos (le_trans (by rw[length_map];omega) (show 101<=lI by decide)),map_append];rfl
noncomputable def VC:It->Bool|.ref _ _ _=>true|_=>false
noncomputable def Qam:It->Bool|.word _ _=>true|_=>false
noncomputable def QhZ:Bk->Bool|.para _=>true|_=>false
noncomputable def Qf2:It->Str|.word _ _=>"word"|.ref _ _ _=>"ref"|.mark _=>"mark"|.key _=>"key"
noncomputable def Qf3:Bk->Str|.chapter _ _=>"chapter"|.heading _ _ _=>"heading"|.para _=>"para"|.table _ _=>"table"|.plates _ _=>"plates"
theorem Qcv(i:It):D.ix i.d (.int 0)=some (.str (Qf2 i)):=by cases i<;>rfl
theorem Qmn(i:Bk):D.ix i.d (.int 0)=some (.str (Qf3 i)):=by cases i<;>rfl
theorem Qgf(i:It):decide (Qf2 i=Str.ofString "ref")=VC i:=by cases i<;>simp[Qf2,VC]
theorem QhT(i:It):decide (Qf2 i=Str.ofString "word")=Qam i:=by cases i<;>simp[Qf2,Qam]
theorem Qog(i:Bk):decide (Qf3 i=Str.ofString "para")=QhZ i:=by cases i<;>simp[Qf3,QhZ]
noncomputable def Qrs:It->Str|.ref l _ _=>l|_=>""
def Jx(is:List It):List Str:=(is.filter VC).map Qrs
noncomputable def iO:Bk->List It|.para is=>is|_=>[]
def rO(bs:List Bk):List Str:=bs.flatMap λb=>Jx (iO b)
theorem Qdn(b:Bk):JQ [b.d]=some (.lst ((iO b).map It.d)):=by unfold JQ Qdr;cases b<;>simp[QE,Jh,ZF,lI,QO,sD,sQ,sIf,Qj,Vi,Qe,Vt,Vj,sNx,Qal,Vs,gS,Q4,ZI,eV,eC,eOp,eUn,Jg,Qz,eOr,eIf,JO,Qi,Qf,eK,lN,lC,Za,oNo,oAt,Vl,D.len,D.lt,D.le,D.gt,D.ge,D.add,D.sub,D.ix,D.eqO,D.neO,D.cmp,D.cmpN,D.inst,tyD,D.isT,D.intB,D.min2,D.max2,D.neg,D.addI,Qp,ZO,ZR,Ze,QN,QT,ZN,ZM,JU,Zd,ZS,ZT,Zf,Zh,ZQ,Jl,J4,Yb,QD,Qy,Jw,Q2,QW,QQ,D.rng,D.its,D.itsT,QM,Vk,QG,JG,JH,Jv,JJ,ixD,iO]
theorem Qos{it:EvI}{e:Qh}(is:List It)(hit:it e=some (is.map It.d))(hl:is.length<=lI):QF 1 [] it (gS 0) (eOp D.eqO (eOp D.ix (eV 0) (eC (.int 0))) (eC (.str "ref"))) (eOp D.ix (eV 0) (eC (.int 1))) e=some (Qd (Jx is)):=by
 have:=JL (g:=gS 0) (n:=1) (caps:=[]) (c:=eOp D.eqO (eOp D.ix (eV 0) (eC (.int 0))) (eC (.str "ref"))) (el:=eOp D.ix (eV 0) (eC (.int 1))) It.d is (λe=>∃v,e=[v]) VC (λi=>.str (Qrs i)) hit hl ⟨none,rfl⟩ (by
  rintro i _ e⟨v,rfl⟩;refine⟨[some i.d],rfl,⟨_,rfl⟩,?_,λh=>?_⟩
  ·have h1:=Qcv i;have h2:=Qgf i;generalize It.d i=X at*;simp[eOp,eV,eC,h1,eqS,h2]
  ·cases i with
   |ref l a b=>rfl|_=>cases h);rw[this];unfold Qd Jx;rw[map_map];rfl
theorem fT{α β:Type}(f:α->List β)(xs:List α)(i:Nat)(hi:i<xs.length):(xs.take (i+1)).flatMap f=(xs.take i).flatMap f++f xs[i]:=by rw[take_succ_eq_append_getElem hi,flatMap_append];simp
theorem Qfe{α β:Type}(f:α->List β)(xs:List α)(i:Nat):((xs.take i).flatMap f).length<=(xs.flatMap f).length:=by
 conv=>rhs;rw[<-List.take_append_drop i xs,flatMap_append,length_append]
 omega
theorem Qsw{α:Type}{f:α->D}{xs ys:List α}(h:xs.length+ys.length<=lI):D.ext (.lst (xs.map f)) (.lst (ys.map f))=some (.lst ((xs++ys).map f)):=by show(if(xs.map f).length+(ys.map f).length<=lI then some (D.lst (xs.map f++ys.map f))else none)=_;rw[if_pos (by rw[length_map,length_map];exact h),map_append]
theorem QdJ{α:Type}{f:α->D}{xs ys:List α}(h:xs.length+ys.length<=lI):D.add (.lst (xs.map f)) (.lst (ys.map f))=some (.lst ((xs++ys).map f)):=by show(if(xs.map f).length+(ys.map f).length<=lI then some (D.lst (xs.map f++ys.map f))else none)=_;rw[if_pos (by rw[length_map,length_map];exact h),map_append]
def Few(bs:List Bk):Prop:=bs.length<=100000/\(bs.flatMap iO).length<=100000
theorem QmW(is:List It):(Jx is).length<=is.length:=by unfold Jx;rw[length_map];exact length_filter_le _ _
theorem Qlo(bs:List Bk):(rO bs).length<=(bs.flatMap iO).length:=by induction bs with|nil=>exact le_refl _|cons b bs ih=>have:=QmW (iO b);have ih':(bs.flatMap λb=>Jx (iO b)).length<=(bs.flatMap iO).length:=ih;show((b::bs).flatMap λb=>Jx (iO b)).length<=_;rw[flatMap_cons,flatMap_cons,length_append,length_append];omega
theorem Va{bs:List Bk}(h:Few bs)(b:Bk)(hb:b∈bs):(iO b).length<=100000:=by refine le_trans ?_ h.2;obtain⟨s,t,rfl⟩:=List.append_of_mem hb;rw[flatMap_append,flatMap_cons];simp only[length_append];omega
theorem Qp7(bs:List Bk)(h:Few bs):Qbv [bks bs]=some (Qd (rO bs)):=by
 have hr:=Qlo bs;unfold Qbv Qh5;refine stD rfl ?_;refine st (e1:=[some (bks bs),some (Qd []),none]) rfl ?_;refine Qff Bk.d bs (λi e=>∃v,e=[some (bks bs),some (Qd (rO (bs.take i))),v]) rfl ⟨none,rfl⟩ ?_ ?_
 ·rintro i hi e⟨v,rfl⟩;have t1:rO (bs.take (i+1))=rO (bs.take i)++Jx (iO bs[i]):=fT _ bs i hi;have t2:=Qfe (λb=>Jx (iO b)) bs (i+1);have t3:(rO (bs.take (i+1))).length<=(rO bs).length:=t2;rw[t1,length_append]at t3;rw[t1];refine⟨[some (bks bs),some (Qd (rO (bs.take i)++Jx (iO bs[i]))),some bs[i].d],.inl ?_,_,rfl⟩;refine bnd (e1:=[some (bks bs),some (Qd (rO (bs.take i))),some bs[i].d]) rfl ?_;have hc:=Qos (it:=QC (eK JQ (lC (eV 2) lN))) (e:=[some (bks bs),some (Qd (rO (bs.take i))),some bs[i].d]) (iO bs[i]) (by show((JQ [bs[i].d]).bind λd=>D.its d)=_;rw[Qdn];rfl) (lB (le_trans (Va h bs[i] (getElem_mem hi)) (by decide)));have hx:D.ext (Qd (rO (bs.take i))) (Qd (Jx (iO bs[i])))=some (Qd (rO (bs.take i)++Jx (iO bs[i]))):=Qsw (f:=D.str) (lB (by have:=h.2;omega));generalize Qd (rO (bs.take i)++Jx (iO bs[i]))=Z at*;generalize Qd (Jx (iO bs[i]))=Y at*;generalize Qd (rO (bs.take i))=X at*;simp only[QnW,hc];simp[eV,hx]
 ·rintro e⟨v,rfl⟩;rw[take_length];exact ret rfl
theorem Qir(xs:List Str):D.listOf (Qd xs)=some (Qd xs):=rfl
theorem QlU(bs:Option D)(fo:Option D)(b:D)(is:List It)(hit:D.ix b (.int 1)=some (.lst (is.map It.d)))(hl:is.length<=100000)(v:Option D):∃v',QP (QC (eOp D.ix (eV 2) (eC (.int 1)))) (gS 4) (sIf (eOp D.eqO (eOp D.ix (eV 4) (eC (.int 0))) (eC (.str "word"))) (sP 3 (Qi (lC (eC (.str "word")) (lC (eOp D.ix (eV 4) (eC (.int 1))) (lC (eUn D.listOf (eOp D.ix (eV 4) (eC (.int 2)))) lN))))) (sP 3 (eV 4))) [bs,fo,some b,some (.lst []),v]=some (.nx [bs,fo,some b,some (.lst (is.map It.d)),v']):=by
 obtain⟨e',h1,v',h2⟩:=QhG (g:=gS 4) (b:=sIf (eOp D.eqO (eOp D.ix (eV 4) (eC (.int 0))) (eC (.str "word"))) (sP 3 (Qi (lC (eC (.str "word")) (lC (eOp D.ix (eV 4) (eC (.int 1))) (lC (eUn D.listOf (eOp D.ix (eV 4) (eC (.int 2)))) lN))))) (sP 3 (eV 4))) It.d is (λi e=>∃v,e=[bs,fo,some b,some (.lst ((is.take i).map It.d)),v]) (by
  rintro i hi e⟨v,rfl⟩;have ap:D.app (.lst ((is.take i).map It.d)) is[i].d=some (.lst ((is.take (i+1)).map It.d)):=by rw[take_succ_eq_append_getElem hi];exact Qia _ (Qbs (by rw[length_take];omega))
  generalize is[i]=x at*;generalize(is.take (i+1)).map It.d=Z at*;generalize(is.take i).map It.d=Y at*;refine⟨[bs,fo,some b,some (.lst Z),some x.d],.inl ?_,_,rfl⟩;refine bnd (e1:=[bs,fo,some b,some (.lst Y),some x.d]) rfl ?_;cases x with|word w ns=>have ls:=Qir ns;simp only[It.d]at ap⊢;generalize Qd ns=N at*;simp[sIf,eOp,eV,eC,D.ix,ixD,eqS,Qp,sP,Qi,lC,lN,eUn,ls,ap]|_=>simp only[It.d]at ap;simp[sIf,eOp,eV,eC,D.ix,ixD,eqS,Qp,sP,ap]) [bs,fo,some b,some (.lst []),v] ⟨v,rfl⟩;subst h2;rw[take_length]at h1;refine⟨v',?_⟩;simp only[QP,QC,eOp,eV,eC,getElem?_cons_zero,getElem?_cons_succ,join_some,bind_some,hit,D.its];exact h1
theorem Qra(bs:List Bk)(h:Few bs):Qer [bks bs]=some (bks bs):=by
 unfold Qer Qgy;refine stD rfl ?_;refine st (e1:=[some (bks bs),some (bks []),none,none,none]) rfl ?_;refine Qff Bk.d bs (λi e=>∃u v w,e=[some (bks bs),some (bks (bs.take i)),u,v,w]) rfl ⟨none,none,none,rfl⟩ ?_ ?_
 ·rintro i hi e⟨u,v,w,rfl⟩;have ap:D.app (bks (bs.take i)) bs[i].d=some (bks (bs.take (i+1))):=by rw[take_succ_eq_append_getElem hi];exact Qib _ (Qbs (by rw[length_take];have:=h.1;omega))
  have hl:=Va h bs[i] (getElem_mem hi);generalize bs[i]=x at*;generalize bks (bs.take (i+1))=Z at*;generalize bks (bs.take i)=Y at*;generalize bks bs=B at*;cases x with
  |para is=>
   obtain⟨w',hc⟩:=QlU (some B) (some Y) (Bk.para is).d is rfl hl w;refine⟨[some B,some Z,some (Bk.para is).d,some (.lst (is.map It.d)),w'],.inl ?_,_,_,_,rfl⟩;refine bnd (e1:=[some B,some Y,some (Bk.para is).d,v,w]) rfl ?_;have c:eOp D.eqO (eOp D.ix (eV 2) (eC (.int 0))) (eC (.str "para")) [some B,some Y,some (Bk.para is).d,v,w]=some (.bl true):=by simp[eOp,eV,eC,D.ix,ixD,eqS]
   unfold sIf;rw[c,Qp,if_pos rfl];refine st (e1:=[some B,some Y,some (Bk.para is).d,some (.lst []),w]) rfl ?_;refine st hc ?_;simp only[Bk.d]at ap;simp[sP,eV,Qi,lC,lN,eC,ap]|table rs l=>refine⟨[some B,some Z,some (Bk.table rs l).d,v,w],.inl ?_,_,_,_,rfl⟩;refine bnd (e1:=[some B,some Y,some (Bk.table rs l).d,v,w]) rfl ?_;have ls:=Qir rs;simp only[Bk.d]at ap⊢;generalize Qd rs=N at*;simp[sIf,eOp,eV,eC,D.ix,ixD,eqS,Qp,sP,Qi,lC,lN,eUn,ls,ap]|chapter t l=>refine⟨[some B,some Z,some (Bk.chapter t l).d,v,w],.inl ?_,_,_,_,rfl⟩;simp only[Bk.d]at ap;simp[gS,sIf,eOp,eV,eC,D.ix,ixD,eqS,Qp,sP,ap]|heading t n l=>refine⟨[some B,some Z,some (Bk.heading t n l).d,v,w],.inl ?_,_,_,_,rfl⟩;simp only[Bk.d]at ap;simp[gS,sIf,eOp,eV,eC,D.ix,ixD,eqS,Qp,sP,ap]|plates n l=>refine⟨[some B,some Z,some (Bk.plates n l).d,v,w],.inl ?_,_,_,_,rfl⟩;simp only[Bk.d]at ap;simp[gS,sIf,eOp,eV,eC,D.ix,ixD,eqS,Qp,sP,ap]
 ·rintro e⟨u,v,w,rfl⟩;rw[take_length];exact ret rfl
noncomputable def ItB:It->Prop|.word w ns=>(1<=w.length/\w.length<=40)/\ns.length<=30/\∀r∈ns,r.length<=40|.ref _ a b=>a.length<=2/\b.length<=2|.mark _=>True|.key w=>1<=w.length/\w.length<=80
def BkB:Bk->Prop|.chapter t _=>1<=t.length/\t.length<=41|.heading t n _=>(1<=t.length/\t.length<=41)/\0<=n/\n<=29|.table rs _=>(1<=rs.length/\rs.length<=30)/\∀r∈rs,r.length<=40|.plates n _=>1<=n/\n<=10^39|.para is=>∀i∈is,ItB i
theorem Yj{x:Str}(h:x.length<=1000000):D.len (.str x)=some (.int x.length):=if_pos (lB h)
theorem Qdo:∀xs:List Int,intsOf (xs.map .int)=some xs|[]=>rfl|x::xs=>by show(intsOf (xs.map .int)).map (x::·)=_;rw[Qdo xs];rfl
theorem Qgq(w:Int)(xs:List Int):D.maxL (.lst ((w::xs).map .int))=some (.int (Jo w xs)):=by show(match intsOf ((w::xs).map .int)with|some (m::ns)=>some (D.int (Jo m ns))|_=>none)=_;rw[Qdo]
noncomputable def Yi(rs:List Str):List Int:=rs.map λr=>(r.length:Int)
theorem Qda{it:EvI}{e:Qh}(rs:List Str)(hit:it e=some (rs.map .str))(hl:rs.length<=1000000)(hr:∀r∈rs,r.length<=1000000):QF 1 [] it (gS 0) (eC (.bl true)) (eUn D.len (eV 0)) e=some (.lst ((Yi rs).map .int)):=by rw[JL (g:=gS 0) (n:=1) (caps:=[]) (c:=eC (.bl true)) (el:=eUn D.len (eV 0)) D.str rs (λe=>∃v,e=[v]) (λ_=>true) (λr=>.int r.length) hit (lB hl) ⟨none,rfl⟩ (by rintro r jF e⟨v,rfl⟩;refine⟨[some (.str r)],rfl,⟨_,rfl⟩,rfl,λ_=>?_⟩;simp[eUn,eV,Yj (hr r jF)])];rw[Zt];unfold Yi;rw[map_map];rfl
theorem QcN{a:EvE}{e:Qh}{i:Nat}{w:Int}(xs:List Int)(hv:eV i e=some (.int w))(ha:a e=some (.lst (xs.map .int)))(hl:xs.length<=1000000):eUn D.maxL (eOp D.add (Qf (lC (eV i) lN)) a) e=some (.int (Jo w xs)):=by have h1:D.add (.lst [.int w]) (.lst (xs.map .int))=some (.lst ((w::xs).map .int)):=QdJ (f:=D.int) (xs:=[w]) (ys:=xs) (QfC hl);have h2:=Qgq w xs;generalize(w::xs).map D.int=Z at*;simp only[eUn,eOp,Qf,lC,lN,hv,ha,bind_some,map_some,h1,h2]
noncomputable def QdD:It->Int|.word w _=>w.length|_=>0
noncomputable def QdF(af:Int):It->Int|.ref _ a b=>a.length+af+b.length|_=>0
noncomputable def Qmj:It->List Str|.word _ ns=>ns|_=>[]
def Yq(is:List It):List (List Str):=(is.filter Qam).map Qmj
def J7(af w:Int):Bk->Int|.chapter t _=>if(t.length:Int)+2+af>w then(t.length:Int)+2+af else w|.heading t _ _=>if(t.length:Int)+2+af>w then(t.length:Int)+2+af else w|.table rs _=>Jo w (Yi rs)|.plates _ _=>w|.para is=>(Yq is).foldl (λw ns=>Jo w (Yi ns)) (Jo (Jo w ((is.filter VC).map (QdF af))) ((is.filter Qam).map QdD))
def J8(h:Int):Bk->Int|.heading _ k _=>if k+1>h then k+1 else h|.table rs _=>if(rs.length:Int)>h then(rs.length:Int)else h|.para is=>Jo h ((Yq is).map λns=>1+(ns.length:Int))|_=>h
theorem Qoe{it:EvI}{e:Qh}(is:List It)(hit:it e=some (is.map It.d))(hl:is.length<=1000000)(hi:∀i∈is,ItB i):QF 1 [] it (gS 0) (eOp D.eqO (eOp D.ix (eV 0) (eC (.int 0))) (eC (.str "word"))) (eUn D.len (eOp D.ix (eV 0) (eC (.int 1)))) e=some (.lst (((is.filter Qam).map QdD).map .int)):=by
 rw[JL (g:=gS 0) (n:=1) (caps:=[]) (c:=eOp D.eqO (eOp D.ix (eV 0) (eC (.int 0))) (eC (.str "word"))) (el:=eUn D.len (eOp D.ix (eV 0) (eC (.int 1)))) It.d is (λe=>∃v,e=[v]) Qam (λi=>.int (QdD i)) hit (lB hl) ⟨none,rfl⟩ (by
  rintro i hm e⟨v,rfl⟩;refine⟨[some i.d],rfl,⟨_,rfl⟩,?_,λh=>?_⟩
  ·have h1:=Qcv i;have h2:=QhT i;generalize It.d i=X at*;simp[eOp,eV,eC,h1,eqS,h2]
  ·cases i with
   |word w ns=>have hb:=(hi _ hm).1.2;have ln:=Yj (x:=w) (by omega);simp[eUn,eOp,eV,eC,D.ix,ixD,ln,QdD]|_=>cases h)];rw[map_map];rfl
theorem Qp8{it:EvI}{e:Qh}(af:Int)(is:List It)(hc:Qci 1 [1] e=[none,some (.int af)])(hit:it e=some (is.map It.d))(hl:is.length<=1000000)(hi:∀i∈is,ItB i):QF 1 [1] it (gS 0) (eOp D.eqO (eOp D.ix (eV 0) (eC (.int 0))) (eC (.str "ref"))) (eOp D.add (eOp D.add (eUn D.len (eOp D.ix (eV 0) (eC (.int 2)))) (eV 1)) (eUn D.len (eOp D.ix (eV 0) (eC (.int 3))))) e=some (.lst (((is.filter VC).map (QdF af)).map .int)):=by
 rw[JL (g:=gS 0) (n:=1) (caps:=[1]) (c:=eOp D.eqO (eOp D.ix (eV 0) (eC (.int 0))) (eC (.str "ref"))) (el:=eOp D.add (eOp D.add (eUn D.len (eOp D.ix (eV 0) (eC (.int 2)))) (eV 1)) (eUn D.len (eOp D.ix (eV 0) (eC (.int 3))))) It.d is (λe=>∃v,e=[v,some (.int af)]) VC (λi=>.int (QdF af i)) hit (lB hl) ⟨none,hc⟩ (by
  rintro i hm e⟨v,rfl⟩;refine⟨[some i.d,some (.int af)],rfl,⟨_,rfl⟩,?_,λh=>?_⟩;·have h1:=Qcv i;have h2:=Qgf i;generalize It.d i=X at*;simp[eOp,eV,eC,h1,eqS,h2]
  ·cases i with
   |ref l a b=>have hb:=hi _ hm;have l1:=Yj (x:=a) (by have:=hb.1;omega);have l2:=Yj (x:=b) (by have:=hb.2;omega);simp[eUn,eOp,eV,eC,D.ix,ixD,l1,l2,QdF,add_int]|_=>cases h)];rw[map_map];rfl
theorem Qnc{it:EvI}{e:Qh}(is:List It)(hit:it e=some (is.map It.d))(hl:is.length<=1000000):QF 1 [] it (gS 0) (eOp D.eqO (eOp D.ix (eV 0) (eC (.int 0))) (eC (.str "word"))) (eOp D.ix (eV 0) (eC (.int 2))) e=some (.lst ((Yq is).map Qd)):=by
 rw[JL (g:=gS 0) (n:=1) (caps:=[]) (c:=eOp D.eqO (eOp D.ix (eV 0) (eC (.int 0))) (eC (.str "word"))) (el:=eOp D.ix (eV 0) (eC (.int 2))) It.d is (λe=>∃v,e=[v]) Qam (λi=>Qd (Qmj i)) hit (lB hl) ⟨none,rfl⟩ (by
  rintro i hm e⟨v,rfl⟩;refine⟨[some i.d],rfl,⟨_,rfl⟩,?_,λh=>?_⟩
  ·have h1:=Qcv i;have h2:=QhT i;generalize It.d i=X at*;simp[eOp,eV,eC,h1,eqS,h2]
  ·cases i with|word w ns=>rfl|_=>cases h)];unfold Yq;rw[map_map];rfl
theorem QoB{it:EvI}{e:Qh}(bD:List (List Str))(hit:it e=some (bD.map Qd))(hl:bD.length<=1000000):QF 1 [] it (gS 0) (eC (.bl true)) (eOp D.add (eC (.int 1)) (eUn D.len (eV 0))) e=some (.lst ((bD.map λns=>1+(ns.length:Int)).map .int)):=by rw[JL (g:=gS 0) (n:=1) (caps:=[]) (c:=eC (.bl true)) (el:=eOp D.add (eC (.int 1)) (eUn D.len (eV 0))) Qd bD (λe=>∃v,e=[v]) (λ_=>true) (λns=>.int (1+(ns.length:Int))) hit (lB hl) ⟨none,rfl⟩ (by rintro r jF e⟨v,rfl⟩;refine⟨[some (Qd r)],rfl,⟨_,rfl⟩,rfl,λ_=>?_⟩;have ln:=Qap r;generalize Qd r=N at*;simp[eUn,eV,eOp,eC,ln,add_int])];rw[Zt,map_map];rfl
theorem Qgn{is:List It}(hi:∀i∈is,ItB i):∀ns∈Yq is,ns.length<=30/\∀r∈ns,r.length<=40:=by intro ns h;unfold Yq at h;obtain⟨i,h1,rfl⟩:=List.mem_map.mp h;obtain⟨h2,h3⟩:=List.mem_filter.mp h1;cases i with|word w ns=>exact⟨(hi _ h2).2.1,(hi _ h2).2.2⟩|_=>cases h3
theorem Qnb(B R H b nt:Option D)(bD:List (List Str))(hn:∀ns∈bD,ns.length<=30/\∀r∈ns,r.length<=40)(w:Int)(v:Option D)(hl:nt=some (.lst (bD.map Qd))):∃v',QP (QC (eV 5)) (gS 6) (Qe (eUn D.maxL (eOp D.add (Qf (lC (eV 2) lN)) (QF 1 [] (QC (eV 6)) (gS 0) (eC (.bl true)) (eUn D.len (eV 0))))) (gS 2)) [B,R,some (.int w),H,b,nt,v]=some (.nx [B,R,some (.int (bD.foldl (λw ns=>Jo w (Yi ns)) w)),H,b,nt,v']):=by obtain⟨e',h1,v',h2⟩:=QpM (it:=QC (eV 5)) (g:=gS 6) (b:=Qe (eUn D.maxL (eOp D.add (Qf (lC (eV 2) lN)) (QF 1 [] (QC (eV 6)) (gS 0) (eC (.bl true)) (eUn D.len (eV 0))))) (gS 2)) (e:=[B,R,some (.int w),H,b,nt,v]) Qd bD (λ(w:Int)e=>∃v,e=[B,R,some (.int w),H,b,nt,v]) (λw ns=>Jo w (Yi ns)) w (by rw[hl];rfl) ⟨v,rfl⟩ (by rintro ns hm w e⟨v,rfl⟩;refine⟨[B,R,some (.int (Jo w (Yi ns))),H,b,nt,some (Qd ns)],.inl ?_,_,rfl⟩;refine bnd (e1:=[B,R,some (.int w),H,b,nt,some (Qd ns)]) rfl ?_;have hc:=Qda (it:=QC (eV 6)) (e:=[B,R,some (.int w),H,b,nt,some (Qd ns)]) ns rfl (by have:=(hn ns hm).1;omega) (λr hr=>by have:=(hn ns hm).2 r hr;omega);have hx:=QcN (i:=2) (e:=[B,R,some (.int w),H,b,nt,some (Qd ns)]) (Yi ns) rfl hc (by unfold Yi;rw[length_map];have:=(hn ns hm).1;omega);unfold Qe;rw[hx];rfl);exact⟨v',h2▸h1⟩
theorem Qna(is:List It):(Yq is).length<=is.length:=by unfold Yq;rw[length_map];exact length_filter_le _ _
def Qla:EvS:=sQ (sIf (eOr (eOp D.eqO (eOp D.ix (eV 4) (eC (.int 0))) (eC (.str "chapter"))) (eOp D.eqO (eOp D.ix (eV 4) (eC (.int 0))) (eC (.str "heading")))) (Qe (eOp D.max2 (eV 2) (eOp D.add (eOp D.add (eUn D.len (eOp D.ix (eV 4) (eC (.int 1)))) (eC (.int 2))) (eV 1))) (gS 2)) sNx) (sQ (sIf (eOp D.eqO (eOp D.ix (eV 4) (eC (.int 0))) (eC (.str "heading"))) (Qe (eOp D.max2 (eV 3) (eOp D.add (eOp D.ix (eV 4) (eC (.int 2))) (eC (.int 1)))) (gS 3)) sNx) (sQ (sIf (eOp D.eqO (eOp D.ix (eV 4) (eC (.int 0))) (eC (.str "table"))) (sQ (Qe (eOp D.max2 (eV 3) (eUn D.len (eOp D.ix (eV 4) (eC (.int 1))))) (gS 3)) (Qe (eUn D.maxL (eOp D.add (Qf (lC (eV 2) lN)) (QF 1 [] (QC (eOp D.ix (eV 4) (eC (.int 1)))) (gS 0) (eC (.bl true)) (eUn D.len (eV 0))))) (gS 2))) sNx) (sIf (eOp D.eqO (eOp D.ix (eV 4) (eC (.int 0))) (eC (.str "para"))) (sQ (Qe (eUn D.maxL (eOp D.add (Qf (lC (eV 2) lN)) (QF 1 [1] (QC (eOp D.ix (eV 4) (eC (.int 1)))) (gS 0) (eOp D.eqO (eOp D.ix (eV 0) (eC (.int 0))) (eC (.str "ref"))) (eOp D.add (eOp D.add (eUn D.len (eOp D.ix (eV 0) (eC (.int 2)))) (eV 1)) (eUn D.len (eOp D.ix (eV 0) (eC (.int 3)))))))) (gS 2)) (sQ (Qe (eUn D.maxL (eOp D.add (Qf (lC (eV 2) lN)) (QF 1 [] (QC (eOp D.ix (eV 4) (eC (.int 1)))) (gS 0) (eOp D.eqO (eOp D.ix (eV 0) (eC (.int 0))) (eC (.str "word"))) (eUn D.len (eOp D.ix (eV 0) (eC (.int 1))))))) (gS 2)) (sQ (Qe (QF 1 [] (QC (eOp D.ix (eV 4) (eC (.int 1)))) (gS 0) (eOp D.eqO (eOp D.ix (eV 0) (eC (.int 0))) (eC (.str "word"))) (eOp D.ix (eV 0) (eC (.int 2)))) (gS 5)) (sQ (Qe (eUn D.maxL (eOp D.add (Qf (lC (eV 3) lN)) (QF 1 [] (QC (eV 5)) (gS 0) (eC (.bl true)) (eOp D.add (eC (.int 1)) (eUn D.len (eV 0)))))) (gS 3)) (QP (QC (eV 5)) (gS 6) (Qe (eUn D.maxL (eOp D.add (Qf (lC (eV 2) lN)) (QF 1 [] (QC (eV 6)) (gS 0) (eC (.bl true)) (eUn D.len (eV 0))))) (gS 2))))))) sNx)))
theorem QoU(B:D)(af w h:Int)(b:Bk)(hb:BkB b)(hl:(iO b).length<=100000)(u v:Option D):∃u' v',Qla [some B,some (.int af),some (.int w),some (.int h),some b.d,u,v]=some (.nx [some B,some (.int af),some (.int (J7 af w b)),some (.int (J8 h b)),some b.d,u',v']):=by
 have tg:∀(e:Qh),eV 4 e=some b.d->∀t:Str,eOp D.eqO (eOp D.ix (eV 4) (eC (.int 0))) (eC (.str t)) e=some (.bl (decide (Qf3 b=t))):=by
  intro e he t;have i0:=Qmn b;generalize Bk.d b=X at*;simp only[eOp,eC,he,bind_some,i0,eqS]
 unfold Qla;cases b with
 |chapter t l=>have ln:=Yj (x:=t) (by have:=hb.2;omega);refine⟨u,v,?_⟩;refine st (e1:=[some B,some (.int af),some (.int (J7 af w (.chapter t l))),some (.int h),some (Bk.chapter t l).d,u,v]) (by simp[sIf,eOr,eOp,eV,eC,D.ix,ixD,eqS,Qp,Qe,gS,eUn,ln,add_int,D.max2,J7]) ?_;simp[sQ,QN,sIf,eOr,eOp,eV,eC,D.ix,ixD,eqS,Qp,sNx,J8]|heading t k l=>
  have ln:=Yj (x:=t) (by have:=hb.1.2;omega);refine⟨u,v,?_⟩;refine st (e1:=[some B,some (.int af),some (.int (J7 af w (.heading t k l))),some (.int h),some (Bk.heading t k l).d,u,v]) (by simp[sIf,eOr,eOp,eV,eC,D.ix,ixD,eqS,Qp,Qe,gS,eUn,ln,add_int,D.max2,J7]) ?_;simp[sQ,QN,sIf,eOr,eOp,eV,eC,D.ix,ixD,eqS,Qp,sNx,Qe,gS,D.max2,add_int,J8]|plates n l=>
  refine⟨u,v,?_⟩;simp[sQ,QN,sIf,eOr,eOp,eV,eC,D.ix,ixD,eqS,Qp,sNx,J8,J7]|table rs l=>
  refine⟨u,v,?_⟩;refine st (e1:=[some B,some (.int af),some (.int w),some (.int h),some (Bk.table rs l).d,u,v]) (by simp[sIf,eOr,eOp,eV,eC,D.ix,ixD,eqS,Qp,sNx]) ?_;refine st (e1:=[some B,some (.int af),some (.int w),some (.int h),some (Bk.table rs l).d,u,v]) (by simp[sIf,eOr,eOp,eV,eC,D.ix,ixD,eqS,Qp,sNx]) ?_;refine st (e1:=[some B,some (.int af),some (.int (J7 af w (.table rs l))),some (.int (J8 h (.table rs l))),some (Bk.table rs l).d,u,v]) ?_ (by simp[sIf,eOp,eV,eC,D.ix,ixD,eqS,Qp,sNx]);refine ifT (by rw[tg _ rfl];simp[Qf3]) ?_;refine st (e1:=[some B,some (.int af),some (.int w),some (.int (J8 h (.table rs l))),some (Bk.table rs l).d,u,v]) ?_ ?_
  ·have ln:=Qap rs;simp only[Bk.d];generalize Qd rs=N at*;simp[Qe,eOp,eV,eC,eUn,D.ix,ixD,ln,D.max2,gS,J8]
  ·refine asg (QcN (Yi rs) rfl (Qda rs rfl (by have:=hb.1.2;omega) (λr hr=>by have:=hb.2 r hr;omega)) (by unfold Yi;rw[length_map];have:=hb.1.2;omega)) rfl|para is=>
  have jI:is.length<=100000:=hl;have hi:∀i∈is,ItB i:=hb;obtain⟨W1,e1⟩:∃W1,Jo w ((is.filter VC).map (QdF af))=W1:=⟨_,rfl⟩;obtain⟨W2,e2⟩:∃W2,Jo W1 ((is.filter Qam).map QdD)=W2:=⟨_,rfl⟩;obtain⟨v',hv⟩:=Qnb (some B) (some (.int af)) (some (.int (J8 h (.para is)))) (some (Bk.para is).d) (some (.lst ((Yq is).map Qd))) (Yq is) (Qgn hi) W2 v rfl;have l1:((is.filter VC).map (QdF af)).length<=1000000:=by rw[length_map];have:=length_filter_le VC is;omega
  have l2:((is.filter Qam).map QdD).length<=1000000:=by rw[length_map];have:=length_filter_le Qam is;omega
  have l3:=Qna is;refine⟨some (.lst ((Yq is).map Qd)),v',?_⟩;refine st (e1:=[some B,some (.int af),some (.int w),some (.int h),some (Bk.para is).d,u,v]) (by simp[sIf,eOr,eOp,eV,eC,D.ix,ixD,eqS,Qp,sNx]) ?_;refine st (e1:=[some B,some (.int af),some (.int w),some (.int h),some (Bk.para is).d,u,v]) (by simp[sIf,eOr,eOp,eV,eC,D.ix,ixD,eqS,Qp,sNx]) ?_;refine st (e1:=[some B,some (.int af),some (.int w),some (.int h),some (Bk.para is).d,u,v]) (by simp[sIf,eOr,eOp,eV,eC,D.ix,ixD,eqS,Qp,sNx]) ?_;refine ifT (by rw[tg _ rfl];simp[Qf3]) ?_;refine st (e1:=[some B,some (.int af),some (.int W1),some (.int h),some (Bk.para is).d,u,v]) (by rw[<-e1];exact asg (QcN _ rfl (Qp8 af is rfl rfl (by omega) hi) l1) rfl) ?_;refine st (e1:=[some B,some (.int af),some (.int W2),some (.int h),some (Bk.para is).d,u,v]) (by rw[<-e2];exact asg (QcN _ rfl (Qoe is rfl (by omega) hi) l2) rfl) ?_;refine st (e1:=[some B,some (.int af),some (.int W2),some (.int h),some (Bk.para is).d,some (.lst ((Yq is).map Qd)),v]) (asg (Qnc is rfl (by omega)) rfl) ?_;refine st (e1:=[some B,some (.int af),some (.int W2),some (.int (J8 h (.para is))),some (Bk.para is).d,some (.lst ((Yq is).map Qd)),v]) (asg (QcN _ rfl (QoB (Yq is) rfl (by omega)) (by rw[length_map];omega)) rfl) ?_;have fin:J7 af w (.para is)=(Yq is).foldl (λw ns=>Jo w (Yi ns)) W2:=by rw[<-e2,<-e1];rfl
  rw[fin];exact hv
def Qk9(af:Int)(bs:List Bk):Int×Int:=bs.foldl (λs b=>(J7 af s.1 b,J8 s.2 b)) (4,2)
theorem QoN(bs:List Bk)(af:Int)(hf:Few bs)(hb:∀b∈bs,BkB b):QbM [bks bs,.int af]=some (.tup [.int (Qk9 af bs).1,.int (Qk9 af bs).2]):=by
 unfold QbM QeZ;refine stD rfl ?_;refine st (e1:=[some (bks bs),some (.int af),some (.int 4),none,none,none,none]) rfl ?_;refine st (e1:=[some (bks bs),some (.int af),some (.int 4),some (.int 2),none,none,none]) rfl ?_;refine Ql5 (b:=Qla) Bk.d bs (λ(s:Int×Int)e=>∃a u v,e=[some (bks bs),some (.int af),some (.int s.1),some (.int s.2),a,u,v]) (λs b=>(J7 af s.1 b,J8 s.2 b)) (4,2) rfl ⟨none,none,none,rfl⟩ ?_ ?_
 ·rintro b hm s e⟨a,u,v,rfl⟩;obtain⟨u',v',h⟩:=QoU (bks bs) af s.1 s.2 b (hb b hm) (Va hf b hm) u v;exact⟨_,.inl (bnd (e1:=[some (bks bs),some (.int af),some (.int s.1),some (.int s.2),some b.d,u,v]) rfl h),_,_,_,rfl⟩
 ·rintro e⟨a,u,v,rfl⟩;exact ret rfl
theorem Qje(s:String):(Str.ofString s).length=s.toList.length:=by show(cpsOfBytes 0 0 s.toByteArray.data.toList).toArray.size=_;rw[cpsOfBytes_string];simp
noncomputable def JC(n:Nat):Nat:=(Nat.toDigits 10 n).length
theorem Qek(n:Nat):(Str.ofString (toString (n:Int))).length=JC n:=by rw[Qje];show(Nat.repr n).toList.length=_;rw[Nat.toList_repr];rfl
theorem Qpf(n:Nat):1<=JC n:=Nat.length_toDigits_pos
theorem Qgr(n:Nat)(h:n<10^60):JC n<=60:=(Nat.length_toDigits_le_iff (by decide) (by decide)).mpr h
def Q5(i:It):Bool:=Qam i||VC i
def Q0(li:Bool):Bk->Int|.chapter _ _=>2+if li then 2 else 0|.heading _ _ _=>2+if li then 2 else 0|.table _ _=>2|.plates n _=>2+n|.para is=>2+2*((is.filter Q5).length:Int)
def most(li:Bool)(bs:List Bk):Int:=bs.foldl (λs b=>s+Q0 li b) 3
theorem Qj9{it:EvI}{e:Qh}(is:List It)(hit:it e=some (is.map It.d))(hl:is.length<=1000000):QF 1 [] it (gS 0) (eOr (eOp D.eqO (eOp D.ix (eV 0) (eC (.int 0))) (eC (.str "word"))) (eOp D.eqO (eOp D.ix (eV 0) (eC (.int 0))) (eC (.str "ref")))) (eV 0) e=some (.lst ((is.filter Q5).map It.d)):=by rw[JL (g:=gS 0) (n:=1) (caps:=[]) (c:=eOr (eOp D.eqO (eOp D.ix (eV 0) (eC (.int 0))) (eC (.str "word"))) (eOp D.eqO (eOp D.ix (eV 0) (eC (.int 0))) (eC (.str "ref")))) (el:=eV 0) It.d is (λe=>∃v,e=[v]) Q5 It.d hit (lB hl) ⟨none,rfl⟩ (by rintro i hm e⟨v,rfl⟩;refine⟨[some i.d],rfl,⟨_,rfl⟩,?_,λh=>rfl⟩;have h1:=Qcv i;have h2:=QhT i;have h3:=Qgf i;unfold Q5;generalize It.d i=X at*;cases q:Qam i<;>rw[q]at h2<;>simp[eOr,eOp,eV,eC,h1,eqS,h2,h3,Qp])]
theorem Qrr(m:Int):D.mulA (.int 2) (.int m)=some (.int (2*m)):=(QE 2 m).trans (Qa5 (by decide))
theorem Qgp(bs:List Bk)(li:Bool)(hf:Few bs):VL [bks bs,.bl li]=some (.int (most li bs)):=by
 unfold VL Qgu;refine stD rfl ?_;refine st (e1:=[some (bks bs),some (.bl li),some (.int 3),none]) rfl ?_;refine Ql5 Bk.d bs (λ(s:Int)e=>∃a,e=[some (bks bs),some (.bl li),some (.int s),a]) (λs b=>s+Q0 li b) 3 rfl ⟨none,rfl⟩ ?_ ?_
 ·rintro b hm s e⟨a,rfl⟩;refine⟨[some (bks bs),some (.bl li),some (.int (s+Q0 li b)),some b.d],.inl (bnd (e1:=[some (bks bs),some (.bl li),some (.int s),some b.d]) rfl ?_),_,rfl⟩;have hl:=Va hf b hm;generalize bks bs=B at*;refine st (e1:=[some B,some (.bl li),some (.int (s+2)),some b.d]) rfl ?_;have cd:∀(d:D)(t:Str),D.ix d (.int 0)=some (.str t)->Qz (eV 1) (eOr (eOp D.eqO (eOp D.ix (eV 3) (eC (.int 0))) (eC (.str "chapter"))) (eOp D.eqO (eOp D.ix (eV 3) (eC (.int 0))) (eC (.str "heading")))) [some B,some (.bl li),some (.int (s+2)),some d]=some (.bl (li&&(decide (t="chapter")||decide (t="heading")))):=by intro d t h;cases li with|false=>exact J6 rfl|true=>
    refine JM rfl ?_;by_cases z:t=Str.ofString "chapter"
    ·rw[decide_eq_true z];exact orT (opE (opE rfl rfl h) rfl (by rw[eqS,decide_eq_true z]))
    ·rw[decide_eq_false z,Bool.false_or,Bool.true_and];exact orF (opE (opE rfl rfl h) rfl (by rw[eqS,decide_eq_false z])) (opE (opE rfl rfl h) rfl (eqS _ _))
  have fm:∀(d:D)(t:Str)(m:Int),D.ix d (.int 0)=some (.str t)->(decide (t="chapter")||decide (t="heading"))=true->t≠"plates"->t≠"para"->s+m=s+2+(if li then 2 else 0)->sQ (sIf (Qz (eV 1) (eOr (eOp D.eqO (eOp D.ix (eV 3) (eC (.int 0))) (eC (.str "chapter"))) (eOp D.eqO (eOp D.ix (eV 3) (eC (.int 0))) (eC (.str "heading"))))) (Qe (eOp D.add (eV 2) (eC (.int 2))) (gS 2)) (sNx)) (sQ (sIf (eOp D.eqO (eOp D.ix (eV 3) (eC (.int 0))) (eC (.str "plates"))) (Qe (eOp D.add (eV 2) (eOp D.ix (eV 3) (eC (.int 1)))) (gS 2)) (sNx)) (sIf (eOp D.eqO (eOp D.ix (eV 3) (eC (.int 0))) (eC (.str "para"))) (Qe (eOp D.add (eV 2) (eOp D.mulA (eC (.int 2)) (eUn D.len (QF 1 [] (QC (eOp D.ix (eV 3) (eC (.int 1)))) (gS 0) (eOr (eOp D.eqO (eOp D.ix (eV 0) (eC (.int 0))) (eC (.str "word"))) (eOp D.eqO (eOp D.ix (eV 0) (eC (.int 0))) (eC (.str "ref")))) (eV 0))))) (gS 2)) (sNx))) [some B,some (.bl li),some (.int (s+2)),some d]=some (.nx [some B,some (.bl li),some (.int (s+m)),some d]):=by intro d t m h ht h1 h2 hm;have c:=cd d t h;rw[ht,Bool.and_true]at c;rw[hm];refine st (e1:=[some B,some (.bl li),some (.int (s+2+(if li then 2 else 0))),some d]) ?_ (st (ifF (opE (opE rfl rfl h) rfl (by rw[eqS,decide_eq_false h1])) rfl) (ifF (opE (opE rfl rfl h) rfl (by rw[eqS,decide_eq_false h2])) rfl));cases li with|true=>exact ifT c rfl|false=>
    refine(ifF c rfl).trans ?_;rw[if_neg (by decide),Int.add_zero];rfl
  have non:∀(d:D)(t:Str),D.ix d (.int 0)=some (.str t)->(decide (t="chapter")||decide (t="heading"))=false->Qz (eV 1) (eOr (eOp D.eqO (eOp D.ix (eV 3) (eC (.int 0))) (eC (.str "chapter"))) (eOp D.eqO (eOp D.ix (eV 3) (eC (.int 0))) (eC (.str "heading")))) [some B,some (.bl li),some (.int (s+2)),some d]=some (.bl false):=by intro d t h ht;have c:=cd d t h;rw[ht,Bool.and_false]at c;exact c
  cases b with
  |para is=>
   have jI:is.length<=1000000:=le_trans (show is.length<=100000 from hl) (by decide);refine st (e1:=[some B,some (.bl li),some (.int (s+2)),some (Bk.para is).d]) (ifF (non _ "para" rfl (by simp)) rfl) ?_;refine st (e1:=[some B,some (.bl li),some (.int (s+2)),some (Bk.para is).d]) (ifF (opE (x:=.str "para") (opE (x:=(Bk.para is).d) rfl rfl rfl) rfl (by rw[eqS];simp)) rfl) ?_;refine ifT (opE (x:=.str "para") (opE (x:=(Bk.para is).d) rfl rfl rfl) rfl (by rw[eqS];simp)) ?_;have hc:=Qj9 (it:=QC (eOp D.ix (eV 3) (eC (.int 1)))) (e:=[some B,some (.bl li),some (.int (s+2)),some (Bk.para is).d]) is rfl jI;have ln:D.len (.lst ((is.filter Q5).map It.d))=some (.int (is.filter Q5).length):=by show some (D.int ((is.filter Q5).map It.d).length)=_;rw[length_map]
   have fin:s+Q0 li (.para is)=s+2+2*((is.filter Q5).length:Int):=by show s+(2+2*((is.filter Q5).length:Int))=_;omega
   rw[fin];generalize((is.filter Q5).length:Int)=m at*;refine asg ?_ rfl;simp only[eOp,eUn,hc,bind_some,ln,eC,Qrr,eV,getElem?_cons_zero,getElem?_cons_succ,join_some,add_int]|chapter t l=>exact fm _ "chapter" _ rfl (by simp) (by simp) (by simp) (by show s+(2+(if li then 2 else 0))=_;omega)|heading t k l=>exact fm _ "heading" _ rfl (by simp) (by simp) (by simp) (by show s+(2+(if li then 2 else 0))=_;omega)|table rs l=>exact st (ifF (non _ "table" rfl (by simp)) rfl) (st (ifF (opE (x:=.str "table") (opE (x:=(Bk.table rs l).d) rfl rfl rfl) rfl (by rw[eqS];simp)) rfl) (ifF (opE (x:=.str "table") (opE (x:=(Bk.table rs l).d) rfl rfl rfl) rfl (by rw[eqS];simp)) rfl))|plates n l=>
   have fin:s+Q0 li (.plates n l)=s+2+n:=by show s+(2+n)=_;omega
   rw[fin];exact st (ifF (non _ "plates" rfl (by simp)) rfl) (st (e1:=[some B,some (.bl li),some (.int (s+2+n)),some (Bk.plates n l).d]) (ifT (opE (x:=.str "plates") (opE (x:=(Bk.plates n l).d) rfl rfl rfl) rfl (by rw[eqS];simp)) (asg (opE rfl (opE (x:=(Bk.plates n l).d) rfl rfl rfl) rfl) rfl)) (ifF (opE (x:=.str "plates") (opE (x:=(Bk.plates n l).d) rfl rfl rfl) rfl (by rw[eqS];simp)) rfl))
 ·rintro e⟨a,rfl⟩;exact ret rfl
def QaN(ns:List Int):Int:=1+mix (cell ns 4) 19%6
def Y5(ns:List Int)(w h:Int)(li:Bool):List Bk:=if li=true\/cell ns 4%3≠1 then[]else[.plates (10^(QaN ns).toNat-2) "",.table (List.replicate (h-1).toNat "") "",.para [.word (YS "w" (if w-1-QaN ns>1 then w-1-QaN ns else 1)) [],.mark "z",.ref "z" "" ""]]
theorem Qbl(ns:List Int):1<=QaN ns/\QaN ns<=6:=by unfold QaN;omega
theorem Qkw(ns:List Int)(w h:Int)(o li:Bool)(hw:4<=w/\w<=1000)(hh:2<=h/\h<=1000):QcO [.scr ns,.tup [.int w,.int h,.bl o,.bl li]]=some (bks (Y5 ns w h li)):=by
 have c4:QJ [.scr ns,.int 4]=some (.int (cell ns 4)):=VN ns 4;have kq:=QaS (cell ns 4) 19 (by decide) (by decide);unfold QcO Qgx Y5;by_cases z:li=true\/cell ns 4%3≠1
 ·rw[if_pos z];refine stD rfl ?_;refine stR ?_;rcases z with z|z;·subst z;simp[sIf,eOr,eOp,eV,eC,D.ix,ixD,Qp,Qj,Qf,lN,bks,sD]
  ·cases li<;>simp[sIf,eOr,eOp,eV,eC,D.ix,ixD,Qp,Qj,Qf,lN,lC,eK,c4,Ju,D.neO,QD,D.cmpN,QM,z,bks,sD]
 ·rw[if_neg z];have z1:li=false:=by cases li<;>simp_all
  have z2:cell ns 4%3=1:=by simp_all
  subst z1;obtain⟨eb0,eb1⟩:=Qbl ns;have en:1+mix (cell ns 4) 19%6=QaN ns:=rfl;generalize QaN ns=N at*;refine stD rfl ?_;refine st (e1:=[some (.scr ns),some (.tup [.int w,.int h,.bl o,.bl false]),none,none,none,none]) (by simp[sIf,eOr,eOp,eV,eC,D.ix,ixD,Qp,Qj,Qf,lN,lC,eK,c4,Ju,D.neO,QD,D.cmpN,QM,z2,sD,sNx]) ?_;refine st (e1:=[some (.scr ns),some (.tup [.int w,.int h,.bl o,.bl false]),some (.int N),none,none,none]) (by simp[Qe,eOp,eV,eC,lN,lC,eK,c4,kq,Ju,add_int,en,gS]) ?_;refine st (e1:=[some (.scr ns),some (.tup [.int w,.int h,.bl o,.bl false]),some (.int N),some (.int 1),none,none]) rfl ?_;obtain⟨v,el⟩:=QtG 1 (some (.scr ns)) (some (.tup [.int w,.int h,.bl o,.bl false])) (some (.int N)) none none (rD 0 N.toNat);rw[Qij,one_mul]at el;have gW:(10:Int)^N.toNat<=10^6:=by
   have:N=1\/N=2\/N=3\/N=4\/N=5\/N=6:=by omega
   rcases this with q|q|q|q|q|q<;>subst q<;>decide
  refine st (e1:=[some (.scr ns),some (.tup [.int w,.int h,.bl o,.bl false]),some (.int N),some (.int (10^N.toNat)),v,none]) (by unfold QP JB;simp only[eV,getElem?_cons_zero,getElem?_cons_succ,join_some,bind_some,QrL N (by omega)];exact el) ?_;generalize(10:Int)^N.toNat=T at*;have mx:D.max2 (.int 1) (.int (w-1-N))=some (.int (if w-1-N>1 then w-1-N else 1)):=rfl;obtain⟨M,eM,M0,M1⟩:∃M:Int,(if w-1-N>1 then w-1-N else 1)=M/\1<=M/\M<=1000:=⟨_,rfl,by split<;>omega,by split<;>omega⟩;rw[eM]at mx⊢;have wl:(Str.ofString "w").length=1:=by decide+kernel
  have mw:D.mulA (.str (Str.ofString "w")) (.int M)=some (.str (YS (Str.ofString "w") M)):=Qgo ⟨by omega,by omega,lB (by rw[wl];omega)⟩;generalize YS (Str.ofString "w") M=WW at*;refine st (e1:=[some (.scr ns),some (.tup [.int w,.int h,.bl o,.bl false]),some (.int N),some (.int T),v,some (.lst ([It.word WW [],.mark "z",.ref "z" "" ""].map It.d))]) (by simp[Qe,Qf,lC,lN,Qi,eC,eOp,eV,D.ix,ixD,D.sub,mx,mw,gS,Qd]) ?_;have hc:QF 1 [] (JB (eOp D.sub (eOp D.ix (eV 1) (eC (.int 1))) (eC (.int 1)))) (gS 0) (eC (.bl true)) (eC (.str "")) [some (.scr ns),some (.tup [.int w,.int h,.bl o,.bl false]),some (.int N),some (.int T),v,some (.lst ([It.word WW [],.mark "z",.ref "z" "" ""].map It.d))]=some (Qd (List.replicate (h-1).toNat "")):=by
   obtain⟨m,em⟩:∃m:Nat,h-1=m:=⟨(h-1).toNat,by omega⟩;rw[JL (λi:Nat=>D.int (0+(i:Int))) (List.range m) (λe=>∃v,e=[v]) (λ_=>true) (λ_=>.str "") (by show D.rng (.int (h-1))=_;rw[em];exact VJ m (by omega)) (lB (by simp;omega)) ⟨none,rfl⟩ (by
    rintro i hi e⟨v,rfl⟩;exact⟨[some (.int (0+(i:Int)))],rfl,⟨_,rfl⟩,rfl,λ_=>rfl⟩)];rw[Zt,em];unfold Qd;simp[List.map_const']
  have ds:D.sub (.int T) (.int 2)=some (.int (T-2)):=rfl;refine ret ?_;simp only[Qf,lC,Qi,lN,hc,eOp,eC,eV,getElem?_cons_zero,getElem?_cons_succ,join_some,bind_some,map_some,ds];rfl
noncomputable def YK(c:Int)(k:Nat):At:=if h:k<58 then Classical.choose (QkG c k h)else .brk
theorem Qd7(c:Int)(k:Nat)(h:k<58):VM [.int c,.int k]=some (YK c k).d/\Qoc k (YK c k):=by unfold YK;rw[dif_pos h];exact Classical.choose_spec (QkG c k h)
def J9(ns:List Int):List Int:=ZE ns none (some 63)++[7]
theorem QnA(ns:List Int):(ZE ns none (some 63)).length<=63:=by unfold ZE Yh;rw[length_take];simp only[];rw[if_neg (by decide)];omega
def Y8:Nat:=58
def JP(ns:List Int):List Int:=(List.range (mix (cell ns 5) 29%Y8).toNat).map λk:Nat=>(J9 ns).getD ((k:Int)%((J9 ns).length:Int)).toNat 0
theorem QlR(ns:List Int):(JP ns).length<Y8:=by unfold JP;rw[length_map,length_range];have h1:=emod_lt_of_pos (mix (cell ns 5) 29) (show(0:Int)<Y8 by decide);have h2:=emod_nonneg (mix (cell ns 5) 29) (show(Y8:Int)≠0 by decide);omega
theorem Qha:Y8<=58:=by decide
noncomputable def Jb(cs:List Int):List At:=cs.zipIdx.map λp=>YK p.1 p.2
theorem Qbf(cs:List Int):(Jb cs).length=cs.length:=by unfold Jb;simp
noncomputable def Qa7(cs:List Int):List Bk:=(grp (Q1 cs (Jb cs)++[.fin])).1
def AtB:At->Prop|.bk (.para _)=>False|.bk b=>BkB b|.it i=>ItB i|.brk=>True|.fin=>False
theorem QsO{k:Nat}:∀{a:At},Qoc k a->AtB a|.brk,h=>trivial|.bk (.chapter t l),h=>h.1|.bk (.heading t n l),h=>⟨h.1,h.2.1⟩|.bk (.table rs l),h=>⟨h.1,h.2.1⟩|.bk (.plates n l),h=>h.1|.it (.mark l),h=>trivial|.it (.key w),h=>h|.it (.ref l a b),h=>h.2|.it (.word w ns),h=>h|.bk (.para _),h=>h.elim|.fin,h=>h.elim
theorem Qfl:∀{a:At},AtB a->AtS a|.brk,h=>trivial|.bk (.chapter t l),h=>trivial|.bk (.heading t n l),h=>trivial|.bk (.table rs l),h=>trivial|.bk (.plates n l),h=>trivial|.it _,h=>trivial|.bk (.para _),h=>h.elim|.fin,h=>h.elim
theorem Qsd:ItB (.word (Str.ofString "lost") []):=⟨by decide+kernel,by simp,by simp⟩
theorem Qtr:ItB (.word (Str.ofString "end") []):=⟨by decide+kernel,by simp,by simp⟩
theorem QtW(ls:List Str)(cs:List Int)(i:Nat)(a:At)(h:AtB a):AtB (pt ls cs i a):=by
 unfold pt;split
 ·split;·exact Qsd
  ·exact h
 ·exact h
theorem Qkj{α:Type}{xs:List α}{p:α×Nat}(h:p∈xs.zipIdx):p.2<xs.length:=by obtain⟨x,i⟩:=p;exact(List.mem_zipIdx' h).1
theorem QeU(cs:List Int)(h:cs.length<=58):∀a∈Jb cs,AtB a:=by intro a ha;obtain⟨p,hp,rfl⟩:=List.mem_map.mp ha;exact QsO (Qd7 p.1 p.2 (by have:=Qkj hp;omega)).2
theorem QgP(cs:List Int)(as:List At)(h:∀a∈as,AtB a):∀a∈Q1 cs as,AtB a:=by intro a ha;unfold Q1 at ha;obtain⟨i,hi,rfl⟩:=List.mem_mapIdx.mp ha;exact QtW _ _ _ _ (h _ (getElem_mem hi))
theorem Qez(cs:List Int)(as:List At):(Q1 cs as).length=as.length:=by unfold Q1;simp
theorem QlW{row:List It}(h:∀i∈row,ItB i):∀i∈Qn row,ItB i:=by
 intro i hi;unfold Qn at hi;split at hi
 ·split at hi
  ·rcases List.mem_append.mp hi with z|z;·exact h i z
   ·rw[List.mem_singleton.mp z];exact Qtr
  ·exact h i hi
 ·exact h i hi
def GB(s:List Bk×List It):Prop:=(∀b∈s.1,BkB b)/\(∀i∈s.2,ItB i)
theorem QqK{s:List Bk×List It}{a:At}(hs:GB s)(ha:AtB a\/a=.fin):GB (Jy s a):=by
 obtain⟨bs,row⟩:=s;have hp:BkB (.para (Qn row)):=QlW hs.2;have h1:∀b∈bs++[.para (Qn row)],BkB b:=by
  intro b hb;rcases List.mem_append.mp hb with z|z;·exact hs.1 b z
  ·rw[List.mem_singleton.mp z];exact hp
 have h2:∀b∈(if Qn row=[]then bs else bs++[.para (Qn row)]),BkB b:=by
  intro b hb;split at hb;·exact hs.1 b hb
  ·exact h1 b hb
 cases a with
 |it i=>
  refine⟨hs.1,λj hj=>?_⟩;rcases List.mem_append.mp hj with z|z;·exact hs.2 j z
  ·rw[List.mem_singleton.mp z];rcases ha with q|q;·exact q
   ·cases q|bk b=>
  refine⟨λj hj=>?_,λj hj=>by cases hj⟩;rcases List.mem_append.mp hj with z|z;·exact h2 j z
  ·rw[List.mem_singleton.mp z];rcases ha with q|q;·cases b<;>first|exact q|exact q.elim
   ·cases q|brk=>exact⟨h1,λj hj=>by cases hj⟩|fin=>exact⟨h2,λj hj=>by cases hj⟩
theorem Qst(as:List At):∀s,GB s->(∀a∈as,AtB a\/a=.fin)->GB (as.foldl Jy s):=by induction as with|nil=>intro s h _;exact h|cons a as ih=>intro s h ha;exact ih _ (QqK h (ha a mem_cons_self)) λx hx=>ha x (mem_cons_of_mem _ hx)
def tot(s:List Bk×List It):Nat:=(s.1.flatMap iO).length+s.2.length
theorem Qnp(s:List Bk×List It)(a:At)(ha:AtS a\/a=.fin):tot (Jy s a)<=tot s+1:=by
 obtain⟨bs,row⟩:=s;have hc:=Qjp row;have h1:((bs++[Bk.para (Qn row)]).flatMap iO).length=(bs.flatMap iO).length+(Qn row).length:=by rw[flatMap_append,length_append];simp[iO]
 have h2:((if Qn row=[]then bs else bs++[Bk.para (Qn row)]).flatMap iO).length<=(bs.flatMap iO).length+(Qn row).length:=by
  split;·omega
  ·rw[h1];omega
 unfold tot;cases a with
 |it i=>simp only[Jy,length_append,length_cons,length_nil];omega|bk b=>
  have hb:iO b=[]:=by
   rcases ha with q|q;·cases b<;>first|rfl|exact q.elim
   ·cases q
  simp only[Jy,flatMap_append,length_append,length_nil,flatMap_cons,List.flatMap_nil,hb,append_nil];omega|brk=>simp only[Jy,h1,length_nil];omega|fin=>simp only[Jy,length_nil];omega
theorem Qpb(as:List At):∀s,(∀a∈as,AtS a\/a=.fin)->tot (as.foldl Jy s)<=tot s+as.length:=by induction as with|nil=>intro s _;exact le_refl _|cons a as ih=>intro s ha;have h1:=Qnp s a (ha a mem_cons_self);have h2:=ih (Jy s a) λx hx=>ha x (mem_cons_of_mem _ hx);rw[foldl_cons,length_cons];omega
theorem QhK(cs:List Int)(h:cs.length<58):∀a∈Q1 cs (Jb cs)++[At.fin],AtB a\/a=.fin:=by
 intro a ha;rcases List.mem_append.mp ha with z|z;·exact .inl (QgP cs _ (QeU cs (by omega)) a z)
 ·exact .inr (List.mem_singleton.mp z)
theorem Qq9(cs:List Int)(h:cs.length<58):∀b∈Qa7 cs,BkB b:=(Qst _ ([],[]) (by simp[GB]) (QhK cs h)).1
theorem Qny(cs:List Int)(h:cs.length<58):(Qa7 cs).length<=116/\((Qa7 cs).flatMap iO).length<=58:=by
 have h1:=(Qkq (Q1 cs (Jb cs)++[At.fin]) ([],[])).1;have h2:=Qpb (Q1 cs (Jb cs)++[At.fin]) ([],[]) (λa ha=>by
  rcases QhK cs h a ha with z|z;·exact .inl (Qfl z)
  ·exact .inr z);have hl:(Q1 cs (Jb cs)++[At.fin]).length<=58:=by rw[length_append,Qez,Qbf];simp;omega
 unfold tot at h2;unfold Qa7 grp;simp at h1 h2 hl⊢;omega
theorem Qpp(cs:List Int)(h:cs.length<58):YI [.lst ((Q1 cs (Jb cs)).map At.d)]=some (bks (Qa7 cs)):=QlG _ (by rw[Qez,Qbf];omega) λa ha=>Qfl (QgP cs _ (QeU cs (by omega)) a ha)
theorem QcM{m M:Int}{xs:List Int}(h:m<=M)(hx:∀x∈xs,x<=M):Jo m xs<=M:=by
 rcases(VO xs m).1 with z|z;·rw[z];exact h
 ·exact hx _ z
theorem Qbi(m:Int)(xs:List Int):m<=Jo m xs:=(VO xs m).2.1
theorem QbK{m x:Int}{xs:List Int}(h:x∈xs):x<=Jo m xs:=(VO xs m).2.2 x h
theorem Qbd(bD:List (List Str)):∀w,w<=bD.foldl (λw ns=>Jo w (Yi ns)) w:=by induction bD with|nil=>intro w;exact Int.le_refl _|cons ns bD ih=>intro w;exact Int.le_trans (Qbi w _) (ih _)
theorem QlH{M:Int}(bD:List (List Str))(h:∀ns∈bD,∀r∈ns,(r.length:Int)<=M):∀w,w<=M->bD.foldl (λw ns=>Jo w (Yi ns)) w<=M:=by induction bD with|nil=>intro w hw;exact hw|cons ns bD ih=>intro w hw;refine ih (λx hx=>h x (mem_cons_of_mem _ hx)) _ (QcM hw λx hx=>?_);obtain⟨r,hr,rfl⟩:=List.mem_map.mp hx;exact h ns mem_cons_self r hr
theorem QjX(bD:List (List Str)):∀w,∀ns∈bD,∀r∈ns,(r.length:Int)<=bD.foldl (λw ns=>Jo w (Yi ns)) w:=by induction bD with|nil=>intro w ns h;cases h|cons n0 bD ih=>
  intro w ns h r hr;rcases List.mem_cons.mp h with z|z
  ·subst z;exact Int.le_trans (QbK (m:=w) (List.mem_map.mpr ⟨r,hr,rfl⟩)) (Qbd bD _)
  ·exact ih _ ns z r hr
theorem QgV{is:List It}{w:Str}{ns:List Str}(h:It.word w ns∈is):ns∈Yq is:=List.mem_map.mpr ⟨_,List.mem_filter.mpr ⟨h,rfl⟩,rfl⟩
theorem QoP{af w M:Int}{b:Bk}(hb:BkB b)(h0:0<=af)(hM:43+af<=M)(hw:w<=M):J7 af w b<=M:=by cases b with|chapter t l=>have:=hb.2;simp only[J7];split<;>omega|heading t k l=>have:=hb.1.2;simp only[J7];split<;>omega|plates n l=>exact hw|table rs l=>refine QcM hw λx hx=>?_;obtain⟨r,hr,rfl⟩:=List.mem_map.mp hx;have:=hb.2 r hr;omega|para is=>
  have hi:∀i∈is,ItB i:=hb;refine QlH _ (λns hn r hr=>?_) _ (QcM (QcM hw λx hx=>?_) λx hx=>?_);·have:=(Qgn hi ns hn).2 r hr;omega
  ·obtain⟨i,hr,rfl⟩:=List.mem_map.mp hx;have h1:=hi i (List.mem_filter.mp hr).1;cases i with
   |ref l a b=>have:=h1.1;have:=h1.2;simp only[QdF];omega|_=>simp only[QdF];omega
  ·obtain⟨i,hr,rfl⟩:=List.mem_map.mp hx;have h1:=hi i (List.mem_filter.mp hr).1;cases i with|word w ns=>have:=h1.1.2;simp only[QdD];omega|_=>simp only[QdD];omega
theorem QoR{h M:Int}{b:Bk}(hb:BkB b)(hM:31<=M)(hh:h<=M):J8 h b<=M:=by cases b with|heading t k l=>have:=hb.2;simp only[J8];split<;>omega|table rs l=>have:=hb.1;simp only[J8];split<;>omega|para is=>refine QcM hh λx hx=>?_;obtain⟨ns,hn,rfl⟩:=List.mem_map.mp hx;have:=(Qgn (show∀i∈is,ItB i from hb) ns hn).1;omega|_=>exact hh
theorem QoQ(af w:Int)(b:Bk):w<=J7 af w b:=by cases b with|chapter t l=>simp only[J7];split<;>omega|heading t k l=>simp only[J7];split<;>omega|plates n l=>exact Int.le_refl _|table rs l=>exact Qbi _ _|para is=>exact Int.le_trans (Int.le_trans (Qbi _ _) (Qbi _ _)) (Qbd _ _)
theorem QoS(h:Int)(b:Bk):h<=J8 h b:=by cases b with|heading t k l=>simp only[J8];split<;>omega|table rs l=>simp only[J8];split<;>omega|para is=>exact Qbi _ _|_=>exact Int.le_refl _
noncomputable def Qk3(af w h:Int):It->Prop|.word x ns=>(x.length:Int)<=w/\1+(ns.length:Int)<=h/\∀r∈ns,(r.length:Int)<=w|.ref _ a b=>(a.length:Int)+af+b.length<=w|_=>True
def QhR(af w h:Int):Bk->Prop|.chapter t _=>(t.length:Int)+2+af<=w|.heading t k _=>(t.length:Int)+2+af<=w/\k+1<=h|.table rs _=>(rs.length:Int)<=h/\∀r∈rs,(r.length:Int)<=w|.para is=>∀i∈is,Qk3 af w h i|.plates _ _=>True
theorem Qnq{af w h w' h':Int}{i:It}(hw:w<=w')(hh:h<=h')(f:Qk3 af w h i):Qk3 af w' h' i:=by cases i with|word x ns=>exact⟨Int.le_trans f.1 hw,Int.le_trans f.2.1 hh,λr hr=>Int.le_trans (f.2.2 r hr) hw⟩|ref l a b=>exact Int.le_trans f hw|_=>trivial
theorem Qnr{af w h w' h':Int}{b:Bk}(hw:w<=w')(hh:h<=h')(f:QhR af w h b):QhR af w' h' b:=by cases b with|chapter t l=>exact Int.le_trans f hw|heading t k l=>exact⟨Int.le_trans f.1 hw,Int.le_trans f.2 hh⟩|table rs l=>exact⟨Int.le_trans f.1 hh,λr hr=>Int.le_trans (f.2 r hr) hw⟩|para is=>exact λi hi=>Qnq hw hh (f i hi)|plates n l=>trivial
theorem QoO(af w h:Int)(b:Bk):QhR af (J7 af w b) (J8 h b) b:=by cases b with
 |chapter t l=>show _<=J7 _ _ _;simp only[J7];split<;>omega|heading t k l=>
  refine⟨?_,?_⟩;·simp only[J7];split<;>omega
  ·simp only[J8];split<;>omega|plates n l=>trivial|table rs l=>
  refine⟨?_,λr hr=>QbK (List.mem_map.mpr ⟨r,hr,rfl⟩)⟩;simp only[J8];split<;>omega|para is=>
  intro i hi;cases i with
  |word x ns=>
   refine⟨Int.le_trans (QbK (List.mem_map.mpr ⟨It.word x ns,List.mem_filter.mpr ⟨hi,rfl⟩,rfl⟩)) (Qbd _ _),?_,λr hr=>?_⟩;·exact QbK (List.mem_map.mpr ⟨ns,QgV hi,rfl⟩)
   ·exact QjX _ _ ns (QgV hi) r hr|ref l a b=>exact Int.le_trans (Int.le_trans (QbK (List.mem_map.mpr ⟨It.ref l a b,List.mem_filter.mpr ⟨hi,rfl⟩,rfl⟩)) (Qbi _ _)) (Qbd _ _)|_=>trivial
theorem QgR(af M H:Int)(h0:0<=af)(hM:43+af<=M)(hH:31<=H):∀(bs:List Bk)(s:Int×Int),(∀b∈bs,BkB b)->s.1<=M->s.2<=H->let r:=bs.foldl (λs b=>(J7 af s.1 b,J8 s.2 b)) s
  s.1<=r.1/\r.1<=M/\s.2<=r.2/\r.2<=H/\∀b∈bs,QhR af r.1 r.2 b
 |[],s,_,h1,h2=>⟨Int.le_refl _,h1,Int.le_refl _,h2,λ_ h=>by cases h⟩|b::bs,s,hb,h1,h2=>by
  obtain⟨a1,a2,a3,a4,a5⟩:=QgR af M H h0 hM hH bs (J7 af s.1 b,J8 s.2 b) (λx hx=>hb x (mem_cons_of_mem _ hx)) (QoP (hb b mem_cons_self) h0 hM h1) (QoR (hb b mem_cons_self) hH h2);refine⟨Int.le_trans (QoQ _ _ _) a1,a2,Int.le_trans (QoS _ _) a3,a4,λx hx=>?_⟩;rcases List.mem_cons.mp hx with z|z;·subst z;exact Qnr a1 a3 (QoO af s.1 s.2 x)
  ·exact a5 x z
theorem Qpq{li:Bool}{b:Bk}(hb:BkB b)(hl:(iO b).length<=1000):2<=Q0 li b/\Q0 li b<=10^39+3000:=by
 have:(3000:Int)<=10^39:=by decide
 cases b with
 |chapter t l=>simp only[Q0];split<;>omega|heading t k l=>simp only[Q0];split<;>omega|table rs l=>simp only[Q0];omega|plates n l=>have h1:=hb.1;have h2:=hb.2;simp only[Q0];omega|para is=>have h1:=length_filter_le Q5 is;have h2:is.length<=1000:=hl;simp only[Q0];omega
theorem Qml(li:Bool):∀(bs:List Bk)(s:Int),(∀b∈bs,BkB b/\(iO b).length<=1000)->s<=bs.foldl (λs b=>s+Q0 li b) s/\bs.foldl (λs b=>s+Q0 li b) s<=s+bs.length*(10^39+3000)
 |[],s,_=>by simp|b::bs,s,h=>by
  have h1:=Qpq (li:=li) (h b mem_cons_self).1 (h b mem_cons_self).2;have h2:=Qml li bs (s+Q0 li b) (λx hx=>h x (mem_cons_of_mem _ hx));rw[foldl_cons,length_cons];refine⟨by omega,Int.le_trans h2.2 ?_⟩;have:((bs.length+1:Nat):Int)*(10^39+3000)=bs.length*(10^39+3000)+(10^39+3000):=by rw[show((bs.length+1:Nat):Int)=(bs.length:Int)+1 from by omega,Int.add_mul,one_mul]
  omega
def dLi(ns:List Int):Bool:=decide (cell ns 3%2=1)
def dO(ns:List Int):Bool:=decide (cell ns 2%2=1)
def dE0(ns:List Int):List Bk:=Y5 ns 4 2 (dLi ns)
noncomputable def dBk(ns:List Int):List Bk:=Qa7 (JP ns)
noncomputable def Yr(ns:List Int):Int:=most (dLi ns) (dE0 ns++dBk ns)
noncomputable def dR(ns:List Int):Int:=JC (Yr ns).toNat
noncomputable def Jd(ns:List Int):Int×Int:=Qk9 (dR ns) (dBk ns++dE0 ns)
noncomputable def Vn(ns:List Int):Int:=if(dE0 ns).isEmpty then(Jd ns).1 else if dR ns+2>(Jd ns).1 then dR ns+2 else(Jd ns).1
noncomputable def dW(ns:List Int):Int:=if 4+mix (cell ns 0) 1%30>Vn ns then 4+mix (cell ns 0) 1%30 else Vn ns
noncomputable def dH(ns:List Int):Int:=if cell ns 1%5=1 then if 2+mix (cell ns 1) 4%59>(Jd ns).2 then 2+mix (cell ns 1) 4%59 else(Jd ns).2 else if 2+mix (cell ns 1) 2%5>(Jd ns).2 then 2+mix (cell ns 1) 2%5 else(Jd ns).2
noncomputable def YU(ns:List Int):List Bk:=Y5 ns (dW ns) (dH ns) (dLi ns)++dBk ns
theorem Zu:(Str.ofString "").length=0:=by decide+kernel
theorem Qps(n:Int):(YS (Str.ofString "w") n).length=n.toNat:=by rw[QeP,show(Str.ofString "w").length=1 from by decide+kernel];omega
theorem QbN(ns:List Int)(w h:Int)(li:Bool):(Y5 ns w h li).length<=3/\((Y5 ns w h li).flatMap iO).length<=3:=by
 unfold Y5;split;·simp
 ·simp[iO]
theorem QnU{n:Int}(h:1<=n/\n<=6):(10:Int)<=10^n.toNat/\(10:Int)^n.toNat<=10^6:=by
 have:n=1\/n=2\/n=3\/n=4\/n=5\/n=6:=by omega
 rcases this with q|q|q|q|q|q<;>subst q<;>decide
theorem Qlf(ns:List Int):∀b∈dE0 ns,BkB b:=by
 intro b hb;unfold dE0 Y5 at hb;have h6:=QnU (Qbl ns);have hN:=Qbl ns;split at hb;·cases hb
 ·simp only[mem_cons,not_mem_nil,or_false]at hb;rcases hb with z|z|z
  ·subst z;have:(10:Int)^6<=10^39:=by decide
   exact⟨by omega,by omega⟩
  ·subst z;refine⟨by simp,λr hr=>?_⟩;rw[List.eq_of_mem_replicate hr,Zu];omega
  ·subst z;intro i hi;simp only[mem_cons,not_mem_nil,or_false]at hi;rcases hi with z|z|z<;>subst z
   ·refine⟨?_,by simp,by simp⟩;rw[Qps];split<;>omega
   ·trivial
   ·exact⟨by rw[Zu];omega,by rw[Zu];omega⟩
theorem Qks{xs ys:List Bk}{a b:Nat}(h1:xs.length<=a/\(xs.flatMap iO).length<=a)(h2:ys.length<=b/\(ys.flatMap iO).length<=b)(h:a+b<=100000):Few (xs++ys):=by
 refine⟨?_,?_⟩;·rw[length_append];omega
 ·rw[flatMap_append,length_append];omega
theorem QaZ(ns:List Int):(JP ns).length<58:=lt_of_lt_of_le (QlR ns) Qha
theorem Qeu(ns:List Int):(dBk ns).length<=116/\((dBk ns).flatMap iO).length<=116:=by have:=Qny (JP ns) (QaZ ns);exact⟨this.1,by have:=this.2;unfold dBk;omega⟩
theorem Qfk(ns:List Int):∀b∈dBk ns,BkB b:=Qq9 _ (QaZ ns)
theorem QkC(ns:List Int):3<=Yr ns/\Yr ns<10^42:=by
 have h:=Qml (dLi ns) (dE0 ns++dBk ns) 3 (λb hb=>by
  have h1:BkB b:=by
   rcases List.mem_append.mp hb with z|z;·exact Qlf ns b z
   ·exact Qfk ns b z
  refine⟨h1,?_⟩;have hf:((dE0 ns++dBk ns).flatMap iO).length<=119:=by
   rw[flatMap_append,length_append];have h1:=(QbN ns 4 2 (dLi ns)).2;have h2:=(Qeu ns).2;unfold dE0;omega
  obtain⟨s,t,e⟩:=List.append_of_mem hb;rw[e,flatMap_append,flatMap_cons]at hf;simp only[length_append]at hf;omega);have hl:((dE0 ns++dBk ns).length:Int)<=119:=by
  rw[length_append];have h1:=(QbN ns 4 2 (dLi ns)).1;have h2:=(Qeu ns).1;unfold dE0;omega
 refine⟨h.1,?_⟩;have h2:Yr ns<=3+((dE0 ns++dBk ns).length:Int)*(10^39+3000):=h.2;have h3:((dE0 ns++dBk ns).length:Int)*(10^39+3000)<=119*(10^39+3000):=Int.mul_le_mul_of_nonneg_right hl (by decide);have h4:(3:Int)+119*(10^39+3000)<10^42:=by decide
 omega
theorem Qet(ns:List Int):1<=dR ns/\dR ns<=42:=by
 have h:=QkC ns;have h1:=Qpf (Yr ns).toNat;have h2:JC (Yr ns).toNat<=42:=(Nat.length_toDigits_le_iff (by decide) (by decide)).mpr (by
  have:((10^42:Nat):Int)=10^42:=by decide
  omega);unfold dR;omega
theorem Qb6(ns:List Int):4<=(Jd ns).1/\(Jd ns).1<=85/\2<=(Jd ns).2/\(Jd ns).2<=31/\∀b∈dBk ns++dE0 ns,QhR (dR ns) (Jd ns).1 (Jd ns).2 b:=by
 have hr:=Qet ns;exact QgR (dR ns) 85 31 (by omega) (by omega) (by decide) (dBk ns++dE0 ns) (4,2) (λb hb=>by
  rcases List.mem_append.mp hb with z|z;·exact Qfk ns b z
  ·exact Qlf ns b z) (by decide) (by decide)
theorem Qq7(ns:List Int):(Jd ns).1<=Vn ns/\Vn ns<=85:=by
 have h1:=Qb6 ns;have h2:=Qet ns;unfold Vn;split;·omega
 ·split<;>omega
theorem Qn5(ns:List Int):Vn ns<=dW ns/\4<=dW ns/\dW ns<=90:=by have h1:=Qb6 ns;have h2:=Qq7 ns;unfold dW;split<;>omega
theorem Qk1(ns:List Int):(Jd ns).2<=dH ns/\2<=dH ns/\dH ns<=60:=by
 have h1:=Qb6 ns;unfold dH;split;·split<;>omega
 ·split<;>omega
theorem VZ{xs ys:List Bk}(h:xs.length+ys.length<=lI):D.add (bks xs) (bks ys)=some (bks (xs++ys)):=QdJ (f:=Bk.d) h
theorem Qtg(xs:List Bk):D.neO (bks xs) (.lst [])=some (.bl (!xs.isEmpty)):=QpA Qmt (by decide) xs
theorem QnG(ns:List Int)(e:Qh)(hc:Qci 1 [1] e=[none,some (.lst ((J9 ns).map .int))])(a:EvE)(ha:a e=some (.int (mix (cell ns 5) 29%Y8))):QF 1 [1] (JB a) (gS 0) (eC (.bl true)) (eOp D.ix (eV 1) (eOp D.mod (eV 0) (eUn D.len (eV 1)))) e=some (.lst ((JP ns).map .int)):=by
 obtain⟨m,em⟩:∃m:Nat,mix (cell ns 5) 29%Y8=m:=⟨(mix (cell ns 5) 29%Y8).toNat,by have:=emod_nonneg (mix (cell ns 5) 29) (show(Y8:Int)≠0 by decide);omega⟩;have hm:m<=58:=by
  have h1:=emod_lt_of_pos (mix (cell ns 5) 29) (show(0:Int)<Y8 by decide);have:=Qha;omega
 rw[JL (λi:Nat=>D.int (0+(i:Int))) (List.range m) (λe=>∃v,e=[v,some (.lst ((J9 ns).map .int))]) (λ_=>true) (λi:Nat=>.int ((J9 ns).getD ((i:Int)%((J9 ns).length:Int)).toNat 0)) (by unfold JB;rw[ha,em];exact VJ m (by omega)) (lB (by simp;omega)) ⟨none,hc⟩ (by
  rintro i hi e⟨v,rfl⟩;refine⟨[some (.int (0+(i:Int))),some (.lst ((J9 ns).map .int))],rfl,⟨_,rfl⟩,rfl,λ_=>?_⟩;have hn:(0:Int)<((J9 ns).length:Int):=by unfold J9;simp only[length_append,length_cons,length_nil];omega
  have ln:D.len (.lst ((J9 ns).map .int))=some (.int (J9 ns).length):=by
   show some (D.int ((J9 ns).map D.int).length)=_;rw[length_map]
  have md:D.mod (.int (i:Int)) (.int ((J9 ns).length:Int))=some (.int ((i:Int)%((J9 ns).length:Int))):=QaL hn;have eX:=Qf9 (f:=D.int) (J9 ns) ((i:Int)%((J9 ns).length:Int)) 0 (emod_nonneg _ (by omega)) (emod_lt_of_pos _ hn);generalize(J9 ns).map D.int=EV at*;simp[eOp,eV,eUn,ln,md,eX])];rw[Zt];unfold JP;rw[em,map_map];rfl
theorem QlY(cs:List Int)(A:Int×Nat->At)(hl:cs.length<=58)(e:Qh)(h2:eV 2 e=some (.lst (cs.map .int)))(hA:∀p∈cs.zipIdx,∀j:Int,j=p.2->VM [.int p.1,.int j]=some (A p).d):QF 2 [] (VD (eV 2)) (Q4 [gS 0,gS 1]) (eC (.bl true)) (eK VM (lC (eV 1) (lC (eV 0) lN))) e=some (.lst ((cs.zipIdx.map A).map At.d)):=by rw[JL (λp:Int×Nat=>D.tup [.int p.2,.int p.1]) cs.zipIdx (λe=>∃u v,e=[u,v]) (λ_=>true) (λp:Int×Nat=>(A p).d) (by unfold VD;rw[h2];show some (VE 0 (cs.map .int))=_;rw[Qdd]) (lB (by simp;omega)) ⟨none,none,rfl⟩ (by rintro p hp e⟨u,v,rfl⟩;obtain⟨j,ej⟩:∃j:Int,(p.2:Int)=j:=⟨_,rfl⟩;have h:=hA p hp j ej.symm;rw[ej];refine⟨[some (.int j),some (.int p.1)],rfl,⟨_,_,rfl⟩,rfl,λ_=>?_⟩;generalize(A p).d=X at*;simp only[eK,lC,lN,eV,getElem?_cons_zero,getElem?_cons_succ,join_some,bind_some,map_some,h])];rw[Zt,map_map];rfl
theorem QnR(ns:List Int)(e:Qh)(h2:eV 2 e=some (.lst ((JP ns).map .int))):QF 2 [] (VD (eV 2)) (Q4 [gS 0,gS 1]) (eC (.bl true)) (eK VM (lC (eV 1) (lC (eV 0) lN))) e=some (.lst ((Jb (JP ns)).map At.d)):=by have hl:=QaZ ns;exact QlY (JP ns) (λp=>YK p.1 p.2) (by omega) e h2 (λp hp j ej=>by rw[ej];exact(Qd7 p.1 p.2 (by have:=Qkj hp;omega)).1)
theorem Qof(r n:Int)(E0:D)(b:Bool)(nb:D.neO E0 (.lst [])=some (.bl (!b)))(hn:0<=n)(e:Qh)(h5:eV 5 e=some E0)(h6:eV 6 e=some (.int r))(h7:eV 7 e=some (.int n)):eOp D.max2 (eV 7) (eOp D.mulA (eOp D.add (eV 6) (eC (.int 2))) (eUn D.intB (eOp D.neO (eV 5) (Qf lN)))) e=some (.int (if(!b)=true then(if r+2>n then r+2 else n)else n)):=by
 have ad:eOp D.add (eV 6) (eC (.int 2)) e=some (.int (r+2)):=opE h6 rfl rfl;cases b with
 |false=>
  have ml:D.mulA (.int (r+2)) (.int 1)=some (.int (r+2)):=by rw[QE,Qeh (by decide),Int.mul_one]
  exact opE h7 (opE ad (unE (opE h5 rfl nb) rfl) ml) rfl|true=>
  have ml:D.mulA (.int (r+2)) (.int 0)=some (.int 0):=by rw[QE,Qeh (by decide),Int.mul_zero]
  refine opE h7 (opE ad (unE (opE h5 rfl nb) rfl) ml) ?_;show some (D.int (if 0>n then 0 else n))=_;rw[if_neg (by omega)];rfl
theorem Qpd(ns:List Int):Qav [.scr ns]=some (.tup [bks (YU ns),.tup [.int (dW ns),.int (dH ns),.bl (dO ns),.bl (dLi ns)],.int (dR ns)]):=by
 have cl:=QaZ ns;have hB:=Qeu ns;have hE:=QbN ns 4 2 (dLi ns);have fU:=QbN ns (dW ns) (dH ns) (dLi ns);have hm:=QkC ns;have hn:=Qb6 ns;have hw:=Qn5 ns;have hh:=Qk1 ns;have eE:Y5 ns 4 2 (dLi ns)=dE0 ns:=rfl;rw[eE]at hE;have c0:QJ [.scr ns,.int 0]=some (.int (cell ns 0)):=VN ns 0;have c1:QJ [.scr ns,.int 1]=some (.int (cell ns 1)):=VN ns 1;have c2:QJ [.scr ns,.int 2]=some (.int (cell ns 2)):=VN ns 2;have c3:QJ [.scr ns,.int 3]=some (.int (cell ns 3)):=VN ns 3;have c5:QJ [.scr ns,.int 5]=some (.int (cell ns 5)):=VN ns 5;have ko:=QaS (cell ns 5) 29 (by decide) (by decide);have m1:=QaS (cell ns 0) 1 (by decide) (by decide);have m2:=QaS (cell ns 1) 2 (by decide) (by decide);have m4:=QaS (cell ns 1) 4 (by decide) (by decide);have cu:ZF (.scr ns) none (some 63)=some (.lst ((ZE ns none (some 63)).map .int)):=rfl;have ev:D.add (.lst ((ZE ns none (some 63)).map .int)) (.lst [.int 7])=some (.lst ((J9 ns).map .int)):=QdJ (f:=D.int) (ys:=[7]) (lB (by have:=QnA ns;simp;omega));have pe:=Qlp (Jb (JP ns)) (JP ns) (Qbf _) (by rw[Qbf];omega) (λa ha=>Qfl (QeU _ (by omega) a ha));have ge:=Qpp (JP ns) cl;have ee:=Qkw ns 4 2 false (dLi ns) (by decide) (by decide);have mh:=Qkw ns (dW ns) (dH ns) (dO ns) (dLi ns) (by omega) (by omega);have fw:Few (dE0 ns++dBk ns):=Qks hE hB (by decide);have l6:Few (dBk ns++dE0 ns):=Qks hB hE (by decide);have a1:D.add (bks (dE0 ns)) (bks (dBk ns))=some (bks (dE0 ns++dBk ns)):=VZ (lB (by omega));have a2:D.add (bks (dBk ns)) (bks (dE0 ns))=some (bks (dBk ns++dE0 ns)):=VZ (lB (by omega));have a3:D.add (bks (Y5 ns (dW ns) (dH ns) (dLi ns))) (bks (dBk ns))=some (bks (YU ns)):=VZ (lB (by omega));have mo:VL [bks (dE0 ns++dBk ns),.bl (dLi ns)]=some (.int (Yr ns)):=Qgp _ _ fw;have ne:QbM [bks (dBk ns++dE0 ns),.int (dR ns)]=some (.tup [.int (Jd ns).1,.int (Jd ns).2]):=QoN _ _ l6 (λb hb=>by
  rcases List.mem_append.mp hb with z|z;·exact Qfk ns b z
  ·exact Qlf ns b z);have nb:=Qtg (dE0 ns);have ij:0<=(Jd ns).1:=by omega
 have cT:D.strI (.int (Yr ns))=some (.str (Str.ofString (toString (Yr ns)))):=if_pos (by
  have:(10:Nat)^42<2^1900:=by decide+kernel
  have:((10^42:Nat):Int)=10^42:=by decide
  omega);have dB:(Str.ofString (toString (Yr ns))).length=JC (Yr ns).toNat:=by
  have:Yr ns=((Yr ns).toNat:Int):=by omega
  conv=>lhs;rw[this]
  exact Qek _
 have hr:=Qet ns;have d7:D.len (.str (Str.ofString (toString (Yr ns))))=some (.int (dR ns)):=by rw[Yj (by rw[dB];have:dR ns=JC (Yr ns).toNat:=rfl;omega),dB];rfl
 have mq:(if(!(dE0 ns).isEmpty)=true then(if dR ns+2>(Jd ns).1 then dR ns+2 else(Jd ns).1)else(Jd ns).1)=Vn ns:=by unfold Vn;cases(dE0 ns).isEmpty<;>rfl
 have my:D.eqO (.int (cell ns 3%2)) (.int 1)=some (.bl (dLi ns)):=by simp[D.eqO,QD,QM,D.cmp,dLi]
 have mr:D.eqO (.int (cell ns 2%2)) (.int 1)=some (.bl (dO ns)):=by simp[D.eqO,QD,QM,D.cmp,dO]
 have iU:D.eqO (.int (cell ns 1%5)) (.int 1)=some (.bl (decide (cell ns 1%5=1))):=by simp[D.eqO,QD,QM,D.cmp]
 unfold Qav Qe0;refine stD rfl ?_;refine st (e1:=[some (.scr ns),some (.lst ((J9 ns).map .int)),none,none,none,none,none,none,none,none,none,none]) (asg (by simp only[eOp,Jh,eV,sD,map_cons,map_nil,List.cons_append,nil_append,getElem?_cons_zero,join_some,bind_some,oNo,oAt,eC,cu,Qf,lC,lN,map_some,ev]) rfl) ?_;refine st (e1:=[some (.scr ns),some (.lst ((J9 ns).map .int)),some (.lst ((JP ns).map .int)),none,none,none,none,none,none,none,none,none]) (asg (QnG ns _ rfl _ (by simp[eOp,eK,lC,lN,eV,eC,c5,ko,Ju,Y8])) rfl) ?_;have ac:=QnR ns [some (.scr ns),some (.lst ((J9 ns).map .int)),some (.lst ((JP ns).map .int)),none,none,none,none,none,none,none,none,none] rfl;generalize hCE:(JP ns).map D.int=CE at*;generalize hEV:(J9 ns).map D.int=EV at*;refine st (e1:=[some (.scr ns),some (.lst EV),some (.lst CE),some (bks (dBk ns)),none,none,none,none,none,none,none,none]) (asg (by have lZ:YI [.lst ((Q1 (JP ns) (Jb (JP ns))).map At.d)]=some (bks (dBk ns)):=ge;generalize(Q1 (JP ns) (Jb (JP ns))).map At.d=P at*;generalize(Jb (JP ns)).map At.d=A at*;simp only[eK,lC,lN,ac,eV,getElem?_cons_zero,getElem?_cons_succ,join_some,bind_some,map_some,pe,lZ]) rfl) ?_;refine st (e1:=[some (.scr ns),some (.lst EV),some (.lst CE),some (bks (dBk ns)),some (.bl (dLi ns)),none,none,none,none,none,none,none]) (asg (by simp[eOp,eK,lC,lN,eV,eC,c3,Ju,my]) rfl) ?_;rw[eE]at ee;generalize Str.ofString (toString (Yr ns))=SM at*;generalize bks (YU ns)=ALL at*;generalize bks (Y5 ns (dW ns) (dH ns) (dLi ns))=ED at*;generalize bks (dE0 ns++dBk ns)=EB at*;generalize bks (dBk ns++dE0 ns)=BE at*;generalize bks (dE0 ns)=E0 at*;generalize bks (dBk ns)=BK at*;refine st (e1:=[some (.scr ns),some (.lst EV),some (.lst CE),some BK,some (.bl (dLi ns)),some E0,none,none,none,none,none,none]) (asg (by simp[eK,Qi,lC,lN,eV,eC,ee]) rfl) ?_;refine st (e1:=[some (.scr ns),some (.lst EV),some (.lst CE),some BK,some (.bl (dLi ns)),some E0,some (.int (dR ns)),none,none,none,none,none]) (asg (by simp[eUn,eOp,eK,lC,lN,eV,a1,mo,cT,d7]) rfl) ?_;refine st (e1:=[some (.scr ns),some (.lst EV),some (.lst CE),some BK,some (.bl (dLi ns)),some E0,some (.int (dR ns)),some (.int (Jd ns).1),some (.int (Jd ns).2),none,none,none]) (asg (d:=.tup [.int (Jd ns).1,.int (Jd ns).2]) (by simp only[eOp,eK,lC,lN,eV,getElem?_cons_zero,getElem?_cons_succ,join_some,bind_some,map_some,a2,ne]) rfl) ?_;refine st (e1:=[some (.scr ns),some (.lst EV),some (.lst CE),some BK,some (.bl (dLi ns)),some E0,some (.int (dR ns)),some (.int (Vn ns)),some (.int (Jd ns).2),none,none,none]) (asg (by rw[<-mq];exact Qof (dR ns) (Jd ns).1 E0 (dE0 ns).isEmpty nb ij _ rfl rfl rfl) rfl) ?_;refine st (e1:=[some (.scr ns),some (.lst EV),some (.lst CE),some BK,some (.bl (dLi ns)),some E0,some (.int (dR ns)),some (.int (Vn ns)),some (.int (Jd ns).2),some (.int (dW ns)),none,none]) (asg (by unfold dW;simp[eOp,eV,eC,eK,lC,lN,c0,m1,Ju,add_int,D.max2]) rfl) ?_;obtain⟨H0,jZ⟩:∃H0:Int,(if 2+mix (cell ns 1) 2%5>(Jd ns).2 then 2+mix (cell ns 1) 2%5 else(Jd ns).2)=H0:=⟨_,rfl⟩;refine st (e1:=[some (.scr ns),some (.lst EV),some (.lst CE),some BK,some (.bl (dLi ns)),some E0,some (.int (dR ns)),some (.int (Vn ns)),some (.int (Jd ns).2),some (.int (dW ns)),some (.int H0),none]) (asg (by rw[<-jZ];simp[eOp,eV,eC,eK,lC,lN,c1,m2,Ju,add_int,D.max2]) rfl) ?_;refine st (e1:=[some (.scr ns),some (.lst EV),some (.lst CE),some BK,some (.bl (dLi ns)),some E0,some (.int (dR ns)),some (.int (Vn ns)),some (.int (Jd ns).2),some (.int (dW ns)),some (.int (dH ns)),none]) (by
  unfold dH;by_cases z:cell ns 1%5=1
  ·rw[if_pos z];rw[z]at iU;simp[sIf,eOp,eV,eC,eK,lC,lN,c1,m4,Ju,iU,z,Qp,Qe,gS,add_int,D.max2]
  ·rw[if_neg z,jZ];simp[sIf,eOp,eV,eC,eK,lC,lN,c1,Ju,iU,z,Qp,sNx]) ?_;refine st (e1:=[some (.scr ns),some (.lst EV),some (.lst CE),some BK,some (.bl (dLi ns)),some E0,some (.int (dR ns)),some (.int (Vn ns)),some (.int (Jd ns).2),some (.int (dW ns)),some (.int (dH ns)),some (.tup [.int (dW ns),.int (dH ns),.bl (dO ns),.bl (dLi ns)])]) (asg (by simp[Qi,eOp,eV,eC,eK,lC,lN,c2,Ju,mr]) rfl) ?_;refine ret ?_;simp[Qi,eOp,eV,eK,lC,lN,mh,a3]
theorem ZW:∀xs:List D,(∀x∈xs,D.eq x x=some true)->D.eqL xs xs=some true|[],_=>Jv|x::xs,h=>by rw[JJ,h x mem_cons_self,ZW xs λy hy=>h y (mem_cons_of_mem _ hy)];rfl
theorem Ym(x:Str):D.eq (.str x) (.str x)=some true:=by rw[QG];simp
theorem QiD(x:Int):D.eq (.int x) (.int x)=some true:=by rw[QM];simp
theorem QeS{α:Type}{f:α->D}(h:∀a,D.eq (f a) (f a)=some true)(xs:List α):D.eq (.lst (xs.map f)) (.lst (xs.map f))=some true:=by rw[JH];refine ZW _ λx hx=>?_;obtain⟨a,_,rfl⟩:=List.mem_map.mp hx;exact h a
theorem Qg6(xs:List Str):D.eq (Qd xs) (Qd xs)=some true:=QeS Ym xs
theorem QqN(i:It):D.eq i.d i.d=some true:=by cases i with
 |word w ns=>simp only[It.d];rw[JG];refine ZW _ λx hx=>?_;simp only[mem_cons,not_mem_nil,or_false]at hx;rcases hx with z|z|z<;>subst z<;>first|exact Ym _|exact Qg6 _
 |ref l a b=>simp only[It.d];rw[JG];refine ZW _ λx hx=>?_;simp only[mem_cons,not_mem_nil,or_false]at hx;rcases hx with z|z|z|z<;>subst z<;>exact Ym _|mark l=>simp only[It.d];rw[JG];refine ZW _ λx hx=>?_;simp only[mem_cons,not_mem_nil,or_false]at hx;rcases hx with z|z<;>subst z<;>exact Ym _|key l=>simp only[It.d];rw[JG];refine ZW _ λx hx=>?_;simp only[mem_cons,not_mem_nil,or_false]at hx;rcases hx with z|z<;>subst z<;>exact Ym _
theorem QqO(b:Bk):D.eq b.d b.d=some true:=by cases b with
 |chapter t l=>simp only[Bk.d];rw[JG];refine ZW _ λx hx=>?_;simp only[mem_cons,not_mem_nil,or_false]at hx;rcases hx with z|z|z<;>subst z<;>exact Ym _|heading t k l=>simp only[Bk.d];rw[JG];refine ZW _ λx hx=>?_;simp only[mem_cons,not_mem_nil,or_false]at hx;rcases hx with z|z|z|z<;>subst z<;>first|exact Ym _|exact QiD _
 |para is=>simp only[Bk.d];rw[JG];refine ZW _ λx hx=>?_;simp only[mem_cons,not_mem_nil,or_false]at hx;rcases hx with z|z<;>subst z<;>first|exact Ym _|exact QeS QqN _
 |table rs l=>simp only[Bk.d];rw[JG];refine ZW _ λx hx=>?_;simp only[mem_cons,not_mem_nil,or_false]at hx;rcases hx with z|z|z<;>subst z<;>first|exact Ym _|exact Qg6 _
 |plates n l=>simp only[Bk.d];rw[JG];refine ZW _ λx hx=>?_;simp only[mem_cons,not_mem_nil,or_false]at hx;rcases hx with z|z|z<;>subst z<;>first|exact Ym _|exact QiD _
theorem Qtq(bs:List Bk):D.eqO (bks bs) (bks bs)=some (.bl true):=by unfold D.eqO;rw[if_pos (by have:=QqX bs;omega),show D.eq (bks bs) (bks bs)=some true from QeS QqO bs];rfl
structure Sta where
 p:Int
 l:Int
 u:Int
 f:Int
structure Plc where
 p:Int
 l:Int
 c:Int
noncomputable def Sta.d(s:Sta):D:=.tup [.int s.p,.int s.l,.int s.u,.int s.f]
noncomputable def Plc.d(s:Plc):D:=.tup [.int s.p,.int s.l,.int s.c]
noncomputable def sty(w h:Int)(o li:Bool):D:=.tup [.int w,.int h,.bl o,.bl li]
def Qrq(x:Plc×Sta):D:=.tup [x.1.d,x.2.d]
theorem p0(x:Plc×Sta):D.ix (Qrq x) (.int 0)=some x.1.d:=rfl
theorem p1(x:Plc×Sta):D.ix (Qrq x) (.int 1)=some x.2.d:=rfl
noncomputable def endLine(s:Sta):Sta:=if s.u=0 then s else⟨s.p,s.l+1,0,s.f⟩
noncomputable def QhI:Bk->Bool|.chapter _ _=>true|.heading _ _ _=>true|_=>false
theorem Qiy(b:Bk):Vy [b.d]=some (.bl (QhI b)):=by unfold Vy Qco;cases b<;>simp[QE,Jh,ZF,lI,QO,sD,sQ,sIf,Qj,Vi,Qe,Vt,Vj,sNx,Qal,Vs,gS,Q4,ZI,eV,eC,eOp,eUn,Jg,Qz,eOr,eIf,JO,Qi,Qf,eK,lN,lC,Za,oNo,oAt,Vl,D.len,D.lt,D.le,D.gt,D.ge,D.add,D.sub,D.ix,D.eqO,D.neO,D.cmp,D.cmpN,D.inst,tyD,D.isT,D.intB,D.min2,D.max2,D.neg,D.addI,Qp,ZO,ZR,Ze,QN,QT,ZN,ZM,JU,Zd,ZS,ZT,Zf,Zh,ZQ,Jl,J4,Yb,QD,Qy,Jw,Q2,QW,QQ,D.rng,D.its,D.itsT,QM,Vk,QG,JG,JH,Jv,JJ,ixD,D.inO,Jp,inD,QhI]
theorem Qiz(i:It):Yl [i.d]=some (.bl (Q5 i)):=by unfold Yl QeX;cases i<;>simp[QE,Jh,ZF,lI,QO,sD,sQ,sIf,Qj,Vi,Qe,Vt,Vj,sNx,Qal,Vs,gS,Q4,ZI,eV,eC,eOp,eUn,Jg,Qz,eOr,eIf,JO,Qi,Qf,eK,lN,lC,Za,oNo,oAt,Vl,D.len,D.lt,D.le,D.gt,D.ge,D.add,D.sub,D.ix,D.eqO,D.neO,D.cmp,D.cmpN,D.inst,tyD,D.isT,D.intB,D.min2,D.max2,D.neg,D.addI,Qp,ZO,ZR,Ze,QN,QT,ZN,ZM,JU,Zd,ZS,ZT,Zf,Zh,ZQ,Jl,J4,Yb,QD,Qy,Jw,Q2,QW,QQ,D.rng,D.its,D.itsT,QM,Vk,QG,JG,JH,Jv,JJ,ixD,D.inO,Jp,inD,Q5,Qam,VC]
noncomputable def ItT:It->Prop|.word x ns=>x.length<=1000/\ns.length<=1000/\∀r∈ns,r.length<=1000|.ref _ a b=>a.length<=1000/\b.length<=1000|_=>True
def BkT(b:Bk):Prop:=∀i∈iO b,ItT i
def JX(is:List It):Nat:=(is.filter Q5).length
theorem QgS(i:It)(is:List It):JX (i::is)=(if Q5 i then 1 else 0)+JX is:=by unfold JX;rw[filter_cons];split<;>simp<;>omega
def Qe1(b:Bk):Prop:=∀n l,b=.plates n l->1<=n
theorem Qg2{f:Bk->Int}:∀(bs:List Bk)(s:Int),bs.foldl (λs b=>s+f b) s=s+(bs.map f).sum|[],s=>by simp|b::bs,s=>by rw[foldl_cons,Qg2 bs,map_cons,sum_cons];omega
noncomputable def Z1:Bk->Str|.chapter _ l=>l|.heading _ _ l=>l|.para _=>""|.table _ l=>l|.plates _ l=>l
theorem QqE(b:Bk):YH [b.d]=some (.str (Z1 b)):=by unfold YH Qdq;cases b<;>simp[QE,Jh,ZF,lI,QO,sD,sQ,sIf,Qj,Vi,Qe,Vt,Vj,sNx,Qal,Vs,gS,Q4,ZI,eV,eC,eOp,eUn,Jg,Qz,eOr,eIf,JO,Qi,Qf,eK,lN,lC,Za,oNo,oAt,Vl,D.len,D.lt,D.le,D.gt,D.ge,D.add,D.sub,D.ix,D.eqO,D.neO,D.cmp,D.cmpN,D.inst,tyD,D.isT,D.intB,D.min2,D.max2,D.neg,D.addI,Qp,ZO,ZR,Ze,QN,QT,ZN,ZM,JU,Zd,ZS,ZT,Zf,Zh,ZQ,Jl,J4,Yb,QD,Qy,Jw,Q2,QW,QQ,D.rng,D.its,D.itsT,QM,Vk,QG,JG,JH,Jv,JJ,ixD,Z1]
noncomputable def mkL:It->List Str|.mark l=>[l]|_=>[]
def Jz(is:List It):List Str:=is.flatMap mkL
def Qb1(b:Bk):List Str:=(if Z1 b=""then[]else[Z1 b])++Jz (iO b)
def Jq(bs:List Bk):List Str:=bs.flatMap Qb1
theorem QlI(n:Int)(h0:0<=n)(h:n<10^60):Qb4 [.int n]=some (.int (JC n.toNat)):=by
 obtain⟨m,rfl⟩:∃m:Nat,n=m:=⟨n.toNat,by omega⟩;have h':m<10^60:=by
  have:((10^60:Nat):Int)=10^60:=by decide
  omega
 have h2:m<2^1900:=lt_trans h' (by decide+kernel);have e1:D.strI (.int m)=some (.str (Str.ofString (toString (m:Int)))):=if_pos h2;have hs:=Qek m;have hd:=Qgr m h';have ln:=Yj (x:=Str.ofString (toString (m:Int))) (by omega);rw[hs]at ln;unfold Qb4 Qd5;exact stD rfl (ret (unE (unE rfl e1) ln))
theorem Qih{it:EvI}{e:Qh}(is:List It)(hit:it e=some (is.map It.d))(hl:is.length<=1000000):QF 1 [] it (gS 0) (eK Yl (lC (eV 0) lN)) (eV 0) e=some (.lst ((is.filter Q5).map It.d)):=JL (g:=gS 0) (n:=1) (caps:=[]) It.d is (λe=>∃v,e=[v]) Q5 It.d hit (lB hl) ⟨none,rfl⟩ (by rintro i hm e⟨v,rfl⟩;exact⟨[some i.d],rfl,⟨_,rfl⟩,Q7 rfl (Qiz i),λh=>rfl⟩)
theorem QhY(is:List It):D.len (.lst (is.map It.d))=some (.int is.length):=by show some (D.int (is.map It.d).length)=_;rw[length_map]
theorem QjK(w h:Int)(o li:Bool)(b:Bk)(hl:(iO b).length<=100000):YO [b.d,sty w h o li]=some (.int (Q0 li b)):=by
 have it:=Qiy b;have io:=Qdn b;have ix3:D.ix (sty w h o li) (.int 3)=some (.bl li):=rfl;have plain:∀m:Int,((iO b).filter Q5).length=m->(Qj (eOp D.add (eC (.int 2)) (eOp D.mulA (eC (.int 2)) (eUn D.len (QF 1 [] (QC (eK JQ (lC (eV 0) lN))) (gS 0) (eK Yl (lC (eV 0) lN)) (eV 0)))))) [some b.d,some (sty w h o li)]=some (.rt (.int (2+2*m))):=by
  intro m em;have hc:=Qih (it:=QC (eK JQ (lC (eV 0) lN))) (e:=[some b.d,some (sty w h o li)]) (iO b) (by unfold QC;rw[Q7 rfl io];rfl) (by omega);have ln:=QhY ((iO b).filter Q5);rw[em]at ln;exact ret (opE rfl (opE rfl (unE hc ln) (Qrr m)) rfl)
 unfold YO Qcm;refine stD rfl ?_;cases b with
 |plates n l=>exact stR (ifT (opE (x:=.str "plates") (opE (x:=(Bk.plates n l).d) rfl rfl rfl) rfl (by rw[eqS];simp)) (ret (opE rfl (opE (x:=(Bk.plates n l).d) rfl rfl rfl) rfl)))|para is=>refine st (e1:=[some (Bk.para is).d,some (sty w h o li)]) (ifF (opE (x:=.str "para") (opE (x:=(Bk.para is).d) rfl rfl rfl) rfl (by rw[eqS];simp)) rfl) ?_;refine st (e1:=[some (Bk.para is).d,some (sty w h o li)]) (ifF (J6 (Q7 rfl it)) rfl) ?_;exact plain _ rfl|table rs l=>refine st (e1:=[some (Bk.table rs l).d,some (sty w h o li)]) (ifF (opE (x:=.str "table") (opE (x:=(Bk.table rs l).d) rfl rfl rfl) rfl (by rw[eqS];simp)) rfl) ?_;refine st (e1:=[some (Bk.table rs l).d,some (sty w h o li)]) (ifF (J6 (Q7 rfl it)) rfl) ?_;exact plain 0 rfl|chapter t l=>refine st (e1:=[some (Bk.chapter t l).d,some (sty w h o li)]) (ifF (opE (x:=.str "chapter") (opE (x:=(Bk.chapter t l).d) rfl rfl rfl) rfl (by rw[eqS];simp)) rfl) ?_;cases li with|true=>exact stR (ifT (JM (Q7 rfl it) (opE rfl rfl ix3)) (ret rfl))|false=>
   refine st (e1:=[some (Bk.chapter t l).d,some (sty w h o false)]) (ifF (JM (Q7 rfl it) (opE rfl rfl ix3)) rfl) ?_;exact plain 0 rfl|heading t k l=>
  refine st (e1:=[some (Bk.heading t k l).d,some (sty w h o li)]) (ifF (opE (x:=.str "heading") (opE (x:=(Bk.heading t k l).d) rfl rfl rfl) rfl (by rw[eqS];simp)) rfl) ?_;cases li with|true=>exact stR (ifT (JM (Q7 rfl it) (opE rfl rfl ix3)) (ret rfl))|false=>refine st (e1:=[some (Bk.heading t k l).d,some (sty w h o false)]) (ifF (JM (Q7 rfl it) (opE rfl rfl ix3)) rfl) ?_;exact plain 0 rfl
theorem QcT(w h:Int)(o li:Bool)(bs:List Bk)(hf:Few bs):ZC [bks bs,sty w h o li]=some (.int (most li bs)):=by
 have hc:QF 1 [1] (QC (eV 0)) (gS 0) (eC (.bl true)) (eK YO (lC (eV 0) (lC (eV 1) lN))) [some (bks bs),some (sty w h o li)]=some (.lst ((bs.map (Q0 li)).map .int)):=by
  rw[JL (g:=gS 0) (n:=1) (caps:=[1]) (c:=eC (.bl true)) (el:=eK YO (lC (eV 0) (lC (eV 1) lN))) Bk.d bs (λe=>∃v,e=[v,some (sty w h o li)]) (λ_=>true) (λb=>.int (Q0 li b)) rfl (lB (le_trans hf.1 (by decide))) ⟨none,rfl⟩ (by rintro b hb e⟨v,rfl⟩;exact⟨[some b.d,some (sty w h o li)],rfl,⟨_,rfl⟩,rfl,λ_=>JV rfl rfl (QjK w h o li b (Va hf b hb))⟩)];rw[Zt,map_map];rfl
 have sm:D.sumL (.lst ((bs.map (Q0 li)).map .int))=some (.int (bs.map (Q0 li)).sum):=by
  show(intsOf ((bs.map (Q0 li)).map .int)).map _=_;rw[Qdo];rfl
 have me:most li bs=3+(bs.map (Q0 li)).sum:=by unfold most;rw[Qg2]
 rw[me];unfold ZC Qad;exact stD rfl (ret (opE rfl (unE hc sm) rfl))
theorem QdB(w h:Int)(o li:Bool)(bs:List Bk)(hf:Few bs)(h0:0<=most li bs)(h1:most li bs<10^60):Zm [bks bs,sty w h o li]=some (.int (JC (most li bs).toNat)):=by unfold Zm QaD;exact stD rfl (ret (Q7 (JV rfl rfl (QcT w h o li bs hf)) (QlI _ h0 h1)))
theorem Qjv(xs:List Str)(w:Int)(hl:xs.length<=1000000)(hx:∀x∈xs,x.length<=1000000)(hw:∀x∈xs,(x.length:Int)<=w):Zy [Qd xs,.int w]=some (.bl false):=by
 have hc:QF 1 [1] (QC (eV 0)) (gS 0) (eC (.bl true)) (eOp D.gt (eUn D.len (eV 0)) (eV 1)) [some (Qd xs),some (.int w)]=some (.lst (xs.map λ_=>.bl false)):=by
  rw[JL (g:=gS 0) (n:=1) (caps:=[1]) (c:=eC (.bl true)) (el:=eOp D.gt (eUn D.len (eV 0)) (eV 1)) D.str xs (λe=>∃v,e=[v,some (.int w)]) (λ_=>true) (λ_=>.bl false) rfl (lB hl) ⟨none,rfl⟩ (by
   rintro x hb e⟨v,rfl⟩;refine⟨[some (.str x),some (.int w)],rfl,⟨_,rfl⟩,rfl,λ_=>opE (unE rfl (Yj (hx x hb))) rfl ?_⟩;have:=hw x hb;show some (D.bl (decide (w<(x.length:Int))))=_;rw[decide_eq_false (by omega)])];rw[Zt]
 have ay:∀xs:List Str,D.anyL (.lst (xs.map λ_=>.bl false))=some (.bl false):=by
  intro xs;have:Z3 (xs.map λ_=>D.bl false)=some (xs.map λ_=>false):=by induction xs with
   |nil=>rfl|cons x xs ih=>
    show(Z3 (xs.map λ_=>D.bl false)).map _=_;rw[ih];rfl
  show(Z3 (xs.map λ_=>D.bl false)).map _=_;rw[this];show some (D.bl ((xs.map λ_=>false).any id))=_;simp
 unfold Zy V8;exact stD rfl (ret (unE hc (ay xs)))
def BkS:Bk->Prop|.chapter t _=>t.length<=1000|.heading t _ _=>t.length<=1000|.table rs _=>rs.length<=1000/\∀r∈rs,r.length<=1000|.para is=>∀i∈is,ItT i|.plates _ _=>True
theorem QsP(w h:Int)(o li:Bool)(af:Int)(i:It)(hs:ItT i)(hf:Qk3 af w h i):Zo [i.d,sty w h o li,.int af]=some (.bl false):=by have bQ:D.ix (sty w h o li) (.int 0)=some (.int w):=rfl;unfold Zo Vq;refine stD rfl ?_;cases i with|word x ns=>have ad:D.add (.lst [.str x]) (Qd ns)=some (Qd (x::ns)):=QdJ (f:=D.str) (xs:=[x]) (ys:=ns) (QfC (by have:=hs.2.1;omega));have al:=Qjv (x::ns) w (by have:=hs.2.1;simp;omega) (λy hy=>by rcases List.mem_cons.mp hy with z|z;rw[z];have:=hs.1;omega;have:=hs.2.2 y z;omega) (λy hy=>by rcases List.mem_cons.mp hy with z|z;rw[z];exact hf.1;exact hf.2.2 y z);exact stR (ifT (opE (x:=.str "word") (opE (x:=(It.word x ns).d) rfl rfl rfl) rfl (by rw[eqS];simp)) (ret (JV (opE (x:=.lst [.str x]) (y:=Qd ns) rfl rfl ad) (opE rfl rfl bQ) al)))|ref l a b=>refine st (e1:=[some (It.ref l a b).d,some (sty w h o li),some (.int af)]) (ifF (opE (x:=.str "ref") (opE (x:=(It.ref l a b).d) rfl rfl rfl) rfl (by rw[eqS];simp)) rfl) (ret ?_);refine JM (opE (x:=.str "ref") (opE (x:=(It.ref l a b).d) rfl rfl rfl) rfl (by rw[eqS];simp)) (opE (opE (opE (unE (opE (x:=(It.ref l a b).d) rfl rfl rfl) (Yj (by have:=hs.1;omega))) rfl rfl) (unE (opE (x:=(It.ref l a b).d) rfl rfl rfl) (Yj (by have:=hs.2;omega))) rfl) (opE rfl rfl bQ) ?_);have hf':(a.length:Int)+af+b.length<=w:=hf;show some (D.bl (decide (w<(a.length:Int)+af+b.length)))=_;rw[decide_eq_false (by omega)]|mark l=>exact st (e1:=[some (It.mark l).d,some (sty w h o li),some (.int af)]) (ifF (opE (x:=.str "mark") (opE (x:=(It.mark l).d) rfl rfl rfl) rfl (by rw[eqS];simp)) rfl) (ret (J6 (opE (x:=.str "mark") (opE (x:=(It.mark l).d) rfl rfl rfl) rfl (by rw[eqS];simp))))|key l=>exact st (e1:=[some (It.key l).d,some (sty w h o li),some (.int af)]) (ifF (opE (x:=.str "key") (opE (x:=(It.key l).d) rfl rfl rfl) rfl (by rw[eqS];simp)) rfl) (ret (J6 (opE (x:=.str "key") (opE (x:=(It.key l).d) rfl rfl rfl) rfl (by rw[eqS];simp))))
theorem lc{a:EvE}{l:EvL}{e:Qh}{x:D}{xs:List D}(ha:a e=some x)(hl:l e=some xs):lC a l e=some (x::xs):=by unfold lC;rw[ha,hl];rfl
noncomputable def Qx(ls:List Str):D:=.dic (ls.map Sum.inr) (ls.map λ_=>.bl true)
theorem Qh0(l:Str)(ls:List Str):hasK (.inr l) (ls.map Sum.inr)=decide (l∈ls):=by unfold hasK;induction ls with|nil=>simp|cons a ls ih=>
  rw[map_cons,any_cons,ih];by_cases z:a=l;·subst z;simp
  ·have:¬l=a:=λq=>z q.symm;simp[z,this]
theorem QaX(P:It->Prop)(he:P (.word "end" [])):∀(as:List At)(s:List Bk×List It),(∀a∈as,AtS a\/a=.fin)->(∀i,At.it i∈as->P i)->(∀b∈s.1,∀i∈iO b,P i)->(∀i∈s.2,P i)->∀b∈(as.foldl Jy s).1,∀i∈iO b,P i
 |[],s,_,_,h,_=>h|a::as,s,ha,hi,h,dj=>by
  obtain⟨bs,row⟩:=s;have hc:∀i∈Qn row,P i:=λi hi=>by
   unfold Qn at hi;split at hi
   ·split at hi
    ·rcases List.mem_append.mp hi with z|z;·exact dj i z
     ·rw[List.mem_singleton.mp z];exact he
    ·exact dj i hi
   ·exact dj i hi
  have h1:∀b∈bs++[Bk.para (Qn row)],∀i∈iO b,P i:=λb hb=>by
   rcases List.mem_append.mp hb with z|z;·exact h b z
   ·rw[List.mem_singleton.mp z];exact hc
  have h2:∀b∈(if Qn row=[]then bs else bs++[.para (Qn row)]),∀i∈iO b,P i:=λb hb=>by
   split at hb;·exact h b hb
   ·exact h1 b hb
  have fg:∀x∈as,AtS x\/x=.fin:=λx hx=>ha x (mem_cons_of_mem _ hx);have cA:∀i,At.it i∈as->P i:=λi hx=>hi i (mem_cons_of_mem _ hx);have nil:∀i∈([]:List It),P i:=λi h=>by cases h
  cases a with
  |it x=>
   refine QaX P he as _ fg cA h λi hx=>?_;rcases List.mem_append.mp hx with z|z;·exact dj i z
   ·rw[List.mem_singleton.mp z];exact hi x mem_cons_self|bk x=>
   refine QaX P he as _ fg cA (λb hb=>?_) nil;rcases List.mem_append.mp hb with z|z;·exact h2 b z
   ·rw[List.mem_singleton.mp z];rcases ha (.bk x) mem_cons_self with q|q;·cases x<;>first|exact nil|exact q.elim
    ·cases q|brk=>exact QaX P he as _ fg cA h1 nil|fin=>exact QaX P he as _ fg cA h2 nil
theorem QeA(row:List It):Jz (Qn row)=Jz row:=by
 unfold Qn;split
 ·split;·unfold Jz;rw[flatMap_append];simp[mkL]
  ·rfl
 ·rfl
theorem QiA:∀(as:List At)(s:List Bk×List It),(∀a∈as,AtS a\/a=.fin)->Jq (as.foldl Jy s).1++Jz (as.foldl Jy s).2=Jq s.1++Jz s.2++as.flatMap Q9
 |[],s,_=>by simp|a::as,s,ha=>by
  rw[foldl_cons,QiA as _ (λx hx=>ha x (mem_cons_of_mem _ hx)),flatMap_cons,<-append_assoc];congr 1;obtain⟨bs,row⟩:=s;have e1:Jq (bs++[.para (Qn row)])=Jq bs++Jz row:=by
   unfold Jq;rw[flatMap_append];simp[Qb1,Z1,iO,QeA]
  have e2:Jq (if Qn row=[]then bs else bs++[.para (Qn row)])=Jq bs++Jz row:=by
   split
   ·rename_i z;rw[<-QeA row,z];simp[Jz]
   ·exact e1
  have app:∀(xs:List Bk)(b:Bk),Jq (xs++[b])=Jq xs++Qb1 b:=λxs b=>by unfold Jq;rw[flatMap_append];simp
  cases a with
  |it i=>
   show Jq bs++Jz (row++[i])=Jq bs++Jz row++Q9 (.it i);unfold Jz;rw[flatMap_append,<-append_assoc];congr 1;cases i<;>simp[mkL,Q9]|bk x=>
   show Jq ((if Qn row=[]then bs else bs++[.para (Qn row)])++[x])++Jz []=_;rw[app,e2];have:Qb1 x=Q9 (.bk x):=by
    rcases ha (.bk x) mem_cons_self with q|q;·cases x with
     |para is=>exact q.elim|chapter t l=>by_cases z:l=""<;>simp[Qb1,Z1,Q9,iO,Jz,z]|heading t k l=>by_cases z:l=""<;>simp[Qb1,Z1,Q9,iO,Jz,z]|table rs l=>by_cases z:l=""<;>simp[Qb1,Z1,Q9,iO,Jz,z]|plates n l=>by_cases z:l=""<;>simp[Qb1,Z1,Q9,iO,Jz,z]
    ·cases q
   rw[this];simp[Jz]|brk=>show Jq (bs++[.para (Qn row)])++Jz []=_;rw[e1];simp[Jz,Q9]|fin=>show Jq (if Qn row=[]then bs else bs++[.para (Qn row)])++Jz []=_;rw[e2];simp[Jz,Q9]
theorem QqB(ls:List Str)(cs:List Int)(i:Nat)(a:At):Q9 (pt ls cs i a)=Q9 a:=by
 unfold pt;split;·split<;>rfl
 ·rfl
theorem QcU{α β γ:Type}(f:β->List γ)(h:α->List γ):∀(g:Nat->α->β)(xs:List α),(∀i a,f (g i a)=h a)->(xs.mapIdx g).flatMap f=xs.flatMap h|g,[],_=>rfl|g,x::xs,hg=>by rw[List.mapIdx_cons,flatMap_cons,flatMap_cons,hg,QcU f h _ xs λi a=>hg _ a]
theorem Qjh(cs:List Int)(as:List At):Z0 (Q1 cs as)=Z0 as:=QcU Q9 Q9 _ as λi a=>QqB _ _ i a
theorem Qit:∀(cs:List Int)(n:Nat),n+cs.length<=58->((cs.zipIdx n).flatMap λp=>Q9 (YK p.1 p.2)).Sublist ((List.range' n cs.length).map lab)
 |[],n,_=>by simp|c::cs,n,h=>by
  rw[length_cons]at h;have ih:=Qit cs (n+1) (by omega);have ok:=(Qd7 c n (by omega)).2;rw[zipIdx_cons,flatMap_cons,length_cons,List.range'_succ,map_cons];have key:Q9 (YK c n)=[]\/Q9 (YK c n)=[lab n]:=by
   have lb:∀l,QeG n l->(if l=Str.ofString ""then[]else[l])=[]\/(if l=Str.ofString ""then[]else[l])=[lab n]:=λl hl=>by
    by_cases z:l=Str.ofString "";·left;rw[if_pos z]
    ·right;rw[if_neg z];rcases hl with q|q;·exact absurd q z
     ·rw[q]
   cases q:YK c n with
   |brk=>exact .inl rfl|fin=>exact .inl rfl|it i=>
    rw[q]at ok;cases i with
    |mark l=>right;show[l]=_;rw[show l=lab n from ok]|_=>exact .inl rfl
   |bk b=>
    rw[q]at ok;cases b with
    |chapter t l=>exact lb l ok.2|heading t k l=>exact lb l ok.2.2|table rs l=>exact lb l ok.2.2|plates m l=>exact lb l ok.2|para is=>exact ok.elim
  rcases key with z|z;·have z':Q9 (YK (c,n).1 (c,n).2)=[]:=z;rw[z',nil_append];exact ih.cons _
  ·have z':Q9 (YK (c,n).1 (c,n).2)=[lab n]:=z;rw[z'];exact ih.cons_cons _
theorem Qnx(cs:List Int)(h:cs.length<=58):(Z0 (Jb cs)).Sublist ((List.range 58).map lab):=by
 have h1:=Qit cs 0 (by omega);have e:Z0 (Jb cs)=(cs.zipIdx 0).flatMap λp=>Q9 (YK p.1 p.2):=by unfold Z0 Jb;rw[List.flatMap_map]
 rw[e];refine h1.trans (List.Sublist.map _ ?_);have e2:List.range' 0 cs.length++List.range' (0+cs.length) (58-cs.length)=List.range' 0 (cs.length+(58-cs.length)):=List.range'_append_1;rw[List.range_eq_range',show 58=cs.length+(58-cs.length)from by omega,<-e2];exact List.sublist_append_left _ _
theorem QlT(cs:List Int)(h:cs.length<58):Jq (Qa7 cs)=Z0 (Jb cs):=by
 have hB:=QhK cs h;have g:=QiA (Q1 cs (Jb cs)++[.fin]) ([],[]) (λa ha=>by
  rcases hB a ha with z|z;·exact .inl (Qfl z)
  ·exact .inr z);have e2:((Q1 cs (Jb cs)++[At.fin]).foldl Jy ([],[])).2=[]:=by
  rw[foldl_append];show(Jy _ .fin).2=[];rfl
 rw[e2]at g;have e3:(Q1 cs (Jb cs)++[At.fin]).flatMap Q9=Z0 (Jb cs):=by rw[flatMap_append];show Z0 (Q1 cs (Jb cs))++_=_;rw[Qjh];simp[Q9]
 rw[e3]at g;have e4:Jq (Qa7 cs)=Jq ((Q1 cs (Jb cs)++[At.fin]).foldl Jy ([],[])).1:=rfl;rw[e4];simpa[Jz,Jq]using g
theorem Qlz{bs:List Bk}{l:Str}(h:l∈rO bs):∃b∈bs,∃x y,It.ref l x y∈iO b:=by obtain⟨b,hb,h1⟩:=List.mem_flatMap.mp h;unfold Jx at h1;obtain⟨i,hi,e⟩:=List.mem_map.mp h1;obtain⟨h2,h3⟩:=List.mem_filter.mp hi;cases i with|ref l' x y=>cases e;exact⟨b,hb,x,y,h2⟩|_=>cases h3
noncomputable def Qlh(L:List Str):It->Prop|.ref l _ _=>l∈L|_=>True
theorem QrQ(ls:List Str)(cs:List Int)(k:Nat)(a:At):∀i,pt ls cs k a=.it i->(∀j,a=.it j->(∃l x y,j=.ref l x y)\/Qlh ls j)->Qlh ls i:=by
 intro i e h;unfold pt at e;split at e
 ·split at e;·cases e;trivial
  ·rename_i ne;cases e;show List.getD _ _ _∈ls;have hp:(0:Int)<ls.length:=by cases ls with
    |nil=>exact absurd rfl ne|cons a b=>simp only[length_cons];omega
   have h1:=emod_nonneg (mix (cs.getD k 0) (k+90)) (show(ls.length:Int)≠0 by omega);have h2:=emod_lt_of_pos (mix (cs.getD k 0) (k+90)) hp;rw[getD_eq_getElem?_getD,getElem?_eq_getElem (by omega)];exact getElem_mem _
 ·rename_i nr;subst e;rcases h i rfl with⟨l,x,y,rfl⟩|q;·exact absurd rfl (nr l x y)
  ·exact q
theorem QlS(cs:List Int)(h:cs.length<58):∀l∈rO (Qa7 cs),l∈Z0 (Jb cs):=by
 intro l hl;obtain⟨b,hb,x,y,hi⟩:=Qlz hl;have hB:=QhK cs h;have g:=QaX (Qlh (Z0 (Jb cs))) trivial (Q1 cs (Jb cs)++[At.fin]) ([],[]) (λa ha=>by
  rcases hB a ha with z|z;·exact .inl (Qfl z)
  ·exact .inr z) (λi hm=>by
   rcases List.mem_append.mp hm with z|z
   ·unfold Q1 at z;obtain⟨k,hk,e⟩:=List.mem_mapIdx.mp z;refine QrQ _ _ _ _ i e λj _=>?_;cases j with
    |ref l x y=>exact .inl ⟨l,x,y,rfl⟩|_=>exact .inr trivial
   ·cases List.mem_singleton.mp z) (by simp) (by simp) b hb (.ref l x y) hi;exact g
theorem Qsz(ns:List Int)(w h:Int)(li:Bool)(hw:4<=w/\w<=90)(hh:2<=h/\h<=60):∀b∈Y5 ns w h li,BkS b/\BkT b/\Qe1 b:=by
 intro b hb;have h6:=QnU (Qbl ns);have hN:=Qbl ns;unfold Y5 at hb;split at hb;·cases hb
 ·simp only[mem_cons,not_mem_nil,or_false]at hb;have it:∀i∈[It.word (YS (Str.ofString "w") (if w-1-QaN ns>1 then w-1-QaN ns else 1)) [],It.mark "z",It.ref "z" "" ""],ItT i:=λi hi=>by
   simp only[mem_cons,not_mem_nil,or_false]at hi;rcases hi with q|q|q<;>subst q;·refine⟨? _,by simp,by simp⟩;rw[Qps];split<;>omega
   ·trivial
   ·exact⟨by rw[Zu];omega,by rw[Zu];omega⟩
  rcases hb with q|q|q<;>subst q
  ·refine⟨trivial,λi hi=>(by cases hi),λn l e=>? _⟩;cases e;omega
  ·refine⟨⟨by simp;omega,λr hr=>? _⟩,λi hi=>(by cases hi),λn l e=>by cases e⟩;rw[List.eq_of_mem_replicate hr,Zu];omega
  ·exact⟨it,it,λn l e=>by cases e⟩
theorem QtD:∀{b:Bk},BkB b->BkS b/\BkT b/\Qe1 b:=by
 intro b h;have jD:∀i,ItB i->ItT i:=λi hi=>by cases i with
  |word x ns=>exact⟨by have:=hi.1.2;omega,by have:=hi.2.1;omega,λr hr=>by have:=hi.2.2 r hr;omega⟩|ref l x y=>exact⟨by have:=hi.1;omega,by have:=hi.2;omega⟩|_=>trivial
 cases b with
 |chapter t l=>exact⟨by have:=h.2;show t.length<=1000;omega,λi hi=>(by cases hi),λn l e=>(by cases e)⟩|heading t k l=>exact⟨by have:=h.1.2;show t.length<=1000;omega,λi hi=>(by cases hi),λn l e=>(by cases e)⟩|table rs l=>exact⟨⟨by have:=h.1.2;omega,λr hr=>by have:=h.2 r hr;omega⟩,λi hi=>(by cases hi),λn l e=>(by cases e)⟩|plates n l=>exact⟨trivial,λi hi=>(by cases hi),λm l' e=>(by cases e;exact h.1)⟩|para is=>exact⟨λi hi=>jD i (h i hi),λi hi=>jD i (h i hi),λn l e=>(by cases e)⟩
theorem QsN(ns:List Int):∀b∈YU ns,BkS b/\BkT b/\Qe1 b:=by
 intro b hb;have hw:=Qn5 ns;have hh:=Qk1 ns;unfold YU at hb;rcases List.mem_append.mp hb with z|z;·exact Qsz ns _ _ _ ⟨hw.2.1,hw.2.2⟩ ⟨hh.2.1,hh.2.2⟩ b z
 ·exact QtD (Qfk ns b z)
theorem stZ{a k:EvS}{e:Qh}{c:Nat}{d:D}(h:a e=some (.rz c d)):sQ a k e=some (.rz c d):=by unfold sQ;rw[h];rfl
abbrev Bn(n:Int):Prop:=0<=n/\n<10^60
theorem rzE{c:Nat}{a:EvE}{e:Qh}{n:Int}(hn:Bn n)(h:a e=some (.int n)):Z9 c a e=some (.rz c (.int n)):=by unfold Z9;rw[h];exact if_pos hn
theorem Qf5{n k:Nat}{b:EvS}{ds:List D}{e:Qh}{d:D}(hl:ds.length=k)(h:b (sD n ds)=some (.nx e))(he:(e[k-1]?).join=some d):YY n k b ds=some (.inl d):=by unfold YY;rw[if_pos hl,h];show((e[k-1]?).join).map _=_;rw[he];rfl
theorem QbZ{n k:Nat}{b:EvS}{ds:List D}{c:Nat}{d:D}(hl:ds.length=k)(h:b (sD n ds)=some (.rz c d)):YY n k b ds=some (.inr (c,d)):=by unfold YY;rw[if_pos hl,h]
theorem Qrj{n k:Nat}{b:EvS}{ds:List D}{e:Qh}(hl:ds.length=k)(h:b (sD n ds)=some (.nx e)):VP n k b ds=some (.inl .non):=by unfold VP;rw[if_pos hl,h]
theorem Qf4{n k:Nat}{b:EvS}{ds:List D}{c:Nat}{d:D}(hl:ds.length=k)(h:b (sD n ds)=some (.rz c d)):VP n k b ds=some (.inr (c,d)):=by unfold VP;rw[if_pos hl,h]
theorem QdX{i:Nat}{f:List D->Option Rs}{l:EvL}{e:Qh}{ds:List D}{d z:D}(hl:l e=some ds)(hd:eV i e=some d)(hf:f (ds++[d])=some (.inl z)):Zz i f l e=some (.nx (e.set i (some z))):=by unfold Zz;rw[hl,hd];show(f (ds++[d])).map _=_;rw[hf];rfl
theorem QcR{i:Nat}{f:List D->Option Rs}{l:EvL}{e:Qh}{ds:List D}{d:D}{c:Nat}{z:D}(hl:l e=some ds)(hd:eV i e=some d)(hf:f (ds++[d])=some (.inr (c,z))):Zz i f l e=some (.rz c z):=by unfold Zz;rw[hl,hd];show(f (ds++[d])).map _=_;rw[hf];rfl
noncomputable def QaJ(af w:Int)(li:Bool):Bk->Bool|.chapter t _=>decide (w<(t.length:Int)+if li then 2+af else 0)|.heading t _ _=>decide (w<(t.length:Int)+if li then 2+af else 0)|.table rs _=>rs.any λr=>decide (w<(r.length:Int))|_=>false
noncomputable def Qb2(h:Int):Bk->Bool|.heading _ k _=>decide (h<k+1)|.table rs _=>decide (h<(rs.length:Int))|_=>false
noncomputable def QaI(af w:Int):It->Bool|.word x ns=>(x::ns).any λr=>decide (w<(r.length:Int))|.ref _ a b=>decide (w<(a.length:Int)+af+b.length)|_=>false
noncomputable def Qa6(h:Int):It->Bool|.word _ ns=>decide (h<(ns.length:Int)+1)|_=>false
abbrev LR:=Sum Nat (List Str)
noncomputable def ZZ(l:Str)(ls:List Str):LR:=if l∈ls then .inl 3 else .inr (ls++[l])
def YA(af w h:Int)(li:Bool)(b:Bk)(ls:List Str):LR:=if QaJ af w li b=true then .inl 1 else if Qb2 h b=true then .inl 2 else if Z1 b=""then .inr ls else ZZ (Z1 b) ls
noncomputable def YX:It->Option Str|.mark l=>some l|_=>none
def Qb0(af w h:Int)(i:It)(ls:List Str):LR:=if QaI af w i=true then .inl 1 else if Qa6 h i=true then .inl 2 else match YX i with|some l=>ZZ l ls|none=>.inr ls
def JN(af w h:Int):List It->List Str->LR|[],ls=>.inr ls|i::r,ls=>match Qb0 af w h i ls with|.inl c=>.inl c|.inr aY=>if Q5 i=false/\JX r=0 then .inl 4 else JN af w h r aY
def Qbt(af w h:Int)(li:Bool)(b:Bk)(ls:List Str):LR:=match YA af w h li b ls with|.inl c=>.inl c|.inr aY=>JN af w h (iO b) aY
def YJ(af w h:Int)(li:Bool):List (Bk×Nat)->List Str->Sum (Nat×Nat) (List Str)|[],ls=>.inr ls|p::ps,ls=>match Qbt af w h li p.1 ls with|.inl c=>.inl (c,p.2)|.inr aY=>YJ af w h li ps aY
def Ys(ls:List Str):List (Bk×Nat)->Option Nat|[]=>none|p::ps=>if(Jx (iO p.1)).all (λl=>decide (l∈ls))=true then Ys ls ps else some p.2
def VA(w h:Int)(li:Bool)(bs:List Bk):Option (Nat×Option Nat):=if 4<=w/\w<=90/\2<=h/\h<=60 then match YJ (JC (most li bs).toNat) w h li bs.zipIdx []with|.inl (c,n)=>some (c,some n)|.inr ls=>(Ys ls bs.zipIdx).map λn=>(5,some n)else some (0,none)
noncomputable def onN:Option Nat->D|none=>.non|some n=>.int n
def rsT:Option (Nat×Option Nat)->Rs|none=>.inl .non|some (c,o)=>.inr (c,onN o)
def QhO(n:Int):LR->Rs|.inl c=>.inr (c,.int n)|.inr ls=>.inl (Qx ls)
theorem QlZ(bs:List Bool):D.anyL (.lst (bs.map .bl))=some (.bl (bs.any id)):=by
 have:∀bs:List Bool,Z3 (bs.map D.bl)=some bs:=by intro bs;induction bs with
  |nil=>rfl|cons x xs ih=>show(Z3 (xs.map D.bl)).map _=_;rw[ih];rfl
 show(Z3 (bs.map D.bl)).map _=_;rw[this];rfl
theorem QdC(xs:List Str)(w:Int)(hl:xs.length<=1000000)(hx:∀x∈xs,x.length<=1000000):Zy [Qd xs,.int w]=some (.bl (xs.any λx=>decide (w<(x.length:Int)))):=by
 have hc:QF 1 [1] (QC (eV 0)) (gS 0) (eC (.bl true)) (eOp D.gt (eUn D.len (eV 0)) (eV 1)) [some (Qd xs),some (.int w)]=some (.lst ((xs.map λx=>decide (w<(x.length:Int))).map .bl)):=by
  rw[JL (g:=gS 0) (n:=1) (caps:=[1]) (c:=eC (.bl true)) (el:=eOp D.gt (eUn D.len (eV 0)) (eV 1)) D.str xs (λe=>∃v,e=[v,some (.int w)]) (λ_=>true) (λx=>.bl (decide (w<(x.length:Int)))) rfl (lB hl) ⟨none,rfl⟩ (by rintro x hb e⟨v,rfl⟩;exact⟨[some (.str x),some (.int w)],rfl,⟨_,rfl⟩,rfl,λ_=>opE (unE rfl (Yj (hx x hb))) rfl rfl⟩)];rw[Zt,map_map];rfl
 unfold Zy V8;refine stD rfl (ret (unE hc ?_));rw[QlZ,any_map];rfl
theorem Qhm(w h:Int)(o li:Bool)(af:Int)(b:Bk)(hs:BkS b):J2 [b.d,sty w h o li,.int af]=some (.bl (QaJ af w li b)):=by
 have it:=Qiy b;have ix3:D.ix (sty w h o li) (.int 3)=some (.bl li):=rfl;have bQ:D.ix (sty w h o li) (.int 0)=some (.int w):=rfl;have fm:∀(t:Str),D.ix b.d (.int 1)=some (.str t)->t.length<=1000->QhI b=true->QaJ af w li b=decide (w<(t.length:Int)+(if li then 2+af else 0))->J2 [b.d,sty w h o li,.int af]=some (.bl (QaJ af w li b)):=by
  intro t i1 tl tt we;rw[tt]at it;unfold J2 Y3;refine stD rfl (stR (ifT (Q7 rfl it) ?_));refine st (e1:=[some b.d,some (sty w h o li),some (.int af),some (.int (if li then 2+af else 0))]) ?_ ?_
  ·refine asg ?_ rfl;unfold eIf;have hX:eOp D.ix (eV 1) (eC (.int 3)) (sD 4 [b.d,sty w h o li,.int af])=some (.bl li):=opE (x:=sty w h o li) rfl rfl ix3;rw[hX,Qp];cases li<;>rfl
  ·rw[we];exact ret (opE (opE (unE (opE (x:=b.d) rfl rfl i1) (Yj (by omega))) rfl rfl) (opE rfl rfl bQ) rfl)
 have not:∀r,QhI b=false->(Qj (Qz (eOp D.eqO (eOp D.ix (eV 0) (eC (.int 0))) (eC (.str "table"))) (eK Zy (lC (eOp D.ix (eV 0) (eC (.int 1))) (lC (eOp D.ix (eV 1) (eC (.int 0))) lN))))) [some b.d,some (sty w h o li),some (.int af),none]=some (.rt r)->J2 [b.d,sty w h o li,.int af]=some r:=by
  intro r tt hr;rw[tt]at it;unfold J2 Y3;exact stD rfl (st (e1:=[some b.d,some (sty w h o li),some (.int af),none]) (ifF (Q7 rfl it) rfl) hr)
 cases b with
 |chapter t l=>exact fm t rfl hs rfl rfl|heading t k l=>exact fm t rfl hs rfl rfl|para is=>exact not _ rfl (ret (J6 (opE (x:=.str "para") (opE (x:=(Bk.para is).d) rfl rfl rfl) rfl (by rw[eqS];simp))))|plates n l=>exact not _ rfl (ret (J6 (opE (x:=.str "plates") (opE (x:=(Bk.plates n l).d) rfl rfl rfl) rfl (by rw[eqS];simp))))|table rs l=>refine not _ rfl (ret (JM (opE (x:=.str "table") (opE (x:=(Bk.table rs l).d) rfl rfl rfl) rfl (by rw[eqS];simp)) ?_));exact JV (opE (x:=(Bk.table rs l).d) rfl rfl rfl) (opE rfl rfl bQ) (QdC rs w (by have:=hs.1;omega) (λx hx=>by have:=hs.2 x hx;omega))
theorem Qhy(w h:Int)(o li:Bool)(b:Bk):Y2 [b.d,sty w h o li]=some (.bl (Qb2 h b)):=by have ck:D.ix (sty w h o li) (.int 1)=some (.int h):=rfl;unfold Y2 Qag;refine stD rfl ?_;cases b with|heading t k l=>exact stR (ifT (opE (x:=.str "heading") (opE (x:=(Bk.heading t k l).d) rfl rfl rfl) rfl (by rw[eqS];simp)) (ret (opE (opE (opE (x:=(Bk.heading t k l).d) rfl rfl rfl) rfl rfl) (opE (x:=sty w h o li) rfl rfl ck) rfl)))|chapter t l=>exact st (e1:=[some (Bk.chapter t l).d,some (sty w h o li)]) (ifF (opE (x:=.str "chapter") (opE (x:=(Bk.chapter t l).d) rfl rfl rfl) rfl (by rw[eqS];simp)) rfl) (ret (J6 (opE (x:=.str "chapter") (opE (x:=(Bk.chapter t l).d) rfl rfl rfl) rfl (by rw[eqS];simp))))|para is=>exact st (e1:=[some (Bk.para is).d,some (sty w h o li)]) (ifF (opE (x:=.str "para") (opE (x:=(Bk.para is).d) rfl rfl rfl) rfl (by rw[eqS];simp)) rfl) (ret (J6 (opE (x:=.str "para") (opE (x:=(Bk.para is).d) rfl rfl rfl) rfl (by rw[eqS];simp))))|plates n l=>exact st (e1:=[some (Bk.plates n l).d,some (sty w h o li)]) (ifF (opE (x:=.str "plates") (opE (x:=(Bk.plates n l).d) rfl rfl rfl) rfl (by rw[eqS];simp)) rfl) (ret (J6 (opE (x:=.str "plates") (opE (x:=(Bk.plates n l).d) rfl rfl rfl) rfl (by rw[eqS];simp))))|table rs l=>refine st (e1:=[some (Bk.table rs l).d,some (sty w h o li)]) (ifF (opE (x:=.str "table") (opE (x:=(Bk.table rs l).d) rfl rfl rfl) rfl (by rw[eqS];simp)) rfl) (ret (JM (opE (x:=.str "table") (opE (x:=(Bk.table rs l).d) rfl rfl rfl) rfl (by rw[eqS];simp)) ?_));exact opE (unE (opE (x:=(Bk.table rs l).d) rfl rfl rfl) (Qap rs)) (opE (x:=sty w h o li) rfl rfl ck) rfl
theorem Qi4(w h:Int)(o li:Bool)(af:Int)(i:It)(hs:ItT i):Zo [i.d,sty w h o li,.int af]=some (.bl (QaI af w i)):=by have bQ:D.ix (sty w h o li) (.int 0)=some (.int w):=rfl;unfold Zo Vq;refine stD rfl ?_;cases i with
 |word x ns=>
  refine stR (ifT (opE (x:=.str "word") (opE (x:=(It.word x ns).d) rfl rfl rfl) rfl (by rw[eqS];simp)) (ret ?_));have ad:D.add (.lst [.str x]) (Qd ns)=some (Qd (x::ns)):=QdJ (f:=D.str) (xs:=[x]) (ys:=ns) (lB (by have:=hs.2.1;simp;omega));exact JV (opE (x:=.lst [.str x]) (by unfold Qf lC lN;rfl) (opE (x:=(It.word x ns).d) rfl rfl rfl) ad) (opE rfl rfl bQ) (QdC (x::ns) w (by have:=hs.2.1;simp;omega) (λr hr=>by
   rcases List.mem_cons.mp hr with z|z;·subst z;have:=hs.1;omega
   ·have:=hs.2.2 r z;omega))|ref l a b=>
  refine st (e1:=[some (It.ref l a b).d,some (sty w h o li),some (.int af)]) (ifF (opE (x:=.str "ref") (opE (x:=(It.ref l a b).d) rfl rfl rfl) rfl (by rw[eqS];simp)) rfl) (ret (JM (opE (x:=.str "ref") (opE (x:=(It.ref l a b).d) rfl rfl rfl) rfl (by rw[eqS];simp)) ?_));exact opE (opE (opE (unE (opE (x:=(It.ref l a b).d) rfl rfl rfl) (Yj (by have:=hs.1;omega))) rfl rfl) (unE (opE (x:=(It.ref l a b).d) rfl rfl rfl) (Yj (by have:=hs.2;omega))) rfl) (opE (x:=sty w h o li) rfl rfl bQ) rfl|mark l=>exact st (e1:=[some (It.mark l).d,some (sty w h o li),some (.int af)]) (ifF (opE (x:=.str "mark") (opE (x:=(It.mark l).d) rfl rfl rfl) rfl (by rw[eqS];simp)) rfl) (ret (J6 (opE (x:=.str "mark") (opE (x:=(It.mark l).d) rfl rfl rfl) rfl (by rw[eqS];simp))))|key l=>exact st (e1:=[some (It.key l).d,some (sty w h o li),some (.int af)]) (ifF (opE (x:=.str "key") (opE (x:=(It.key l).d) rfl rfl rfl) rfl (by rw[eqS];simp)) rfl) (ret (J6 (opE (x:=.str "key") (opE (x:=(It.key l).d) rfl rfl rfl) rfl (by rw[eqS];simp))))
theorem Qjj(w h:Int)(o li:Bool)(i:It):Yz [i.d,sty w h o li]=some (.bl (Qa6 h i)):=by have ck:D.ix (sty w h o li) (.int 1)=some (.int h):=rfl;unfold Yz QaG;refine stD rfl (ret ?_);cases i with|word x ns=>exact JM (opE (x:=.str "word") (opE (x:=(It.word x ns).d) rfl rfl rfl) rfl (by rw[eqS];simp)) (opE (opE (unE (opE (x:=(It.word x ns).d) rfl rfl rfl) (Qap ns)) rfl rfl) (opE (x:=sty w h o li) rfl rfl ck) rfl)|ref l a b=>exact J6 (opE (x:=.str "ref") (opE (x:=(It.ref l a b).d) rfl rfl rfl) rfl (by rw[eqS];simp))|mark l=>exact J6 (opE (x:=.str "mark") (opE (x:=(It.mark l).d) rfl rfl rfl) rfl (by rw[eqS];simp))|key l=>exact J6 (opE (x:=.str "key") (opE (x:=(It.key l).d) rfl rfl rfl) rfl (by rw[eqS];simp))
theorem Qeb(l:Str)(n:Int)(hn:Bn n)(ls:List Str)(hl:ls.length<lI):YQ [.str l,.int n,Qx ls]=some (QhO n (ZZ l ls)):=by
 have hi:D.dIn (.str l) (Qx ls)=some (.bl (decide (l∈ls))):=by
  show some (D.bl (hasK (.inr l) (ls.map Sum.inr)))=_;rw[Qh0]
 unfold YQ Qcp ZZ;by_cases z:l∈ls
 ·rw[decide_eq_true z]at hi;rw[if_pos z];exact QbZ rfl (stZ (ifT (opE rfl rfl hi) (rzE hn rfl)))
 ·rw[decide_eq_false z]at hi;rw[if_neg z];have pd:D.put (Qx ls) (.str l) (.bl true)=some (Qx (ls++[l])):=by
   show(if(ls.map Sum.inr:List Kd).length<lI then some (Qgd _ _ (.inr l) (.bl true))else none)=_;rw[if_pos (by rw[length_map];exact hl)];unfold Qgd;rw[Qh0,if_neg (by simpa using z)];unfold Qx;rw[map_append,map_append];rfl
  refine Qf5 (e:=[some (.str l),some (.int n),some (Qx (ls++[l]))]) rfl ?_ rfl;refine st (e1:=[some (.str l),some (.int n),some (Qx ls)]) (ifF (opE rfl rfl hi) rfl) ?_;show(D.put (Qx ls) (.str l) (.bl true)).map _=_;rw[pd];rfl
theorem Qee{g:EvG}{b:EvS}{d:D}{e:Qh}{c:Nat}{n:D}{k:EvS}(h:(g d e).bind b=some (.rz c n)):Z4 ((g d e).bind b) k=some (.rz c n):=by rw[h];rfl
theorem Qhx(w h:Int)(o li:Bool)(af:Int)(b:Bk)(n:Int)(hn:Bn n)(ls:List Str)(hs:BkS b)(hl:ls.length<lI):ZD [b.d,.int n,sty w h o li,.int af,Qx ls]=some (QhO n (YA af w h li b ls)):=by
 have a1:=Qhm w h o li af b hs;have a2:=Qhy w h o li b;have a3:=QqE b;have ne:D.neO (.str (Z1 b)) (.str (Str.ofString ""))=some (.bl (!decide (Z1 b=Str.ofString ""))):=by simp[D.neO,Qy,QG,D.cmpN]
 have al:=Qeb (Z1 b) n hn ls hl;unfold ZD Qaf YA;cases q1:QaJ af w li b with
 |true=>
  rw[q1]at a1;rw[if_pos rfl];exact QbZ rfl (stZ (ifT (Vo rfl rfl rfl a1) (rzE hn rfl)))|false=>
  rw[q1]at a1;rw[if_neg (by decide)];cases q2:Qb2 h b with
  |true=>
   rw[q2]at a2;rw[if_pos rfl];exact QbZ rfl (st (e1:=[some b.d,some (.int n),some (sty w h o li),some (.int af),some (Qx ls)]) (ifF (Vo rfl rfl rfl a1) rfl) (stZ (ifT (JV rfl rfl a2) (rzE hn rfl))))|false=>
   rw[q2]at a2;rw[if_neg (by decide)];by_cases z:Z1 b=""
   ·rw[if_pos z];refine Qf5 (e:=[some b.d,some (.int n),some (sty w h o li),some (.int af),some (Qx ls)]) rfl ?_ rfl;refine st (e1:=[some b.d,some (.int n),some (sty w h o li),some (.int af),some (Qx ls)]) (ifF (Vo rfl rfl rfl a1) rfl) ?_;refine st (e1:=[some b.d,some (.int n),some (sty w h o li),some (.int af),some (Qx ls)]) (ifF (JV rfl rfl a2) rfl) ?_;exact ifF (opE (Q7 rfl a3) rfl (by rw[ne,decide_eq_true z];rfl)) rfl
   ·rw[if_neg z];have d5:eOp D.neO (eK YH (lC (eV 0) lN)) (eC (.str "")) [some b.d,some (.int n),some (sty w h o li),some (.int af),some (Qx ls)]=some (.bl true):=opE (Q7 rfl a3) rfl (by rw[ne,decide_eq_false z];rfl);have dQ:lC (eK YH (lC (eV 0) lN)) (lC (eV 1) lN) [some b.d,some (.int n),some (sty w h o li),some (.int af),some (Qx ls)]=some [.str (Z1 b),.int n]:=lc (Q7 rfl a3) rfl;cases q:ZZ (Z1 b) ls with|inl c=>rw[q]at al;refine QbZ rfl ?_;refine st (e1:=[some b.d,some (.int n),some (sty w h o li),some (.int af),some (Qx ls)]) (ifF (Vo rfl rfl rfl a1) rfl) ?_;refine st (e1:=[some b.d,some (.int n),some (sty w h o li),some (.int af),some (Qx ls)]) (ifF (JV rfl rfl a2) rfl) ?_;exact ifT d5 (QcR dQ rfl al)|inr aY=>rw[q]at al;refine Qf5 (e:=[some b.d,some (.int n),some (sty w h o li),some (.int af),some (Qx aY)]) rfl ?_ rfl;refine st (e1:=[some b.d,some (.int n),some (sty w h o li),some (.int af),some (Qx ls)]) (ifF (Vo rfl rfl rfl a1) rfl) ?_;refine st (e1:=[some b.d,some (.int n),some (sty w h o li),some (.int af),some (Qx ls)]) (ifF (JV rfl rfl a2) rfl) ?_;exact ifT d5 (QdX dQ rfl al)
theorem Qjg(w h:Int)(o li:Bool)(af:Int)(i:It)(n:Int)(hn:Bn n)(ls:List Str)(hs:ItT i)(hl:ls.length<lI):ZU [i.d,.int n,sty w h o li,.int af,Qx ls]=some (QhO n (Qb0 af w h i ls)):=by
 have a1:=Qi4 w h o li af i hs;have a2:=Qjj w h o li i;unfold ZU QaF Qb0;cases q1:QaI af w i with
 |true=>rw[q1]at a1;rw[if_pos rfl];exact QbZ rfl (stZ (ifT (Vo rfl rfl rfl a1) (rzE hn rfl)))|false=>
  rw[q1]at a1;rw[if_neg (by decide)];cases q2:Qa6 h i with
  |true=>
   rw[q2]at a2;rw[if_pos rfl];exact QbZ rfl (st (e1:=[some i.d,some (.int n),some (sty w h o li),some (.int af),some (Qx ls)]) (ifF (Vo rfl rfl rfl a1) rfl) (stZ (ifT (JV rfl rfl a2) (rzE hn rfl))))|false=>
   rw[q2]at a2;rw[if_neg (by decide)];have no:∀(t:Str),D.ix i.d (.int 0)=some (.str t)->t≠"mark"->YY 5 5 (sQ (sIf (eK Zo (lC (eV 0) (lC (eV 2) (lC (eV 3) lN)))) (Z9 1 (eV 1)) (sNx)) (sQ (sIf (eK Yz (lC (eV 0) (lC (eV 2) lN))) (Z9 2 (eV 1)) (sNx)) (sIf (eOp D.eqO (eOp D.ix (eV 0) (eC (.int 0))) (eC (.str "mark"))) (Zz 4 YQ (lC (eOp D.ix (eV 0) (eC (.int 1))) (lC (eV 1) lN))) (sNx)))) [i.d,.int n,sty w h o li,.int af,Qx ls]=some (.inl (Qx ls)):=λt ht da=>by refine Qf5 (e:=[some i.d,some (.int n),some (sty w h o li),some (.int af),some (Qx ls)]) rfl ?_ rfl;refine st (e1:=[some i.d,some (.int n),some (sty w h o li),some (.int af),some (Qx ls)]) (ifF (Vo rfl rfl rfl a1) rfl) ?_;refine st (e1:=[some i.d,some (.int n),some (sty w h o li),some (.int af),some (Qx ls)]) (ifF (JV rfl rfl a2) rfl) ?_;exact ifF (opE (opE (x:=i.d) rfl rfl ht) rfl (by rw[eqS,decide_eq_false da])) rfl
   cases i with
   |mark l=>
    have al:=Qeb l n hn ls hl;have d5:eOp D.eqO (eOp D.ix (eV 0) (eC (.int 0))) (eC (.str "mark")) [some (It.mark l).d,some (.int n),some (sty w h o li),some (.int af),some (Qx ls)]=some (.bl true):=opE (x:=.str "mark") (opE (x:=(It.mark l).d) rfl rfl rfl) rfl (by rw[eqS];simp);show YY _ _ _ _=some (QhO n (ZZ l ls));cases q:ZZ l ls with
    |inl c=>
     rw[q]at al;refine QbZ rfl ?_;refine st (e1:=[some (It.mark l).d,some (.int n),some (sty w h o li),some (.int af),some (Qx ls)]) (ifF (Vo rfl rfl rfl a1) rfl) ?_;refine st (e1:=[some (It.mark l).d,some (.int n),some (sty w h o li),some (.int af),some (Qx ls)]) (ifF (JV rfl rfl a2) rfl) ?_;exact ifT d5 (QcR (ds:=[.str l,.int n]) rfl rfl al)|inr aY=>
     rw[q]at al;refine Qf5 (e:=[some (It.mark l).d,some (.int n),some (sty w h o li),some (.int af),some (Qx aY)]) rfl ?_ rfl;refine st (e1:=[some (It.mark l).d,some (.int n),some (sty w h o li),some (.int af),some (Qx ls)]) (ifF (Vo rfl rfl rfl a1) rfl) ?_;refine st (e1:=[some (It.mark l).d,some (.int n),some (sty w h o li),some (.int af),some (Qx ls)]) (ifF (JV rfl rfl a2) rfl) ?_;exact ifT d5 (QdX (ds:=[.str l,.int n]) rfl rfl al)
   |word x ns=>exact no "word" rfl (by decide)|ref l x y=>exact no "ref" rfl (by decide)|key x=>exact no "key" rfl (by decide)
theorem Qhi{l:Str}{ls aY:List Str}(h:ZZ l ls=.inr aY):aY.length<=ls.length+1:=by
 unfold ZZ at h;split at h;·cases h
 ·cases h;simp
theorem QgX{af w h:Int}{i:It}{ls aY:List Str}(e:Qb0 af w h i ls=.inr aY):aY.length<=ls.length+1:=by
 unfold Qb0 at e;split at e;·cases e
 ·split at e;·cases e
  ·split at e;·exact Qhi e
   ·cases e;omega
theorem Qng{af w h:Int}{li:Bool}{b:Bk}{ls aY:List Str}(e:YA af w h li b ls=.inr aY):aY.length<=ls.length+1:=by
 unfold YA at e;split at e;·cases e
 ·split at e;·cases e
  ·split at e;·cases e;omega
   ·exact Qhi e
theorem QfB{af w h:Int}:∀{is:List It}{ls aY:List Str},JN af w h is ls=.inr aY->aY.length<=ls.length+is.length
 |[],ls,aY,e=>by cases e;simp|i::r,ls,aY,e=>by
  unfold JN at e;split at e;·cases e
  ·rename_i l1 q;have h1:=QgX q;split at e;·cases e
   ·have h2:=QfB e;rw[length_cons];omega
def Qbu:EvS:=sQ (Zz 4 ZU (lC (eV 6) (lC (eV 1) (lC (eV 2) (lC (eV 3) lN))))) (sIf (eK Yl (lC (eV 6) lN)) (Vt 5 D.sub (eC (.int 1))) (sIf (eOp D.eqO (eV 5) (eC (.int 0))) (Z9 4 (eV 1)) sNx))
noncomputable def goL(f:List Str->Option Fl->Prop)(n:Int)(o:Option Fl):LR->Prop|.inl c=>o=some (.rz c (.int n))|.inr ls=>f ls o
theorem Qg1(IS S:D)(w h:Int)(o li:Bool)(hS:S=sty w h o li)(af n:Int)(hn:Bn n):∀(r:List It)(ls:List Str)(v:Option D),(∀i∈r,ItT i)->ls.length+r.length<lI->goL (λaY q=>∃v' m,q=some (.nx [some IS,some (.int n),some S,some (.int af),some (Qx aY),m,v'])) n (QA (gS 6) Qbu (r.map It.d) [some IS,some (.int n),some S,some (.int af),some (Qx ls),some (.int (JX r)),v]) (JN af w h r ls)
 |[],ls,v,_,_=>⟨v,_,rfl⟩|i::r,ls,v,ht,hl=>by
  rw[length_cons]at hl;have fE:=Qjg w h o li af i n hn ls (ht i (by simp)) (by omega);rw[<-hS]at fE;have cN:=Qiz i;have nc:=QgS i r;rw[map_cons];have b1:gS 6 i.d [some IS,some (.int n),some S,some (.int af),some (Qx ls),some (.int (JX (i::r))),v]=some [some IS,some (.int n),some S,some (.int af),some (Qx ls),some (.int (JX (i::r))),some i.d]:=rfl;unfold JN;cases q:Qb0 af w h i ls with
  |inl c=>rw[q]at fE;exact Qee (bnd (b:=Qbu) b1 (stZ (QcR (ds:=[i.d,.int n,S,.int af]) rfl rfl fE)))|inr aY=>
   rw[q]at fE;have hlen:=QgX q;have cT:=QdX (i:=4) (f:=ZU) (l:=lC (eV 6) (lC (eV 1) (lC (eV 2) (lC (eV 3) lN)))) (e:=[some IS,some (.int n),some S,some (.int af),some (Qx ls),some (.int (JX (i::r))),some i.d]) (ds:=[i.d,.int n,S,.int af]) rfl rfl fE;have ih:=Qg1 IS S w h o li hS af n hn r aY (some i.d) (λj hj=>ht j (by simp[hj])) (by omega);dsimp only;cases z:Q5 i with
   |true=>
    rw[z]at cN nc;rw[if_neg (by simp)];have e1:(gS 6 i.d [some IS,some (.int n),some S,some (.int af),some (Qx ls),some (.int (JX (i::r))),v]).bind Qbu=some (.nx [some IS,some (.int n),some S,some (.int af),some (Qx aY),some (.int (JX r)),some i.d]):=by refine bnd b1 (st cT (ifT (Q7 rfl cN) ?_));rw[nc,if_pos rfl];show some (Fl.nx [some IS,some (D.int n),some S,some (D.int af),some (Qx aY),some (D.int (((1+JX r:Nat):Int)-1)),some i.d])=_;rw[show(((1+JX r:Nat):Int)-1)=(JX r:Int)by omega]
    show goL _ n (Z4 ((gS 6 i.d _).bind Qbu) _) _;rw[e1,Y9];exact ih|false=>
    rw[z]at cN nc;have gZ:JX (i::r)=JX r:=by rw[nc];simp
    by_cases z0:JX r=0;·rw[if_pos ⟨rfl,z0⟩];exact Qee (bnd (b:=Qbu) b1 (st cT (ifF (Q7 rfl cN) (ifT (opE rfl rfl (eqT (by rw[gZ,z0];rfl))) (rzE hn rfl)))))
    ·rw[if_neg (by simp[z0])];have e1:(gS 6 i.d [some IS,some (.int n),some S,some (.int af),some (Qx ls),some (.int (JX (i::r))),v]).bind Qbu=some (.nx [some IS,some (.int n),some S,some (.int af),some (Qx aY),some (.int (JX r)),some i.d]):=by
      refine bnd b1 (st cT (ifF (Q7 rfl cN) (ifF (opE rfl rfl (eqF (by rw[gZ];omega))) ?_)));rw[gZ];rfl
     show goL _ n (Z4 ((gS 6 i.d _).bind Qbu) _) _;rw[e1,Y9];exact ih
theorem Qhw(w h:Int)(o li:Bool)(af:Int)(is:List It)(n:Int)(hn:Bn n)(ls:List Str)(hl:is.length<=100000)(hs:∀i∈is,ItT i)(dI:ls.length+is.length<lI):Ye [.lst (is.map It.d),.int n,sty w h o li,.int af,Qx ls]=some (QhO n (JN af w h is ls)):=by have hc:=Qih (it:=QC (eV 0)) (e:=sD 7 [.lst (is.map It.d),.int n,sty w h o li,.int af,Qx ls]) is rfl (by omega);have ln:=QhY (is.filter Q5);have e1:((is.filter Q5).length:Int)=(JX is:Int):=rfl;rw[e1]at ln;have lp:=Qg1 (.lst (is.map It.d)) (sty w h o li) w h o li rfl af n hn is ls none hs dI;have s1:Qe (eUn D.len (QF 1 [] (QC (eV 0)) (gS 0) (eK Yl (lC (eV 0) lN)) (eV 0))) (gS 5) (sD 7 [.lst (is.map It.d),.int n,sty w h o li,.int af,Qx ls])=some (.nx [some (.lst (is.map It.d)),some (.int n),some (sty w h o li),some (.int af),some (Qx ls),some (.int (JX is)),none]):=asg (unE hc ln) rfl;unfold Ye Qae;cases q:JN af w h is ls with|inl c=>rw[q]at lp;exact QbZ rfl (st s1 lp)|inr aY=>rw[q]at lp;obtain⟨v',m,e2⟩:=lp;exact Qf5 (e:=[some (.lst (is.map It.d)),some (.int n),some (sty w h o li),some (.int af),some (Qx aY),m,v']) rfl (st s1 e2) rfl
def Qbz:EvS:=sQ (Zz 3 ZD (lC (eV 5) (lC (eV 4) (lC (eV 1) (lC (eV 2) lN))))) (Zz 3 Ye (lC (eK JQ (lC (eV 5) lN)) (lC (eV 4) (lC (eV 1) (lC (eV 2) lN)))))
def Qc5(ps:List (Bk×Nat)):Nat:=(ps.map λp=>1+(iO p.1).length).sum
noncomputable def goB(f:List Str->Option Fl->Prop)(o:Option Fl):Sum (Nat×Nat) (List Str)->Prop|.inl (c,n)=>o=some (.rz c (.int n))|.inr ls=>f ls o
theorem QfF(B S:D)(w h:Int)(o li:Bool)(hS:S=sty w h o li)(af:Int):∀(ps:List (Bk×Nat))(ls:List Str)(u v:Option D),(∀p∈ps,BkS p.1/\BkT p.1/\(iO p.1).length<=100000/\Bn (p.2:Int))->ls.length+Qc5 ps<lI->goB (λaY q=>∃u' v',q=some (.nx [some B,some S,some (.int af),some (Qx aY),u',v'])) (QA (Q4 [gS 4,gS 5]) Qbz (ps.map λp=>D.tup [.int p.2,p.1.d]) [some B,some S,some (.int af),some (Qx ls),u,v]) (YJ af w h li ps ls)
 |[],ls,u,v,_,_=>⟨u,v,rfl⟩|p::ps,ls,u,v,ht,hl=>by
  obtain⟨b,k⟩:=p;have hb:=ht (b,k) (by simp);have gw:Qc5 ((b,k)::ps)=1+(iO b).length+Qc5 ps:=by unfold Qc5;simp
  rw[gw]at hl;have lb:=Qhx w h o li af b k hb.2.2.2 ls hb.1 (by omega);rw[<-hS]at lb;have io:=Qdn b;rw[map_cons];have b1:Q4 [gS 4,gS 5] (.tup [.int (k:Int),b.d]) [some B,some S,some (.int af),some (Qx ls),u,v]=some [some B,some S,some (.int af),some (Qx ls),some (.int k),some b.d]:=rfl;unfold YJ Qbt;dsimp only;cases q:YA af w h li b ls with
  |inl c=>
   rw[q]at lb;exact Qee (bnd (b:=Qbz) b1 (stZ (QcR (ds:=[b.d,.int k,S,.int af]) rfl rfl lb)))|inr l1=>rw[q]at lb;have h1:=Qng q;have lx:=Qhw w h o li af (iO b) k hb.2.2.2 l1 hb.2.2.1 hb.2.1 (by omega);rw[<-hS]at lx;have cT:=QdX (i:=3) (f:=ZD) (l:=lC (eV 5) (lC (eV 4) (lC (eV 1) (lC (eV 2) lN)))) (e:=[some B,some S,some (.int af),some (Qx ls),some (.int k),some b.d]) (ds:=[b.d,.int k,S,.int af]) rfl rfl lb;have dQ:lC (eK JQ (lC (eV 5) lN)) (lC (eV 4) (lC (eV 1) (lC (eV 2) lN))) [some B,some S,some (.int af),some (Qx l1),some (.int k),some b.d]=some [.lst ((iO b).map It.d),.int k,S,.int af]:=lc (Q7 rfl io) rfl;dsimp only;cases q2:JN af w h (iO b) l1 with|inl c=>rw[q2]at lx;exact Qee (bnd (b:=Qbz) b1 (st cT (QcR dQ rfl lx)))|inr l2=>rw[q2]at lx;have h2:=QfB q2;have ih:=QfF B S w h o li hS af ps l2 (some (.int k)) (some b.d) (λp hp=>ht p (by simp[hp])) (by omega);have e1:(Q4 [gS 4,gS 5] (.tup [.int (k:Int),b.d]) [some B,some S,some (.int af),some (Qx ls),u,v]).bind Qbz=some (.nx [some B,some S,some (.int af),some (Qx l2),some (.int k),some b.d]):=bnd b1 (st cT (QdX dQ rfl lx));show goB _ (Z4 ((Q4 _ _ _).bind Qbz) _) _;rw[e1,Y9];exact ih
def QaQ:EvS:=sIf (eOp D.dNotIn (eV 4) (eV 1)) (Z9 5 (eV 2)) sNx
theorem Qsa(l:Str)(ls:List Str):D.dNotIn (.str l) (Qx ls)=some (.bl (!decide (l∈ls))):=by show some (D.bl (!hasK (.inr l) (ls.map Sum.inr)))=_;rw[Qh0]
theorem Qik(B X:D)(ls:List Str)(k:Nat)(hn:Bn (k:Int)):∀(xs:List Str)(v:Option D),if xs.all (λl=>decide (l∈ls))=true then∃v',QA (gS 4) QaQ (xs.map .str) [some B,some (Qx ls),some (.int k),some X,v]=some (.nx [some B,some (Qx ls),some (.int k),some X,v'])else QA (gS 4) QaQ (xs.map .str) [some B,some (Qx ls),some (.int k),some X,v]=some (.rz 5 (.int k))
 |[],v=>by rw[if_pos (by simp)];exact⟨v,rfl⟩|l::xs,v=>by
  have ni:=Qsa l ls;have ih:=Qik B X ls k hn xs (some (.str l));have b1:gS 4 (.str l) [some B,some (Qx ls),some (.int k),some X,v]=some [some B,some (Qx ls),some (.int k),some X,some (.str l)]:=rfl;rw[map_cons,all_cons];by_cases z:l∈ls
  ·rw[decide_eq_true z]at ni⊢;have e1:(gS 4 (.str l) [some B,some (Qx ls),some (.int k),some X,v]).bind QaQ=some (.nx [some B,some (Qx ls),some (.int k),some X,some (.str l)]):=bnd b1 (ifF (opE rfl rfl ni) rfl);rw[Bool.true_and];split at ih;·rename_i q;rw[if_pos q];obtain⟨v',e2⟩:=ih;refine⟨v',?_⟩;show Z4 ((gS 4 _ _).bind QaQ) _=_;rw[e1,Y9];exact e2
   ·rename_i q;rw[if_neg q];show Z4 ((gS 4 _ _).bind QaQ) _=_;rw[e1,Y9];exact ih
  ·rw[decide_eq_false z]at ni⊢;rw[if_neg (by simp)];exact Qee (bnd (b:=QaQ) b1 (ifT (opE rfl rfl ni) (rzE hn rfl)))
theorem Qs1(b:Bk)(h:(iO b).length<=100000):Qbv [.lst [b.d]]=some (Qd (Jx (iO b))):=by have:=Qp7 [b] ⟨by simp,by simpa using h⟩;rw[show rO [b]=Jx (iO b)by unfold rO;simp]at this;exact this
def VT:EvS:=QP (QC (eK Qbv (lC (Qf (lC (eV 3) lN)) lN))) (gS 4) QaQ
theorem QfA(B:D)(ls:List Str):∀(ps:List (Bk×Nat))(u v z:Option D),(∀p∈ps,(iO p.1).length<=100000/\Bn (p.2:Int))->match Ys ls ps with
  |none=>∃u' v' z',QA (Q4 [gS 2,gS 3]) VT (ps.map λp=>D.tup [.int p.2,p.1.d]) [some B,some (Qx ls),u,v,z]=some (.nx [some B,some (Qx ls),u',v',z'])|some k=>QA (Q4 [gS 2,gS 3]) VT (ps.map λp=>D.tup [.int p.2,p.1.d]) [some B,some (Qx ls),u,v,z]=some (.rz 5 (.int k))
 |[],u,v,z,_=>⟨u,v,z,rfl⟩|p::ps,u,v,z,hp=>by
  obtain⟨b,k⟩:=p;have r1:=Qs1 b (hp (b,k) (by simp)).1;have lp:=Qik B b.d ls k (hp (b,k) (by simp)).2 (Jx (iO b)) z;have b1:Q4 [gS 2,gS 3] (.tup [.int (k:Int),b.d]) [some B,some (Qx ls),u,v,z]=some [some B,some (Qx ls),some (.int k),some b.d,z]:=rfl;have hit:QC (eK Qbv (lC (Qf (lC (eV 3) lN)) lN)) [some B,some (Qx ls),some (.int k),some b.d,z]=some ((Jx (iO b)).map .str):=by unfold QC;rw[Q7 (x:=.lst [b.d]) rfl r1];rfl
  have sf:VT [some B,some (Qx ls),some (.int k),some b.d,z]=QA (gS 4) QaQ ((Jx (iO b)).map .str) [some B,some (Qx ls),some (.int k),some b.d,z]:=by unfold VT QP;rw[hit];rfl
  rw[map_cons];unfold Ys;split at lp
  ·rename_i q;rw[if_pos q];obtain⟨z',e1⟩:=lp;have ih:=QfA B ls ps (some (.int k)) (some b.d) z' (λp h=>hp p (by simp[h]));have e2:(Q4 [gS 2,gS 3] (.tup [.int (k:Int),b.d]) [some B,some (Qx ls),u,v,z]).bind VT=some (.nx [some B,some (Qx ls),some (.int k),some b.d,z']):=bnd b1 (sf.trans e1);have e3:QA (Q4 [gS 2,gS 3]) VT (D.tup [.int (k:Int),b.d]::ps.map λp=>D.tup [.int p.2,p.1.d]) [some B,some (Qx ls),u,v,z]=QA (Q4 [gS 2,gS 3]) VT (ps.map λp=>D.tup [.int p.2,p.1.d]) [some B,some (Qx ls),some (.int k),some b.d,z']:=by show Z4 ((Q4 _ _ _).bind VT) _=_;rw[e2,Y9]
   cases q2:Ys ls ps with
   |none=>rw[q2]at ih;dsimp only;rw[e3];exact ih|some m=>rw[q2]at ih;dsimp only;rw[e3];exact ih
  ·rename_i q;rw[if_neg q];exact Qee (bnd (b:=VT) b1 (sf.trans lp))
theorem QjV(w h:Int)(o li:Bool):V3 [sty w h o li]=some (.bl (decide (4<=w/\w<=90/\2<=h/\h<=60))):=by
 have bQ:D.ix (sty w h o li) (.int 0)=some (.int w):=rfl;have ck:D.ix (sty w h o li) (.int 1)=some (.int h):=rfl;unfold V3 Qds;refine stD rfl (ret ?_);have c1:∀(e:Qh),eV 0 e=some (sty w h o li)->JO D.le D.le (eC (.int 4)) (eOp D.ix (eV 0) (eC (.int 0))) (eC (.int 90)) e=some (.bl (decide (4<=w/\w<=90))):=λe he=>by
  unfold JO;rw[opE he rfl bQ];show ifO (some (D.bl (decide (4<=w)))) (some (D.bl (decide (w<=90)))) (some (.bl false))=_;rw[Qp];by_cases z:4<=w<;>simp[z]
 have c2:∀(e:Qh),eV 0 e=some (sty w h o li)->JO D.le D.le (eC (.int 2)) (eOp D.ix (eV 0) (eC (.int 1))) (eC (.int 60)) e=some (.bl (decide (2<=h/\h<=60))):=λe he=>by
  unfold JO;rw[opE he rfl ck];show ifO (some (D.bl (decide (2<=h)))) (some (D.bl (decide (h<=60)))) (some (.bl false))=_;rw[Qp];by_cases z:2<=h<;>simp[z]
 by_cases z:4<=w/\w<=90
 ·rw[JM (by rw[c1 _ rfl,decide_eq_true z]) (c2 _ rfl)];have:(4<=w/\w<=90/\2<=h/\h<=60)↔(2<=h/\h<=60):=⟨λq=>q.2.2,λq=>⟨z.1,z.2,q⟩⟩;rw[decide_eq_decide.mpr this]
 ·rw[J6 (by rw[c1 _ rfl,decide_eq_false z])];rw[decide_eq_false (λq=>z ⟨q.1,q.2.1⟩)]
theorem QnB{bs:List Bk}(hf:Few bs):Qc5 bs.zipIdx<lI:=by
 have:∀(bs:List Bk)(n:Nat),Qc5 (bs.zipIdx n)=bs.length+(bs.flatMap iO).length:=by
  intro bs;induction bs with
  |nil=>intro n;rfl|cons b bs ih=>
   intro n;rw[zipIdx_cons];unfold Qc5 at ih⊢;rw[map_cons,sum_cons,ih,flatMap_cons,length_append,length_cons];dsimp only;omega
 rw[this];have h1:=hf.1;have h2:=hf.2;exact Nat.lt_of_le_of_lt (show _<=200000 by omega) (by decide)
theorem mem_zipIdx{bs:List Bk}{p:Bk×Nat}(h:p∈bs.zipIdx):p.1∈bs:=by have:=List.mem_zipIdx h;rw[this.2.2];exact getElem_mem _
theorem Qhc{bs:List Bk}(hf:Few bs){p:Bk×Nat}(h:p∈bs.zipIdx):Bn (p.2:Int):=by
 have h1:=(List.mem_zipIdx h).2.1;have h2:=hf.1;have:((10:Int)^60)=1000000000000000000000000000000000000000000000000000000000000:=by decide
 unfold Bn;omega
theorem QoY(w h:Int)(o li:Bool)(bs:List Bk)(hf:Few bs)(h0:0<=most li bs)(h1:most li bs<10^60)(hs:∀b∈bs,BkS b)(ht:∀b∈bs,BkT b):Y7 [bks bs,sty w h o li]=some (rsT (VA w h li bs)):=by
 have is:=QjV w h o li;have ra:=QdB w h o li bs hf h0 h1;unfold Y7 Qh6 VA;by_cases z:4<=w/\w<=90/\2<=h/\h<=60
 ·rw[if_pos z];rw[decide_eq_true z]at is;have lp:=QfF (bks bs) (sty w h o li) w h o li rfl (JC (most li bs).toNat) bs.zipIdx [] none none (λp hp=>⟨hs _ (mem_zipIdx hp),ht _ (mem_zipIdx hp),Va hf _ (mem_zipIdx hp),Qhc hf hp⟩) (by simpa using QnB hf);have hit:∀(e:Qh),eV 0 e=some (bks bs)->VD (eV 0) e=some (bs.zipIdx.map λp=>D.tup [.int p.2,p.1.d]):=λe he=>by unfold VD;rw[he];show some (VE 0 (bs.map Bk.d))=_;rw[Qdd]
  have s1:sIf (Jg (eK V3 (lC (eV 1) lN))) Qgl sNx (sD 6 [bks bs,sty w h o li])=some (.nx [some (bks bs),some (sty w h o li),none,none,none,none]):=ifF (QhP (b:=true) (Q7 rfl is)) rfl;have s2:Qe (eK Zm (lC (eV 0) (lC (eV 1) lN))) (gS 2) [some (bks bs),some (sty w h o li),none,none,none,none]=some (.nx [some (bks bs),some (sty w h o li),some (.int (JC (most li bs).toNat)),none,none,none]):=asg (JV rfl rfl ra) rfl;have s3:Qe (eC (.dic [] [])) (gS 3) [some (bks bs),some (sty w h o li),some (.int (JC (most li bs).toNat)),none,none,none]=some (.nx [some (bks bs),some (sty w h o li),some (.int (JC (most li bs).toNat)),some (Qx []),none,none]):=rfl;have s4:QP (VD (eV 0)) (Q4 [gS 4,gS 5]) Qbz [some (bks bs),some (sty w h o li),some (.int (JC (most li bs).toNat)),some (Qx []),none,none]=QA (Q4 [gS 4,gS 5]) Qbz (bs.zipIdx.map λp=>D.tup [.int p.2,p.1.d]) [some (bks bs),some (sty w h o li),some (.int (JC (most li bs).toNat)),some (Qx []),none,none]:=by unfold QP;rw[hit _ rfl];rfl
  cases q:YJ (JC (most li bs).toNat) w h li bs.zipIdx []with
  |inl x=>
   obtain⟨c,n⟩:=x;rw[q]at lp;exact Qf4 rfl (st s1 (st s2 (st s3 (stZ (s4.trans lp)))))|inr ls=>
   rw[q]at lp;obtain⟨u',v',e1⟩:=lp;have rb:=QfA (bks bs) ls bs.zipIdx none none none (λp hp=>⟨Va hf _ (mem_zipIdx hp),Qhc hf hp⟩);have sr:Zn [bks bs,Qx ls]=some (rsT ((Ys ls bs.zipIdx).map λn=>(5,some n))):=by
    unfold Zn QaE;have sf:QP (VD (eV 0)) (Q4 [gS 2,gS 3]) VT (sD 5 [bks bs,Qx ls])=QA (Q4 [gS 2,gS 3]) VT (bs.zipIdx.map λp=>D.tup [.int p.2,p.1.d]) [some (bks bs),some (Qx ls),none,none,none]:=by unfold QP;rw[hit _ rfl];rfl
    cases q2:Ys ls bs.zipIdx with
    |none=>
     rw[q2]at rb;obtain⟨a,b,c,e2⟩:=rb;exact Qrj rfl (sf.trans e2)|some m=>
     rw[q2]at rb;exact Qf4 rfl (sf.trans rb)
   have sc:∀r,Zn [bks bs,Qx ls]=some r->Zq Zn (lC (eV 0) (lC (eV 3) lN)) [some (bks bs),some (sty w h o li),some (.int (JC (most li bs).toNat)),some (Qx ls),u',v']=some (QhN [some (bks bs),some (sty w h o li),some (.int (JC (most li bs).toNat)),some (Qx ls),u',v'] r):=λr hr=>by
    unfold Zq;show(Zn [bks bs,Qx ls]).map _=_;rw[hr];rfl
   dsimp only;cases q2:Ys ls bs.zipIdx with
   |none=>
    rw[q2]at sr;exact Qrj (e:=[some (bks bs),some (sty w h o li),some (.int (JC (most li bs).toNat)),some (Qx ls),u',v']) rfl (st s1 (st s2 (st s3 (st (s4.trans e1) (sc _ sr)))))|some m=>
    rw[q2]at sr;exact Qf4 rfl (st s1 (st s2 (st s3 (st (s4.trans e1) (sc _ sr)))))
 ·rw[if_neg z];rw[decide_eq_false z]at is;exact Qf4 rfl (stZ (ifT (QhP (b:=false) (Q7 rfl is)) rfl))
theorem rmE{p:Nat}{a:EvE}{e:Qh}{d z:D}(h:a e=some d)(hz:eV p e=some z):JY p a e=some (.rm d z):=by unfold JY;rw[h,hz];rfl
theorem Y4{a k:EvS}{e:Qh}{d z:D}(h:a e=some (.rm d z)):sQ a k e=some (.rm d z):=by unfold sQ;rw[h];rfl
theorem Qak{n k:Nat}{b:EvS}{ds:List D}{d z:D}(hl:ds.length=k)(h:b (sD n ds)=some (.rm d z)):Qa3 n k b ds=some (d,z):=by unfold Qa3;rw[if_pos hl,h]
theorem Qfm{g:EvG}{b:EvS}{d:D}{e:Qh}{x z:D}{k:EvS}(h:(g d e).bind b=some (.rm x z)):Z4 ((g d e).bind b) k=some (.rm x z):=by rw[h];rfl
theorem Qct{g:EvG}{b:EvS}{d:D}{e:Qh}{x:D}{k:EvS}(h:(g d e).bind b=some (.rt x)):Z4 ((g d e).bind b) k=some (.rt x):=by rw[h];rfl
theorem Qbr{g:EvG}{b:EvS}{d:D}{e e1:Qh}{k:EvS}{r:Option Fl}(h:(g d e).bind b=some (.nx e1))(hk:k e1=r):Z4 ((g d e).bind b) k=r:=by rw[h];exact hk
theorem Qk2{i:Nat}{f:List D->Option (D×D)}{l:EvL}{g:EvG}{e e1:Qh}{ds:List D}{d v z:D}(hl:l e=some ds)(hd:eV i e=some d)(hf:f (ds++[d])=some (v,z))(hg:g v (e.set i (some z))=some e1):Qc1 i f l g e=some (.nx e1):=by unfold Qc1;rw[hl,hd];show(f (ds++[d])).bind _=_;rw[hf];show(g v (e.set i (some z))).map _=_;rw[hg];rfl
theorem QkW{i:Nat}{f:List D->Option (D×D)}{l:EvL}{e:Qh}{ds:List D}{d v z:D}(hl:l e=some ds)(hd:eV i e=some d)(hf:f (ds++[d])=some (v,z)):Qeg i f l e=some (.rm v z):=by unfold Qeg;rw[hl,hd];show(f (ds++[d])).map _=_;rw[hf];rfl
noncomputable def nz(L:List Str):List Str:=L.filter λl=>decide (l≠"")
theorem Qfp{l:Str}{L:List Str}(h:l≠""):l∈nz L↔l∈L:=by unfold nz;rw[List.mem_filter];simp[h]
theorem Qmi(L:List Str)(l:Str):nz (L++[l])=if l=""then nz L else nz L++[l]:=by
 unfold nz;rw[List.filter_append];split;·rename_i h;simp[h]
 ·rename_i h;simp[h]
theorem QeR(l:Str):∀L:List Str,inD (.str l) (L.map .str)=decide (l∈L)
 |[]=>by simp[inD]|x::L=>by
  rw[map_cons,inD,QeR l L,QG];by_cases z:x=l;·subst z;simp
  ·have:¬l=x:=λq=>z q.symm;simp[z,this]
theorem QiU(L:List Str):(L.map D.str).all Jp=true:=by rw[all_map];simp[Jp]
theorem Qsr(l:Str)(L:List Str):D.inO (.str l) (Qd L)=some (.bl (decide (l∈L))):=by show(if Jp (.str l)=true/\(L.map D.str).all Jp=true then some (D.bl (inD (.str l) (L.map D.str)))else none)=_;rw[if_pos ⟨rfl,QiU L⟩,QeR]
theorem Qnd(l:Str)(L:List Str):D.notInO (.str l) (Qd L)=some (.bl (!decide (l∈L))):=by show(if Jp (.str l)=true/\(L.map D.str).all Jp=true then some (D.bl (!inD (.str l) (L.map D.str)))else none)=_;rw[if_pos ⟨rfl,QiU L⟩,QeR]
theorem neS(x y:Str):D.neO (.str x) (.str y)=some (.bl (!decide (x=y))):=by simp[D.neO,Qy,QG,D.cmpN]
theorem Qiv(l:Str)(L:List Str)(hl:L.length<lI):JA [.str l,Qd L]=some (if l≠""/\l∈L then(.str "twice",Qd L)else(.str "",Qd (L++[l]))):=by
 unfold JA QbR;have ap:=QkH l hl;have fin:∀c,(Qz (eOp D.neO (eV 0) (eC (.str ""))) (eOp D.inO (eV 0) (eV 1))) [some (.str l),some (Qd L)]=some (.bl c)->Qa3 2 2 (sQ (sIf (Qz (eOp D.neO (eV 0) (eC (.str ""))) (eOp D.inO (eV 0) (eV 1))) (JY 1 (eC (.str "twice"))) sNx) (sQ (sP 1 (eV 0)) (JY 1 (eC (.str ""))))) [.str l,Qd L]=some (if c=true then(.str "twice",Qd L)else(.str "",Qd (L++[l]))):=λc hc=>by cases c with
  |true=>exact Qak rfl (Y4 (ifT hc (rmE rfl rfl)))|false=>exact Qak rfl (st (e1:=[some (.str l),some (Qd L)]) (ifF hc rfl) (st (e1:=[some (.str l),some (Qd (L++[l]))]) (Qge (x:=Qd L) rfl rfl ap) (rmE rfl rfl)))
 by_cases z:l="";·rw[fin false (J6 (opE rfl rfl (by rw[neS,decide_eq_true z];rfl))),if_neg (by simp),if_neg (by simp[z])]
 ·rw[fin (decide (l∈L)) (JM (opE rfl rfl (by rw[neS,decide_eq_false z];rfl)) (opE rfl rfl (Qsr l L)))];by_cases y:l∈L;·simp[y,z]
  ·simp[y]
theorem QgY(l:Str)(L:List Str)(hl:L.length<lI)(hn:l≠""):match ZZ l (nz L)with
  |.inl c=>c=3/\JA [.str l,Qd L]=some (.str "twice",Qd L)|.inr ls=>JA [.str l,Qd L]=some (.str "",Qd (L++[l]))/\nz (L++[l])=ls:=by
 have ld:=Qiv l L hl;unfold ZZ;by_cases z:l∈L
 ·rw[if_pos ((Qfp hn).mpr z)];rw[if_pos ⟨hn,z⟩]at ld;exact⟨rfl,ld⟩
 ·rw[if_neg (λq=>z ((Qfp hn).mp q))];rw[if_neg (λq=>z q.2)]at ld;exact⟨ld,by rw[Qmi,if_neg hn]⟩
theorem Qio(w:Int):∀(xs:List Int)(m:Int),decide (w<Jo m xs)=(m::xs).any λx=>decide (w<x):=λxs m=>by
 obtain⟨h1,h2,h3⟩:=VO xs m;rw[Bool.eq_iff_iff];simp only[decide_eq_true_eq,List.any_eq_true];constructor
 ·intro h;rcases h1 with q|q;·exact⟨m,by simp,by omega⟩
  ·exact⟨Jo m xs,by simp[q],h⟩
 ·rintro⟨x,hx,hw⟩;rcases List.mem_cons.mp hx with q|q;·subst q;omega
  ·have:=h3 x q;omega
theorem Qis(w:Int)(rs:List Str):((Yi rs).any λx=>decide (w<x))=rs.any λr=>decide (w<(r.length:Int)):=by unfold Yi;rw[any_map];rfl
def dP3:EvS:=sIf (eOp D.eqO (eOp D.ix (eV 5) (eC (.int 0))) (eC (.str "word"))) (sQ (sIf (eOp D.gt (eUn D.maxL (QF 1 [] (QC (eOp D.add (Qf (lC (eOp D.ix (eV 5) (eC (.int 1))) lN)) (eOp D.ix (eV 5) (eC (.int 2))))) (gS 0) (eC (.bl true)) (eUn D.len (eV 0)))) (eOp D.ix (eV 1) (eC (.int 0)))) (JY 3 (eC (.str "wide"))) sNx) (sIf (eOp D.gt (eOp D.add (eUn D.len (eOp D.ix (eV 5) (eC (.int 2)))) (eC (.int 1))) (eOp D.ix (eV 1) (eC (.int 1)))) (JY 3 (eC (.str "high"))) sNx)) sNx
def dP4:EvS:=sIf (Qz (eOp D.eqO (eOp D.ix (eV 5) (eC (.int 0))) (eC (.str "ref"))) (eOp D.gt (eOp D.add (eOp D.add (eUn D.len (eOp D.ix (eV 5) (eC (.int 2)))) (eV 2)) (eUn D.len (eOp D.ix (eV 5) (eC (.int 3))))) (eOp D.ix (eV 1) (eC (.int 0))))) (JY 3 (eC (.str "wide"))) sNx
def dP5:EvS:=sIf (eOp D.eqO (eOp D.ix (eV 5) (eC (.int 0))) (eC (.str "mark"))) (Qc1 3 JA (lC (eOp D.ix (eV 5) (eC (.int 1))) lN) (gS 6)) sNx
def dP6:EvS:=sIf (eOp D.neO (eV 6) (eC (.str ""))) (JY 3 (eV 6)) sNx
def dP7:EvS:=sQ (Qe (QF 1 [] (QC (Jh (eV 0) (oAt (eV 4)) oNo)) (gS 0) (eOr (eOp D.eqO (eOp D.ix (eV 0) (eC (.int 0))) (eC (.str "word"))) (eOp D.eqO (eOp D.ix (eV 0) (eC (.int 0))) (eC (.str "ref")))) (eV 0)) (gS 7)) (sIf (eOp D.eqO (eV 7) (Qf lN)) (JY 3 (eC (.str "loose"))) sNx)
def Qa8:EvS:=sQ (Qe (eOp D.ix (eV 0) (eV 4)) (gS 5)) (sQ (Qe (eC (.str "")) (gS 6)) (sQ dP3 (sQ dP4 (sQ dP5 (sQ dP6 dP7)))))
theorem QeC:QbS=sQ (QP (JB (eUn D.len (eV 0))) (gS 4) Qa8) (JY 3 (eC (.str ""))):=rfl
section
variable(IS:D)(w h:Int)(o li:Bool)(af:Int)(k:D)
abbrev eD(IS:D)(w h:Int)(o li:Bool)(af:Int)(k:D)(L:List Str)(i f:D)(v:Option D):Qh:=[some IS,some (sty w h o li),some (.int af),some (Qd L),some k,some i,some f,v]
theorem Qt2(L:List Str)(i:It)(v:Option D)(hs:ItT i)(K:EvS):sQ dP3 (sQ dP4 K) (eD IS w h o li af k L i.d (.str "") v)=if QaI af w i=true then some (.rm (.str "wide") (Qd L))else if Qa6 h i=true then some (.rm (.str "high") (Qd L))else K (eD IS w h o li af k L i.d (.str "") v):=by
 have bQ:D.ix (sty w h o li) (.int 0)=some (.int w):=rfl;have ck:D.ix (sty w h o li) (.int 1)=some (.int h):=rfl;have t4:∀t,D.ix i.d (.int 0)=some (.str t)->t≠"ref"->dP4 (eD IS w h o li af k L i.d (.str "") v)=some (.nx (eD IS w h o li af k L i.d (.str "") v)):=λt ht hn=>ifF (J6 (opE (opE (x:=i.d) rfl rfl ht) rfl (by rw[eqS,decide_eq_false hn]))) rfl;have t3:∀t,D.ix i.d (.int 0)=some (.str t)->t≠"word"->dP3 (eD IS w h o li af k L i.d (.str "") v)=some (.nx (eD IS w h o li af k L i.d (.str "") v)):=λt ht hn=>ifF (opE (opE (x:=i.d) rfl rfl ht) rfl (by rw[eqS,decide_eq_false hn])) rfl;cases i with
 |word x ns=>
  have ad:D.add (.lst [.str x]) (Qd ns)=some (Qd (x::ns)):=QdJ (f:=D.str) (xs:=[x]) (ys:=ns) (lB (by have:=hs.2.1;simp;omega));have hit:QC (eOp D.add (Qf (lC (eOp D.ix (eV 5) (eC (.int 1))) lN)) (eOp D.ix (eV 5) (eC (.int 2)))) (eD IS w h o li af k L (It.word x ns).d (.str "") v)=some ((x::ns).map .str):=by unfold QC;rw[opE (g:=D.add) (x:=.lst [.str x]) (y:=Qd ns) rfl rfl ad];rfl
  have cm:=Qda (x::ns) hit (by have:=hs.2.1;simp;omega) (λr hr=>by
   rcases List.mem_cons.mp hr with z|z;·subst z;have:=hs.1;omega
   ·have:=hs.2.2 r z;omega);have mx:=Qgq (x.length:Int) (Yi ns);have tw:eOp D.gt (eUn D.maxL (QF 1 [] (QC (eOp D.add (Qf (lC (eOp D.ix (eV 5) (eC (.int 1))) lN)) (eOp D.ix (eV 5) (eC (.int 2))))) (gS 0) (eC (.bl true)) (eUn D.len (eV 0)))) (eOp D.ix (eV 1) (eC (.int 0))) (eD IS w h o li af k L (It.word x ns).d (.str "") v)=some (.bl (QaI af w (.word x ns))):=by refine opE (unE cm mx) (opE (x:=sty w h o li) rfl rfl bQ) ?_;show some (D.bl (decide (w<Jo (x.length:Int) (Yi ns))))=_;rw[Qio,any_cons,Qis];rfl
  have th:eOp D.gt (eOp D.add (eUn D.len (eOp D.ix (eV 5) (eC (.int 2)))) (eC (.int 1))) (eOp D.ix (eV 1) (eC (.int 1))) (eD IS w h o li af k L (It.word x ns).d (.str "") v)=some (.bl (Qa6 h (.word x ns))):=opE (opE (unE (opE (x:=(It.word x ns).d) rfl rfl rfl) (Qap ns)) rfl rfl) (opE (x:=sty w h o li) rfl rfl ck) rfl;have tg:eOp D.eqO (eOp D.ix (eV 5) (eC (.int 0))) (eC (.str "word")) (eD IS w h o li af k L (It.word x ns).d (.str "") v)=some (.bl true):=opE (x:=.str "word") (opE (x:=(It.word x ns).d) rfl rfl rfl) rfl (by rw[eqS];simp);cases q1:QaI af w (.word x ns)with|true=>rw[q1]at tw;rw[if_pos rfl];exact Y4 (ifT tg (Y4 (ifT tw (rmE rfl rfl))))|false=>
   rw[q1]at tw;rw[if_neg (by decide)];cases q2:Qa6 h (.word x ns)with
   |true=>rw[q2]at th;rw[if_pos rfl];exact Y4 (ifT tg (st (e1:=eD IS w h o li af k L (It.word x ns).d (.str "") v) (ifF tw rfl) (ifT th (rmE rfl rfl))))|false=>
    rw[q2]at th;rw[if_neg (by decide)];exact st (ifT tg (st (e1:=eD IS w h o li af k L (It.word x ns).d (.str "") v) (ifF tw rfl) (ifF th rfl))) (st (t4 "word" rfl (by decide)) rfl)
 |ref l a b=>
  have tw:eOp D.gt (eOp D.add (eOp D.add (eUn D.len (eOp D.ix (eV 5) (eC (.int 2)))) (eV 2)) (eUn D.len (eOp D.ix (eV 5) (eC (.int 3))))) (eOp D.ix (eV 1) (eC (.int 0))) (eD IS w h o li af k L (It.ref l a b).d (.str "") v)=some (.bl (QaI af w (.ref l a b))):=opE (opE (opE (unE (opE (x:=(It.ref l a b).d) rfl rfl rfl) (Yj (by have:=hs.1;omega))) rfl rfl) (unE (opE (x:=(It.ref l a b).d) rfl rfl rfl) (Yj (by have:=hs.2;omega))) rfl) (opE (x:=sty w h o li) rfl rfl bQ) rfl;have tg:eOp D.eqO (eOp D.ix (eV 5) (eC (.int 0))) (eC (.str "ref")) (eD IS w h o li af k L (It.ref l a b).d (.str "") v)=some (.bl true):=opE (x:=.str "ref") (opE (x:=(It.ref l a b).d) rfl rfl rfl) rfl (by rw[eqS];simp);have hh:Qa6 h (.ref l a b)=false:=rfl;rw[hh];cases q1:QaI af w (.ref l a b)with
  |true=>rw[q1]at tw;rw[if_pos rfl];exact st (t3 "ref" rfl (by decide)) (Y4 (ifT (JM tg tw) (rmE rfl rfl)))|false=>
   rw[q1]at tw;rw[if_neg (by decide),if_neg (by decide)];exact st (t3 "ref" rfl (by decide)) (st (ifF (JM tg tw) rfl) rfl)
 |mark l=>exact st (t3 "mark" rfl (by decide)) (st (t4 "mark" rfl (by decide)) rfl)|key l=>exact st (t3 "key" rfl (by decide)) (st (t4 "key" rfl (by decide)) rfl)
end
theorem Qgs{α:Type}{f:α->D}(xs:List α)(k:Nat)(h:k<=xs.length)(z:Int)(hz:z=k):ZF (.lst (xs.map f)) (some z) none=some (.lst ((xs.drop k).map f)):=by subst hz;show some (D.lst (ZE (xs.map f) (some (k:Int)) none))=_;congr 2;unfold ZE Yh;simp only[length_map];rw[if_neg (by omega),Int.toNat_natCast,Nat.min_eq_left h,<-List.map_drop,List.take_of_length_le (by simp)]
theorem QkD{α:Type}{f:α->D}(xs:List α)(k:Nat)(h:k<=xs.length)(z:Int)(hz:z=k):ZF (.lst (xs.map f)) none (some z)=some (.lst ((xs.take k).map f)):=by subst hz;show some (D.lst (ZE (xs.map f) none (some (k:Int))))=_;congr 2;unfold ZE Yh;simp only[length_map];rw[if_neg (by omega),Int.toNat_natCast,Nat.min_eq_left h,drop_zero,Nat.sub_zero,List.map_take]
noncomputable def Vz:Nat->Str|0=>"style"|1=>"wide"|2=>"high"|3=>"twice"|4=>"loose"|_=>"label"
def Qbq(i:It):Prop:=∀l,YX i=some l->l≠""
theorem Qn4(k m:Nat):(List.range' k (m+1)).map (λi:Nat=>D.int (0+(i:Int)))=D.int (0+(k:Int))::(List.range' (k+1) m).map λi:Nat=>D.int (0+(i:Int)):=by rw[List.range'_succ,map_cons]
def goD(f:List Str->Option Fl->Prop)(q:Option Fl):LR->Prop|.inl c=>∃L',q=some (.rm (.str (Vz c)) (Qd L'))|.inr ls=>f ls q
theorem Qtw(is:List It)(w h:Int)(o li:Bool)(af:Int)(L:List Str)(i:It)(pre r:List It)(hi:is=pre++i::r)(hl:is.length<=100000)(v:Option D):dP7 (eD (.lst (is.map It.d)) w h o li af (.int (0+(pre.length:Int))) L i.d (.str "") v)=if Q5 i=false/\JX r=0 then some (.rm (.str "loose") (Qd L))else some (.nx (eD (.lst (is.map It.d)) w h o li af (.int (0+(pre.length:Int))) L i.d (.str "") (some (.lst (((i::r).filter Q5).map It.d))))):=by
 have dr:is.drop pre.length=i::r:=by rw[hi];simp
 have hp:pre.length<=is.length:=by rw[hi];simp
 have ct:=Qgs (f:=It.d) is pre.length hp (0+(pre.length:Int)) (by omega);rw[dr]at ct;have hit:QC (Jh (eV 0) (oAt (eV 4)) oNo) (eD (.lst (is.map It.d)) w h o li af (.int (0+(pre.length:Int))) L i.d (.str "") v)=some ((i::r).map It.d):=by unfold QC;rw[Qch (x:=.lst (is.map It.d)) rfl (atE rfl) rfl ct];rfl
 have cm:=Qj9 (i::r) hit (by have:(i::r).length<=is.length:=(by rw[hi];simp);omega);unfold dP7;refine st (e1:=eD (.lst (is.map It.d)) w h o li af (.int (0+(pre.length:Int))) L i.d (.str "") (some (.lst (((i::r).filter Q5).map It.d)))) (asg cm rfl) ?_;have eq:=QpN (f:=It.d) (n:=2) Qh3 (by decide) ((i::r).filter Q5);have nc:=QgS i r;have em:((i::r).filter Q5).isEmpty=decide (JX (i::r)=0):=by
  unfold JX;cases(i::r).filter Q5<;>simp
 by_cases z:Q5 i=false/\JX r=0
 ·rw[if_pos z];have:JX (i::r)=0:=by rw[nc,z.1,z.2];simp
  exact ifT (opE rfl rfl (by rw[eq,em,decide_eq_true this])) (rmE rfl rfl)
 ·rw[if_neg z];have:¬JX (i::r)=0:=by
   rw[nc];intro q;cases q1:Q5 i with
   |true=>rw[q1]at q;simp at q|false=>rw[q1]at q;simp at q;exact z ⟨q1,q⟩
  exact ifF (opE rfl rfl (by rw[eq,em,decide_eq_false this])) rfl
theorem QiE(is:List It)(w h:Int)(o li:Bool)(af:Int)(hl:is.length<=100000):∀(r pre:List It)(L:List Str)(v4 v5 v6 v7:Option D),is=pre++r->(∀i∈r,ItT i/\Qbq i)->L.length+r.length<lI->goD (λls q=>∃L' a b c d,q=some (.nx [some (.lst (is.map It.d)),some (sty w h o li),some (.int af),some (Qd L'),a,b,c,d])/\nz L'=ls/\L'.length<=L.length+r.length) (QA (gS 4) Qa8 ((List.range' pre.length r.length).map λi:Nat=>D.int (0+(i:Int))) [some (.lst (is.map It.d)),some (sty w h o li),some (.int af),some (Qd L),v4,v5,v6,v7]) (JN af w h r (nz L))
 |[],pre,L,v4,v5,v6,v7,_,_,_=>⟨L,v4,v5,v6,v7,rfl,rfl,by simp⟩|i::r,pre,L,v4,v5,v6,v7,hi,ht,dI=>by
  rw[length_cons]at dI⊢;rw[Qn4];have hs:=(ht i (by simp)).1;have hm:=(ht i (by simp)).2;have hp:pre.length<is.length:=by rw[hi];simp
  have ge:is[pre.length]'hp=i:=by simp[hi]
  have ix:D.ix (.lst (is.map It.d)) (.int (0+(pre.length:Int)))=some i.d:=by have:=Qf9 (f:=It.d) is (0+(pre.length:Int)) i (by omega) (by omega);rw[this,getD_eq_getElem?_getD,show(0+(pre.length:Int)).toNat=pre.length by omega,getElem?_eq_getElem hp,ge];rfl
  have b1:gS 4 (.int (0+(pre.length:Int))) [some (.lst (is.map It.d)),some (sty w h o li),some (.int af),some (Qd L),v4,v5,v6,v7]=some [some (.lst (is.map It.d)),some (sty w h o li),some (.int af),some (Qd L),some (.int (0+(pre.length:Int))),v5,v6,v7]:=rfl;have hd:∀x,sQ dP3 (sQ dP4 (sQ dP5 (sQ dP6 dP7))) (eD (.lst (is.map It.d)) w h o li af (.int (0+(pre.length:Int))) L i.d (.str "") v7)=x->(gS 4 (.int (0+(pre.length:Int))) [some (.lst (is.map It.d)),some (sty w h o li),some (.int af),some (Qd L),v4,v5,v6,v7]).bind Qa8=x:=λx hx=>bnd (b:=Qa8) b1 (st (e1:=[some (.lst (is.map It.d)),some (sty w h o li),some (.int af),some (Qd L),some (.int (0+(pre.length:Int))),some i.d,v6,v7]) (asg (opE (x:=.lst (is.map It.d)) rfl rfl ix) rfl) (st (e1:=eD (.lst (is.map It.d)) w h o li af (.int (0+(pre.length:Int))) L i.d (.str "") v7) rfl hx));have cZ:=Qt2 (.lst (is.map It.d)) w h o li af (.int (0+(pre.length:Int))) L i v7 hs (sQ dP5 (sQ dP6 dP7));have six:∀L',dP6 (eD (.lst (is.map It.d)) w h o li af (.int (0+(pre.length:Int))) L' i.d (.str "") v7)=some (.nx (eD (.lst (is.map It.d)) w h o li af (.int (0+(pre.length:Int))) L' i.d (.str "") v7)):=λL'=>ifF (opE rfl rfl (by rw[neS];simp)) rfl;have rest:∀L',L'.length<=L.length+1->(sQ dP5 (sQ dP6 dP7) (eD (.lst (is.map It.d)) w h o li af (.int (0+(pre.length:Int))) L i.d (.str "") v7)=dP7 (eD (.lst (is.map It.d)) w h o li af (.int (0+(pre.length:Int))) L' i.d (.str "") v7))->QaI af w i=false->Qa6 h i=false->goD (λls q=>∃L' a b c d,q=some (.nx [some (.lst (is.map It.d)),some (sty w h o li),some (.int af),some (Qd L'),a,b,c,d])/\nz L'=ls/\L'.length<=L.length+(r.length+1)) (QA (gS 4) Qa8 (D.int (0+(pre.length:Int))::(List.range' (pre.length+1) r.length).map λi:Nat=>D.int (0+(i:Int))) [some (.lst (is.map It.d)),some (sty w h o li),some (.int af),some (Qd L),v4,v5,v6,v7]) (if Q5 i=false/\JX r=0 then .inl 4 else JN af w h r (nz L')):=λL' hL e q1 q2=>by
   rw[q1,q2,if_neg (by decide),if_neg (by decide),e]at cZ;have tl:=Qtw is w h o li af L' i pre r hi hl v7;by_cases z:Q5 i=false/\JX r=0
   ·rw[if_pos z]at tl⊢;exact⟨L',Qfm (hd _ (cZ.trans tl))⟩
   ·rw[if_neg z]at tl⊢;have ih:=QiE is w h o li af hl r (pre++[i]) L' (some (.int (0+(pre.length:Int)))) (some i.d) (some (.str "")) (some (.lst (((i::r).filter Q5).map It.d))) (by rw[hi];simp) (λj hj=>ht j (by simp[hj])) (by omega);rw[length_append,length_singleton]at ih;have e2:QA (gS 4) Qa8 (D.int (0+(pre.length:Int))::(List.range' (pre.length+1) r.length).map λi:Nat=>D.int (0+(i:Int))) [some (.lst (is.map It.d)),some (sty w h o li),some (.int af),some (Qd L),v4,v5,v6,v7]=_:=Qbr (hd _ (cZ.trans tl)) rfl;rw[e2];cases q:JN af w h r (nz L')with|inl c=>rw[q]at ih;exact ih|inr ls=>
     rw[q]at ih;obtain⟨L2,a,b,c,d,x1,x2,x3⟩:=ih;exact⟨L2,a,b,c,d,x1,x2,by omega⟩
  unfold JN Qb0;cases q1:QaI af w i with
  |true=>
   rw[q1,if_pos rfl]at cZ;rw[if_pos rfl];exact⟨L,Qfm (hd _ cZ)⟩|false=>
   rw[if_neg (by decide)];cases q2:Qa6 h i with
   |true=>rw[q1,q2,if_neg (by decide),if_pos rfl]at cZ;rw[if_pos rfl];exact⟨L,Qfm (hd _ cZ)⟩|false=>
    rw[if_neg (by decide)];have gX:∀t,D.ix i.d (.int 0)=some (.str t)->t≠"mark"->sQ dP5 (sQ dP6 dP7) (eD (.lst (is.map It.d)) w h o li af (.int (0+(pre.length:Int))) L i.d (.str "") v7)=dP7 (eD (.lst (is.map It.d)) w h o li af (.int (0+(pre.length:Int))) L i.d (.str "") v7):=λt ht hn=>st (e1:=eD (.lst (is.map It.d)) w h o li af (.int (0+(pre.length:Int))) L i.d (.str "") v7) (ifF (opE (opE (x:=i.d) rfl rfl ht) rfl (by rw[eqS,decide_eq_false hn])) rfl) (st (six L) rfl);cases i with
    |mark l=>have hn:l≠"":=hm l rfl;have ld:=QgY l L (by omega) hn;have tg:eOp D.eqO (eOp D.ix (eV 5) (eC (.int 0))) (eC (.str "mark")) (eD (.lst (is.map It.d)) w h o li af (.int (0+(pre.length:Int))) L (It.mark l).d (.str "") v7)=some (.bl true):=opE (x:=.str "mark") (opE (x:=(It.mark l).d) rfl rfl rfl) rfl (by rw[eqS];simp);show goD _ _ (match ZZ l (nz L)with|.inl c=>.inl c|.inr aY=>if Q5 (It.mark l)=false/\JX r=0 then .inl 4 else JN af w h r aY);cases q:ZZ l (nz L)with
     |inl c=>
      rw[q]at ld;obtain⟨rfl,ld⟩:=ld;rw[q1,q2,if_neg (by decide),if_neg (by decide)]at cZ;refine⟨L,Qfm (hd _ (cZ.trans ?_))⟩;refine st (e1:=eD (.lst (is.map It.d)) w h o li af (.int (0+(pre.length:Int))) L (It.mark l).d (.str "twice") v7) (ifT tg (Qk2 (ds:=[.str l]) rfl rfl ld rfl)) ?_;exact Y4 (ifT (opE rfl rfl (by rw[neS];rfl)) (rmE rfl rfl))|inr ls=>
      rw[q]at ld;obtain⟨ld,e3⟩:=ld;have:=rest (L++[l]) (by simp) (st (e1:=eD (.lst (is.map It.d)) w h o li af (.int (0+(pre.length:Int))) (L++[l]) (It.mark l).d (.str "") v7) (ifT tg (Qk2 (ds:=[.str l]) rfl rfl ld rfl)) (st (six (L++[l])) rfl)) q1 q2;rw[e3]at this;exact this
    |word x ns=>exact rest L (by omega) (gX "word" rfl (by decide)) q1 q2|ref l x y=>exact rest L (by omega) (gX "ref" rfl (by decide)) q1 q2|key x=>exact rest L (by omega) (gX "key" rfl (by decide)) q1 q2
theorem Qji(is:List It)(w h:Int)(o li:Bool)(af:Int)(L:List Str)(hl:is.length<=100000)(ht:∀i∈is,ItT i/\Qbq i)(dI:L.length+is.length<lI):match JN af w h is (nz L)with|.inl c=>∃L',Yw [.lst (is.map It.d),sty w h o li,.int af,Qd L]=some (.str (Vz c),Qd L')|.inr ls=>∃L',Yw [.lst (is.map It.d),sty w h o li,.int af,Qd L]=some (.str "",Qd L')/\nz L'=ls/\L'.length<=L.length+is.length:=by
 have lp:=QiE is w h o li af hl is [] L none none none none rfl ht dI;have sf:QP (JB (eUn D.len (eV 0))) (gS 4) Qa8 (sD 8 [.lst (is.map It.d),sty w h o li,.int af,Qd L])=QA (gS 4) Qa8 ((List.range' 0 is.length).map λi:Nat=>D.int (0+(i:Int))) [some (.lst (is.map It.d)),some (sty w h o li),some (.int af),some (Qd L),none,none,none,none]:=by
  unfold QP JB;rw[unE (x:=.lst (is.map It.d)) rfl (QhY is)];show((D.rng (.int is.length)).bind λds=>QA (gS 4) Qa8 ds _)=_;rw[VJ is.length hl,List.range_eq_range'];rfl
 cases q:JN af w h is (nz L)with|inl c=>rw[q]at lp;obtain⟨L',e⟩:=lp;refine⟨L',?_⟩;unfold Yw;rw[QeC];exact Qak rfl (Y4 (sf.trans e))|inr ls=>rw[q]at lp;obtain⟨L',a,b,c,d,e,e2,e3⟩:=lp;refine⟨L',?_,e2,e3⟩;unfold Yw;rw[QeC];exact Qak rfl (st (sf.trans e) (rmE rfl rfl))
def BkM(b:Bk):Prop:=(∀i∈iO b,Qbq i)/\∀rs l,b=.table rs l->rs≠[]
theorem Qkp(li:Bool):D.intB (.bl li)=some (.int (if li then 1 else 0)):=rfl
theorem Qo2(l:Str)(L:List Str)(hl:L.length<lI):match(if l=""then Sum.inr (nz L)else ZZ l (nz L):LR)with
  |.inl c=>∃L',JA [.str l,Qd L]=some (.str (Vz c),Qd L')|.inr ls=>∃L',JA [.str l,Qd L]=some (.str "",Qd L')/\nz L'=ls/\L'.length<=L.length+1:=by
 by_cases z:l=""
 ·rw[if_pos z];have ld:=Qiv l L hl;rw[if_neg (by simp[z])]at ld;exact⟨_,ld,by rw[Qmi,if_pos z],by simp⟩
 ·rw[if_neg z];have ld:=QgY l L hl z;cases q:ZZ l (nz L)with
  |inl c=>rw[q]at ld;obtain⟨rfl,ld⟩:=ld;exact⟨_,ld⟩|inr ls=>rw[q]at ld;exact⟨_,ld.1,ld.2,by simp⟩
theorem Qju(b:Bk)(w h:Int)(o li:Bool)(af:Int)(L:List Str)(h0:0<=af/\af<=1000)(hl:(iO b).length<=100000)(hs:BkS b)(ht:BkT b)(hm:BkM b)(dI:L.length+1+(iO b).length<lI):match Qbt af w h li b (nz L)with|.inl c=>∃L',Yx [b.d,sty w h o li,.int af,Qd L]=some (.str (Vz c),Qd L')|.inr ls=>∃L',Yx [b.d,sty w h o li,.int af,Qd L]=some (.str "",Qd L')/\nz L'=ls/\L'.length<=L.length+1+(iO b).length:=by
 have bQ:D.ix (sty w h o li) (.int 0)=some (.int w):=rfl;have ck:D.ix (sty w h o li) (.int 1)=some (.int h):=rfl;have ix3:D.ix (sty w h o li) (.int 3)=some (.bl li):=rfl;unfold Yx QbT Qbt;have last:∀(k:EvS)(l:Str),iO b=[]->Z1 b=l->D.ix b.d (.int (-1))=some (.str l)->QaJ af w li b=false->Qb2 h b=false->(∀x,Qeg 3 JA (lC (eOp D.ix (eV 0) (eUn D.neg (eC (.int 1)))) lN) [some b.d,some (sty w h o li),some (.int af),some (Qd L)]=x->k [some b.d,some (sty w h o li),some (.int af),some (Qd L)]=x)->match(match YA af w h li b (nz L)with|.inl c=>.inl c|.inr aY=>JN af w h (iO b) aY:LR)with|.inl c=>∃L',Qa3 4 4 k [b.d,sty w h o li,.int af,Qd L]=some (.str (Vz c),Qd L')|.inr ls=>∃L',Qa3 4 4 k [b.d,sty w h o li,.int af,Qd L]=some (.str "",Qd L')/\nz L'=ls/\L'.length<=L.length+1+(iO b).length:=by intro k l hi lh eX q1 q2 hk;unfold YA;rw[q1,q2,if_neg (by decide),if_neg (by decide),lh,hi];have le:=Qo2 l L (by omega);cases q:(if l=""then Sum.inr (nz L)else ZZ l (nz L):LR)with
  |inl c=>
   rw[q]at le;obtain⟨L',e⟩:=le;exact⟨L',Qak rfl (hk _ (QkW (ds:=[.str l]) (lc (opE (x:=b.d) (y:=.int (-1)) rfl rfl eX) rfl) rfl e))⟩|inr ls=>
   rw[q]at le;obtain⟨L',e,e2,e3⟩:=le;exact⟨L',Qak rfl (hk _ (QkW (ds:=[.str l]) (lc (opE (x:=b.d) (y:=.int (-1)) rfl rfl eX) rfl) rfl e)),e2,by simp;omega⟩
 have aZ:∀(t s:Str),D.ix b.d (.int 0)=some (.str t)->t≠s->eOp D.eqO (eOp D.ix (eV 0) (eC (.int 0))) (eC (.str s)) [some b.d,some (sty w h o li),some (.int af),some (Qd L)]=some (.bl false):=λt s ht hn=>opE (opE (x:=b.d) rfl rfl ht) rfl (by rw[eqS,decide_eq_false hn]);have yes:∀(t:Str),D.ix b.d (.int 0)=some (.str t)->eOp D.eqO (eOp D.ix (eV 0) (eC (.int 0))) (eC (.str t)) [some b.d,some (sty w h o li),some (.int af),some (Qd L)]=some (.bl true):=λt ht=>opE (opE (x:=b.d) rfl rfl ht) rfl (by rw[eqS];simp);have tw:∀(t:Str),D.ix b.d (.int 1)=some (.str t)->t.length<=1000->eOp D.gt (eUn D.len (eOp D.ix (eV 0) (eC (.int 1)))) (eOp D.sub (eOp D.ix (eV 1) (eC (.int 0))) (eOp D.mulA (eUn D.intB (eOp D.ix (eV 1) (eC (.int 3)))) (eOp D.add (eC (.int 2)) (eV 2)))) [some b.d,some (sty w h o li),some (.int af),some (Qd L)]=some (.bl (decide (w<(t.length:Int)+(if li then 2+af else 0)))):=λt i1 tl=>by
  have mu:D.mulA (.int (if li then 1 else 0)) (.int (2+af))=some (.int (if li then 2+af else 0)):=by
   rw[QE,Qa5 (by cases li<;>decide)];cases li<;>simp
  refine opE (unE (opE (x:=b.d) rfl rfl i1) (Yj (by omega))) (opE (opE (x:=sty w h o li) rfl rfl bQ) (opE (unE (opE (x:=sty w h o li) rfl rfl ix3) (Qkp li)) (x:=.int (if li then 1 else 0)) (y:=.int (2+af)) rfl mu) rfl) ?_;show some (D.bl (decide (w-(if li then 2+af else 0)<(t.length:Int))))=_;congr 2;rw[decide_eq_decide];omega
 cases b with
 |para is=>
  have lb:YA af w h li (.para is) (nz L)=.inr (nz L):=rfl;rw[lb];have id:=Qji is w h o li af L hl (λi hi=>⟨ht i hi,hm.1 i hi⟩) (by have:(iO (.para is)).length=is.length:=rfl;omega);have tt:=yes "para" rfl;show match JN af w h is (nz L)with|.inl c=>_|.inr ls=>_;cases q:JN af w h is (nz L)with
  |inl c=>
   rw[q]at id;obtain⟨L',e⟩:=id;exact⟨L',Qak rfl (Y4 (ifT tt (QkW (ds:=[.lst (is.map It.d),sty w h o li,.int af]) rfl rfl e)))⟩|inr ls=>
   rw[q]at id;obtain⟨L',e,e2,e3⟩:=id;exact⟨L',Qak rfl (Y4 (ifT tt (QkW (ds:=[.lst (is.map It.d),sty w h o li,.int af]) rfl rfl e))),e2,by have:(iO (.para is)).length=is.length:=rfl;omega⟩
 |plates n l=>exact last _ l rfl rfl rfl rfl rfl λx hx=>st (ifF (aZ "plates" "para" rfl (by decide)) rfl) (st (ifF (orF (aZ "plates" "chapter" rfl (by decide)) (aZ "plates" "heading" rfl (by decide))) rfl) (st (ifF (aZ "plates" "table" rfl (by decide)) rfl) hx))|chapter t l=>have t1:=tw t rfl hs;cases q1:QaJ af w li (.chapter t l)with
  |true=>have:decide (w<(t.length:Int)+(if li then 2+af else 0))=true:=q1;rw[this]at t1;unfold YA;rw[q1,if_pos rfl];exact⟨L,Qak rfl (st (ifF (aZ "chapter" "para" rfl (by decide)) rfl) (Y4 (ifT (orT (yes "chapter" rfl)) (Y4 (ifT t1 (rmE rfl rfl))))))⟩|false=>have:decide (w<(t.length:Int)+(if li then 2+af else 0))=false:=q1;rw[this]at t1;exact last _ l rfl rfl rfl q1 rfl λx hx=>st (ifF (aZ "chapter" "para" rfl (by decide)) rfl) (st (ifT (orT (yes "chapter" rfl)) (st (e1:=[some (Bk.chapter t l).d,some (sty w h o li),some (.int af),some (Qd L)]) (ifF t1 rfl) (ifF (J6 (aZ "chapter" "heading" rfl (by decide))) rfl))) (st (ifF (aZ "chapter" "table" rfl (by decide)) rfl) hx))
 |heading t k l=>have t1:=tw t rfl hs;have t2:eOp D.gt (eOp D.add (eOp D.ix (eV 0) (eC (.int 2))) (eC (.int 1))) (eOp D.ix (eV 1) (eC (.int 1))) [some (Bk.heading t k l).d,some (sty w h o li),some (.int af),some (Qd L)]=some (.bl (Qb2 h (.heading t k l))):=opE (opE (opE (x:=(Bk.heading t k l).d) rfl rfl rfl) rfl rfl) (opE (x:=sty w h o li) rfl rfl ck) rfl;have hd:eOr (eOp D.eqO (eOp D.ix (eV 0) (eC (.int 0))) (eC (.str "chapter"))) (eOp D.eqO (eOp D.ix (eV 0) (eC (.int 0))) (eC (.str "heading"))) [some (Bk.heading t k l).d,some (sty w h o li),some (.int af),some (Qd L)]=some (.bl true):=orF (aZ "heading" "chapter" rfl (by decide)) (yes "heading" rfl);cases q1:QaJ af w li (.heading t k l)with|true=>have:decide (w<(t.length:Int)+(if li then 2+af else 0))=true:=q1;rw[this]at t1;unfold YA;rw[q1,if_pos rfl];exact⟨L,Qak rfl (st (ifF (aZ "heading" "para" rfl (by decide)) rfl) (Y4 (ifT hd (Y4 (ifT t1 (rmE rfl rfl))))))⟩|false=>have:decide (w<(t.length:Int)+(if li then 2+af else 0))=false:=q1;rw[this]at t1;cases q2:Qb2 h (.heading t k l)with|true=>rw[q2]at t2;unfold YA;rw[q1,q2,if_neg (by decide),if_pos rfl];exact⟨L,Qak rfl (st (ifF (aZ "heading" "para" rfl (by decide)) rfl) (Y4 (ifT hd (st (e1:=[some (Bk.heading t k l).d,some (sty w h o li),some (.int af),some (Qd L)]) (ifF t1 rfl) (ifT (JM (yes "heading" rfl) t2) (rmE rfl rfl))))))⟩|false=>rw[q2]at t2;exact last _ l rfl rfl rfl q1 q2 λx hx=>st (ifF (aZ "heading" "para" rfl (by decide)) rfl) (st (ifT hd (st (e1:=[some (Bk.heading t k l).d,some (sty w h o li),some (.int af),some (Qd L)]) (ifF t1 rfl) (ifF (JM (yes "heading" rfl) t2) rfl))) (st (ifF (aZ "heading" "table" rfl (by decide)) rfl) hx))
 |table rs l=>
  have da:=hm.2 rs l rfl;obtain⟨r0,rt,rfl⟩:∃r0 rt,rs=r0::rt:=by cases rs with|nil=>exact absurd rfl da|cons a as=>exact⟨a,as,rfl⟩
  have hit:QC (eOp D.ix (eV 0) (eC (.int 1))) [some (Bk.table (r0::rt) l).d,some (sty w h o li),some (.int af),some (Qd L)]=some ((r0::rt).map .str):=rfl;have cm:=Qda (r0::rt) hit (by have:=hs.1;omega) (λr hr=>by have:=hs.2 r hr;omega);have mx:=Qgq (r0.length:Int) (Yi rt);have t1:eOp D.gt (eUn D.maxL (QF 1 [] (QC (eOp D.ix (eV 0) (eC (.int 1)))) (gS 0) (eC (.bl true)) (eUn D.len (eV 0)))) (eOp D.ix (eV 1) (eC (.int 0))) [some (Bk.table (r0::rt) l).d,some (sty w h o li),some (.int af),some (Qd L)]=some (.bl (QaJ af w li (.table (r0::rt) l))):=by
   refine opE (unE cm mx) (opE (x:=sty w h o li) rfl rfl bQ) ?_;show some (D.bl (decide (w<Jo (r0.length:Int) (Yi rt))))=_;rw[Qio,any_cons,Qis];rfl
  have t2:eOp D.gt (eUn D.len (eOp D.ix (eV 0) (eC (.int 1)))) (eOp D.ix (eV 1) (eC (.int 1))) [some (Bk.table (r0::rt) l).d,some (sty w h o li),some (.int af),some (Qd L)]=some (.bl (Qb2 h (.table (r0::rt) l))):=opE (unE (opE (x:=(Bk.table (r0::rt) l).d) rfl rfl rfl) (Qap (r0::rt))) (opE (x:=sty w h o li) rfl rfl ck) rfl;have n1:eOr (eOp D.eqO (eOp D.ix (eV 0) (eC (.int 0))) (eC (.str "chapter"))) (eOp D.eqO (eOp D.ix (eV 0) (eC (.int 0))) (eC (.str "heading"))) [some (Bk.table (r0::rt) l).d,some (sty w h o li),some (.int af),some (Qd L)]=some (.bl false):=orF (aZ "table" "chapter" rfl (by decide)) (aZ "table" "heading" rfl (by decide));cases q1:QaJ af w li (.table (r0::rt) l)with
  |true=>rw[q1]at t1;unfold YA;rw[q1,if_pos rfl];exact⟨L,Qak rfl (st (ifF (aZ "table" "para" rfl (by decide)) rfl) (st (ifF n1 rfl) (Y4 (ifT (yes "table" rfl) (Y4 (ifT t1 (rmE rfl rfl)))))))⟩|false=>rw[q1]at t1;cases q2:Qb2 h (.table (r0::rt) l)with|true=>rw[q2]at t2;unfold YA;rw[q1,q2,if_neg (by decide),if_pos rfl];exact⟨L,Qak rfl (st (ifF (aZ "table" "para" rfl (by decide)) rfl) (st (ifF n1 rfl) (Y4 (ifT (yes "table" rfl) (st (e1:=[some (Bk.table (r0::rt) l).d,some (sty w h o li),some (.int af),some (Qd L)]) (ifF t1 rfl) (ifT t2 (rmE rfl rfl)))))))⟩|false=>rw[q2]at t2;exact last _ l rfl rfl rfl q1 q2 λx hx=>st (ifF (aZ "table" "para" rfl (by decide)) rfl) (st (ifF n1 rfl) (st (ifT (yes "table" rfl) (st (e1:=[some (Bk.table (r0::rt) l).d,some (sty w h o li),some (.int af),some (Qd L)]) (ifF t1 rfl) (ifF t2 rfl))) hx))
def Qcw:EvS:=sQ (Qc1 3 Yx (lC (eOp D.ix (eV 0) (eV 4)) (lC (eV 1) (lC (eV 2) lN))) (gS 5)) (sIf (eOp D.neO (eV 5) (eC (.str ""))) (Qj (Qf (lC (eV 5) (lC (eV 4) lN)))) sNx)
def Qa1:EvS:=sIf (Qz (eOp D.eqO (eOp D.ix (eV 6) (eC (.int 0))) (eC (.str "ref"))) (eOp D.notInO (eOp D.ix (eV 6) (eC (.int 1))) (eV 3))) (Qj (Qf (lC (eC (.str "label")) (lC (eV 4) lN)))) sNx
def VW:EvS:=sIf (eOp D.eqO (eOp D.ix (eOp D.ix (eV 0) (eV 4)) (eC (.int 0))) (eC (.str "para"))) (QP (QC (eOp D.ix (eOp D.ix (eV 0) (eV 4)) (eC (.int 1)))) (gS 6) Qa1) sNx
theorem QoT(c:Nat):Vz c≠"":=by unfold Vz;split<;>decide
theorem Qru(bs pre:List Bk)(b:Bk)(r:List Bk)(h:bs=pre++b::r):D.ix (bks bs) (.int (0+(pre.length:Int)))=some b.d:=by
 have hp:pre.length<bs.length:=by rw[h];simp
 have ge:bs[pre.length]'hp=b:=by simp[h]
 have:=Qf9 (f:=Bk.d) bs (0+(pre.length:Int)) b (by omega) (by omega);unfold bks;rw[this,getD_eq_getElem?_getD,show(0+(pre.length:Int)).toNat=pre.length by omega,getElem?_eq_getElem hp,ge];rfl
def Qc6(bs:List Bk):Nat:=(bs.map λb=>1+(iO b).length).sum
def goU(f:List Str->Option Fl->Prop)(q:Option Fl):Sum (Nat×Nat) (List Str)->Prop|.inl (c,n)=>q=some (.rt (.lst [.str (Vz c),.int n]))|.inr ls=>f ls q
theorem Qg9(bs:List Bk)(w h:Int)(o li:Bool)(af:Int)(h0:0<=af/\af<=1000):∀(r pre:List Bk)(L:List Str)(v4 v5 v6:Option D),bs=pre++r->(∀b∈r,BkS b/\BkT b/\BkM b/\(iO b).length<=100000)->L.length+Qc6 r<lI->goU (λls q=>∃L' a b c,q=some (.nx [some (bks bs),some (sty w h o li),some (.int af),some (Qd L'),a,b,c])/\nz L'=ls) (QA (gS 4) Qcw ((List.range' pre.length r.length).map λi:Nat=>D.int (0+(i:Int))) [some (bks bs),some (sty w h o li),some (.int af),some (Qd L),v4,v5,v6]) (YJ af w h li (r.zipIdx pre.length) (nz L))
 |[],pre,L,v4,v5,v6,_,_,_=>⟨L,v4,v5,v6,rfl,rfl⟩|b::r,pre,L,v4,v5,v6,hi,ht,dI=>by
  rw[length_cons,Qn4,zipIdx_cons];have hb:=ht b (by simp);have hc:Qc6 (b::r)=1+(iO b).length+Qc6 r:=by unfold Qc6;simp
  rw[hc]at dI;have bd:=Qju b w h o li af L h0 hb.2.2.2 hb.1 hb.2.1 hb.2.2.1 (by omega);have ix:=Qru bs pre b r hi;have b1:gS 4 (.int (0+(pre.length:Int))) [some (bks bs),some (sty w h o li),some (.int af),some (Qd L),v4,v5,v6]=some [some (bks bs),some (sty w h o li),some (.int af),some (Qd L),some (.int (0+(pre.length:Int))),v5,v6]:=rfl;have dQ:lC (eOp D.ix (eV 0) (eV 4)) (lC (eV 1) (lC (eV 2) lN)) [some (bks bs),some (sty w h o li),some (.int af),some (Qd L),some (.int (0+(pre.length:Int))),v5,v6]=some [b.d,sty w h o li,.int af]:=lc (opE (x:=bks bs) rfl rfl ix) rfl;unfold YJ;dsimp only;cases q:Qbt af w h li b (nz L)with
  |inl c=>rw[q]at bd;obtain⟨L',e⟩:=bd;show QA _ _ _ _=some (.rt (.lst [.str (Vz c),.int (pre.length:Int)]));rw[show(D.int (pre.length:Int))=D.int (0+(pre.length:Int))by rw[zero_add]];refine Qct (bnd (b:=Qcw) b1 (st (e1:=[some (bks bs),some (sty w h o li),some (.int af),some (Qd L'),some (.int (0+(pre.length:Int))),some (.str (Vz c)),v6]) (Qk2 dQ rfl e rfl) ?_));refine ifT (opE rfl rfl (by rw[neS,decide_eq_false (QoT c)];rfl)) (ret rfl)|inr ls=>rw[q]at bd;obtain⟨L',e,e2,e3⟩:=bd;have ih:=Qg9 bs w h o li af h0 r (pre++[b]) L' (some (.int (0+(pre.length:Int)))) (some (.str "")) v6 (by rw[hi];simp) (λx hx=>ht x (by simp[hx])) (by omega);rw[length_append,length_singleton,e2]at ih;have e4:QA (gS 4) Qcw (D.int (0+(pre.length:Int))::(List.range' (pre.length+1) r.length).map λi:Nat=>D.int (0+(i:Int))) [some (bks bs),some (sty w h o li),some (.int af),some (Qd L),v4,v5,v6]=_:=Qbr (bnd (b:=Qcw) b1 (st (e1:=[some (bks bs),some (sty w h o li),some (.int af),some (Qd L'),some (.int (0+(pre.length:Int))),some (.str ""),v6]) (Qk2 dQ rfl e rfl) (ifF (opE rfl rfl (by rw[neS];simp)) rfl))) rfl;rw[e4];exact ih
def Qbp(i:It):Prop:=∀l a b,i=.ref l a b->l≠""
theorem Qg8(B S R:D)(L:List Str)(k:Int):∀(is:List It)(a v:Option D),(∀i∈is,Qbp i)->if(Jx is).all (λl=>decide (l∈nz L))=true then∃v',QA (gS 6) Qa1 (is.map It.d) [some B,some S,some R,some (Qd L),some (.int k),a,v]=some (.nx [some B,some S,some R,some (Qd L),some (.int k),a,v'])else QA (gS 6) Qa1 (is.map It.d) [some B,some S,some R,some (Qd L),some (.int k),a,v]=some (.rt (.lst [.str "label",.int k]))
 |[],a,v,_=>by rw[if_pos (by simp[Jx])];exact⟨v,rfl⟩|i::is,a,v,hr=>by
  have ih:=Qg8 B S R L k is a (some i.d) λj hj=>hr j (by simp[hj]);have b1:gS 6 i.d [some B,some S,some R,some (Qd L),some (.int k),a,v]=some [some B,some S,some R,some (Qd L),some (.int k),a,some i.d]:=rfl;have go:Qa1 [some B,some S,some R,some (Qd L),some (.int k),a,some i.d]=some (.nx [some B,some S,some R,some (Qd L),some (.int k),a,some i.d])->(Jx (i::is)).all (λl=>decide (l∈nz L))=(Jx is).all (λl=>decide (l∈nz L))->if(Jx (i::is)).all (λl=>decide (l∈nz L))=true then∃v',QA (gS 6) Qa1 ((i::is).map It.d) [some B,some S,some R,some (Qd L),some (.int k),a,v]=some (.nx [some B,some S,some R,some (Qd L),some (.int k),a,v'])else QA (gS 6) Qa1 ((i::is).map It.d) [some B,some S,some R,some (Qd L),some (.int k),a,v]=some (.rt (.lst [.str "label",.int k])):=λh1 h2=>by
   rw[h2];have e:QA (gS 6) Qa1 ((i::is).map It.d) [some B,some S,some R,some (Qd L),some (.int k),a,v]=_:=Qbr (bnd (b:=Qa1) b1 h1) rfl;rw[e];exact ih
  have nr:∀t,D.ix i.d (.int 0)=some (.str t)->t≠"ref"->Qa1 [some B,some S,some R,some (Qd L),some (.int k),a,some i.d]=some (.nx [some B,some S,some R,some (Qd L),some (.int k),a,some i.d]):=λt ht hn=>ifF (J6 (opE (opE (x:=i.d) rfl rfl ht) rfl (by rw[eqS,decide_eq_false hn]))) rfl;cases i with
  |ref l x y=>
   have hn:l≠"":=hr (.ref l x y) (by simp) l x y rfl;have ni:=Qnd l L;have tg:eOp D.eqO (eOp D.ix (eV 6) (eC (.int 0))) (eC (.str "ref")) [some B,some S,some R,some (Qd L),some (.int k),a,some (It.ref l x y).d]=some (.bl true):=opE (x:=.str "ref") (opE (x:=(It.ref l x y).d) rfl rfl rfl) rfl (by rw[eqS];simp);have rc:Jx (It.ref l x y::is)=l::Jx is:=rfl;by_cases z:l∈L
   ·refine go (ifF (JM tg (opE (opE (x:=(It.ref l x y).d) rfl rfl rfl) rfl (by rw[ni,decide_eq_true z];rfl))) rfl) ? _;rw[rc,all_cons,decide_eq_true ((Qfp hn).mpr z),Bool.true_and]
   ·rw[rc,all_cons,decide_eq_false λq=>z ((Qfp hn).mp q),if_neg (by simp)];exact Qct (bnd (b:=Qa1) b1 (ifT (JM tg (opE (opE (x:=(It.ref l x y).d) rfl rfl rfl) rfl (by rw[ni,decide_eq_false z];rfl))) (ret rfl)))|word x ns=>exact go (nr "word" rfl (by decide)) rfl|mark l=>exact go (nr "mark" rfl (by decide)) rfl|key l=>exact go (nr "key" rfl (by decide)) rfl
theorem Qkx(bs:List Bk)(S R:D)(L:List Str):∀(r pre:List Bk)(v4 v5 v6:Option D),bs=pre++r->(∀b∈r,∀i∈iO b,Qbp i)->match Ys (nz L) (r.zipIdx pre.length)with|none=>∃a b c,QA (gS 4) VW ((List.range' pre.length r.length).map λi:Nat=>D.int (0+(i:Int))) [some (bks bs),some S,some R,some (Qd L),v4,v5,v6]=some (.nx [some (bks bs),some S,some R,some (Qd L),a,b,c])|some n=>QA (gS 4) VW ((List.range' pre.length r.length).map λi:Nat=>D.int (0+(i:Int))) [some (bks bs),some S,some R,some (Qd L),v4,v5,v6]=some (.rt (.lst [.str "label",.int n]))
 |[],pre,v4,v5,v6,_,_=>⟨v4,v5,v6,rfl⟩|b::r,pre,v4,v5,v6,hi,hr=>by
  rw[length_cons,Qn4,zipIdx_cons];have ix:=Qru bs pre b r hi;have b1:gS 4 (.int (0+(pre.length:Int))) [some (bks bs),some S,some R,some (Qd L),v4,v5,v6]=some [some (bks bs),some S,some R,some (Qd L),some (.int (0+(pre.length:Int))),v5,v6]:=rfl;have lp:=Qg8 (bks bs) S R L (0+(pre.length:Int)) (iO b) v5 v6 (hr b (by simp));have body:VW [some (bks bs),some S,some R,some (Qd L),some (.int (0+(pre.length:Int))),v5,v6]=QA (gS 6) Qa1 ((iO b).map It.d) [some (bks bs),some S,some R,some (Qd L),some (.int (0+(pre.length:Int))),v5,v6]:=by
   have hb:eOp D.ix (eV 0) (eV 4) [some (bks bs),some S,some R,some (Qd L),some (.int (0+(pre.length:Int))),v5,v6]=some b.d:=opE (x:=bks bs) rfl rfl ix;have no:∀t,D.ix b.d (.int 0)=some (.str t)->t≠"para"->iO b=[]->VW [some (bks bs),some S,some R,some (Qd L),some (.int (0+(pre.length:Int))),v5,v6]=QA (gS 6) Qa1 ((iO b).map It.d) [some (bks bs),some S,some R,some (Qd L),some (.int (0+(pre.length:Int))),v5,v6]:=λt ht hn he=>by rw[he];exact ifF (opE (opE hb rfl ht) rfl (by rw[eqS,decide_eq_false hn])) rfl
   cases b with
   |para is=>
    refine ifT (opE (x:=.str "para") (opE hb rfl rfl) rfl (by rw[eqS];simp)) ? _;unfold QP QC;rw[opE (g:=D.ix) (y:=.int 1) hb rfl (r:=some (.lst (is.map It.d))) rfl];rfl|chapter t l=>exact no "chapter" rfl (by decide) rfl|heading t k l=>exact no "heading" rfl (by decide) rfl|table rs l=>exact no "table" rfl (by decide) rfl|plates n l=>exact no "plates" rfl (by decide) rfl
  unfold Ys;split at lp
  ·rename_i q;rw[if_pos q];obtain⟨v',e⟩:=lp;have ih:=Qkx bs S R L r (pre++[b]) (some (.int (0+(pre.length:Int)))) v5 v' (by rw[hi];simp) λx hx=>hr x (by simp[hx]);rw[length_append,length_singleton]at ih;have e4:QA (gS 4) VW (D.int (0+(pre.length:Int))::(List.range' (pre.length+1) r.length).map λi:Nat=>D.int (0+(i:Int))) [some (bks bs),some S,some R,some (Qd L),v4,v5,v6]=_:=Qbr (bnd (b:=VW) b1 (body.trans e)) rfl;rw[e4];exact ih
  ·rename_i q;rw[if_neg q];show QA _ _ _ _=some (.rt (.lst [.str "label",.int (pre.length:Int)]));rw[show D.int (pre.length:Int)=D.int (0+(pre.length:Int))by rw[zero_add]];exact Qct (bnd (b:=VW) b1 (body.trans lp))
def Yk:Option (Nat×Option Nat)->D|none=>.lst []|some (c,o)=>.lst [.str (Vz c),onN o]
theorem QnC{bs:List Bk}(hf:Few bs):Qc6 bs<lI:=by
 have:∀bs:List Bk,Qc6 bs=bs.length+(bs.flatMap iO).length:=by intro bs;induction bs with
  |nil=>rfl|cons b bs ih=>unfold Qc6 at ih⊢;rw[map_cons,sum_cons,ih,flatMap_cons,length_append,length_cons];omega
 rw[this];have h1:=hf.1;have h2:=hf.2;exact Nat.lt_of_le_of_lt (show _<=200000 by omega) (by decide)
theorem QqR(w h:Int)(o li:Bool)(bs:List Bk)(hf:Few bs)(h0:0<=most li bs)(h1:most li bs<10^60)(hs:∀b∈bs,BkS b)(ht:∀b∈bs,BkT b)(hm:∀b∈bs,BkM b)(hr:∀b∈bs,∀i∈iO b,Qbp i):Qfs [bks bs,sty w h o li]=some (Yk (VA w h li bs)):=by
 have bQ:D.ix (sty w h o li) (.int 0)=some (.int w):=rfl;have ck:D.ix (sty w h o li) (.int 1)=some (.int h):=rfl;have ix3:D.ix (sty w h o li) (.int 3)=some (.bl li):=rfl;have ma:=Qgp bs li hf;obtain⟨m,k8⟩:∃m:Nat,most li bs=m:=⟨(most li bs).toNat,by omega⟩;have jG:m<10^60:=by
  have:((10^60:Nat):Int)=10^60:=by decide
  omega
 have e1:D.strI (.int m)=some (.str (Str.ofString (toString (m:Int)))):=if_pos (lt_trans jG (by decide+kernel));have ib:=Qek m;have hd:=Qgr m jG;have ln:=Yj (x:=Str.ofString (toString (m:Int))) (by omega);rw[ib]at ln;rw[k8]at ma;have kX:(most li bs).toNat=m:=by omega
 unfold Qfs Qh8 VA;rw[kX];have d5:∀(e:Qh),eV 1 e=some (sty w h o li)->eOr (eOp D.lt (eOp D.ix (eV 1) (eC (.int 0))) (eC (.int 4))) (eOr (eOp D.gt (eOp D.ix (eV 1) (eC (.int 0))) (eC (.int 90))) (eOr (eOp D.lt (eOp D.ix (eV 1) (eC (.int 1))) (eC (.int 2))) (eOp D.gt (eOp D.ix (eV 1) (eC (.int 1))) (eC (.int 60))))) e=some (.bl (!decide (4<=w/\w<=90/\2<=h/\h<=60))):=λe he=>by
  have c1:eOp D.lt (eOp D.ix (eV 1) (eC (.int 0))) (eC (.int 4)) e=some (.bl (decide (w<4))):=opE (opE he rfl bQ) rfl rfl;have c2:eOp D.gt (eOp D.ix (eV 1) (eC (.int 0))) (eC (.int 90)) e=some (.bl (decide (90<w))):=opE (opE he rfl bQ) rfl rfl;have c3:eOp D.lt (eOp D.ix (eV 1) (eC (.int 1))) (eC (.int 2)) e=some (.bl (decide (h<2))):=opE (opE he rfl ck) rfl rfl;have c4:eOp D.gt (eOp D.ix (eV 1) (eC (.int 1))) (eC (.int 60)) e=some (.bl (decide (60<h))):=opE (opE he rfl ck) rfl rfl;unfold eOr;rw[c1,c2,c3,c4];simp only[Qp];by_cases z1:w<4;·rw[decide_eq_true z1,if_pos rfl,decide_eq_false (by omega)];rfl
  ·rw[decide_eq_false z1,if_neg (by decide)];by_cases z2:90<w;·rw[decide_eq_true z2,if_pos rfl,decide_eq_false (by omega)];rfl
   ·rw[decide_eq_false z2,if_neg (by decide)];by_cases z3:h<2;·rw[decide_eq_true z3,if_pos rfl,decide_eq_false (by omega)];rfl
    ·rw[decide_eq_false z3,if_neg (by decide)];by_cases z4:60<h;·rw[decide_eq_true z4,decide_eq_false (by omega)];rfl
     ·rw[decide_eq_false z4,decide_eq_true (by omega)];rfl
 have t0:=d5 (sD 7 [bks bs,sty w h o li]) rfl;by_cases z:4<=w/\w<=90/\2<=h/\h<=60
 ·rw[if_pos z];rw[decide_eq_true z]at t0;have s1:=ifF (a:=Qj (Qf (lC (eC (.str "style")) (lC (eC .non) lN)))) (b:=sNx) t0 (r:=some (.nx [some (bks bs),some (sty w h o li),none,none,none,none,none])) rfl;have s2:Qe (eUn D.len (eUn D.strI (eK VL (lC (eV 0) (lC (eOp D.ix (eV 1) (eC (.int 3))) lN))))) (gS 2) [some (bks bs),some (sty w h o li),none,none,none,none,none]=some (.nx [some (bks bs),some (sty w h o li),some (.int (JC m)),none,none,none,none]):=asg (unE (unE (JV rfl (opE (x:=sty w h o li) rfl rfl ix3) ma) e1) ln) rfl;have s3:Qe (Qf lN) (gS 3) [some (bks bs),some (sty w h o li),some (.int (JC m)),none,none,none,none]=some (.nx [some (bks bs),some (sty w h o li),some (.int (JC m)),some (Qd []),none,none,none]):=rfl;have rng:∀(e:Qh),eV 0 e=some (bks bs)->JB (eUn D.len (eV 0)) e=some ((List.range' 0 bs.length).map λi:Nat=>D.int (0+(i:Int))):=λe he=>by
   unfold JB;rw[unE he (show D.len (bks bs)=some (.int bs.length)by show some (D.int (bs.map Bk.d).length)=_;rw[length_map])];show D.rng (.int bs.length)=_;rw[VJ bs.length hf.1,List.range_eq_range']
  have lp:=Qg9 bs w h o li (JC m) ⟨by omega,by omega⟩ bs [] [] none none none rfl (λb hb=>⟨hs b hb,ht b hb,hm b hb,Va hf b hb⟩) (by simpa using QnC hf);have s4:QP (JB (eUn D.len (eV 0))) (gS 4) Qcw [some (bks bs),some (sty w h o li),some (.int (JC m)),some (Qd []),none,none,none]=QA (gS 4) Qcw ((List.range' 0 bs.length).map λi:Nat=>D.int (0+(i:Int))) [some (bks bs),some (sty w h o li),some (.int (JC m)),some (Qd []),none,none,none]:=by unfold QP;rw[rng _ rfl];rfl
  have n0:nz []=[]:=rfl;rw[n0]at lp;cases q:YJ (JC m) w h li bs.zipIdx []with
  |inl x=>
   obtain⟨c,n⟩:=x;have fD:goU _ _ (YJ (JC m) w h li bs.zipIdx []):=lp;rw[q]at fD;exact stD rfl (st s1 (st s2 (st s3 (stR (s4.trans fD)))))|inr ls=>
   have fD:goU _ _ (YJ (JC m) w h li bs.zipIdx []):=lp;rw[q]at fD;obtain⟨L',a,b,c,e3,e4⟩:=fD;have lr:=Qkx bs (sty w h o li) (.int (JC m)) L' bs [] a b c rfl hr;rw[e4]at lr;have s5:QP (JB (eUn D.len (eV 0))) (gS 4) VW [some (bks bs),some (sty w h o li),some (.int (JC m)),some (Qd L'),a,b,c]=QA (gS 4) VW ((List.range' 0 bs.length).map λi:Nat=>D.int (0+(i:Int))) [some (bks bs),some (sty w h o li),some (.int (JC m)),some (Qd L'),a,b,c]:=by unfold QP;rw[rng _ rfl];rfl
   have gG:match Ys ls bs.zipIdx with|none=>_|some n=>_:=lr;dsimp only;cases q2:Ys ls bs.zipIdx with
   |none=>rw[q2]at gG;obtain⟨a',b',c',e5⟩:=gG;exact stD rfl (st s1 (st s2 (st s3 (st (s4.trans e3) (st (s5.trans e5) (ret rfl))))))|some n=>rw[q2]at gG;exact stD rfl (st s1 (st s2 (st s3 (st (s4.trans e3) (stR (s5.trans gG))))))
 ·rw[if_neg z];rw[decide_eq_false z]at t0;exact stD rfl (stR (ifT t0 (ret rfl)))
theorem Qo4:Qbk [.non]=some (.lst []):=by unfold Qbk Qev;refine stD rfl ?_;refine st (e1:=[some .non,some (.lst [])]) rfl ?_;refine st (e1:=[some .non,some (.lst [])]) (ifF (unE rfl rfl) rfl) ?_;refine st (e1:=[some .non,some (.lst [])]) (ifF (unE rfl rfl) rfl) ?_;refine st (e1:=[some .non,some (.lst [])]) (ifF (unE rfl rfl) rfl) ?_;refine st (e1:=[some .non,some (.lst [])]) (ifF (unE rfl rfl) rfl) ?_;refine st (e1:=[some .non,some (.lst [])]) (ifF (unE rfl rfl) rfl) ?_;refine st (e1:=[some .non,some (.lst [])]) (ifF (unE rfl rfl) rfl) ?_;refine st (e1:=[some .non,some (.lst [])]) (ifF (orF (unE rfl rfl) (J6 (unE rfl rfl))) rfl) ?_;refine st (e1:=[some .non,some (.lst [])]) (ifF (J6 (opE (unE rfl rfl) rfl (eqF (by decide)))) rfl) ?_;exact ret rfl
theorem Qrt(x y:D):D.cat (.lst []) (.lst [x,y])=some (.lst [x,y]):=by show(if([]:List D).length+[x,y].length<=lI then some (D.lst ([]++[x,y]))else none)=_;rw[if_pos (by show 0+2<=lI;decide)];rfl
theorem Qni(a:D)(n:D)(t:Str)(c:Nat)(h6:c<=6)(hc:decide (c=6)=false)(hn:n=.non\/∃k,n=.int k):(sQ (sIf (eOr (eUn (D.instX 6) (eV 0)) (Qz (eUn D.isNN (eV 0)) (Jg (eUn D.instV (eV 0))))) (sP 1 (eC (.str "other"))) sNx) (sQ (sIf (Qz (eOp D.eqO (eUn D.len (eV 1)) (eC (.int 2))) (Za "bool" (eOp D.ix (eV 1) (eC (.int 1))))) (sP 1 (eC (.str "truth"))) sNx) (Qj (eV 1)))) [some (.exc c a),some (.lst [.str t,n])]=some (.rt (.lst [.str t,n])):=by refine st (e1:=[some (.exc c a),some (.lst [.str t,n])]) (ifF (orF (unE (x:=.exc c a) rfl (by show(if c<=6 then some (D.bl (decide (c=6)))else none)=_;rw[if_pos h6,hc])) (JM (unE rfl rfl) (QhP (b:=true) (unE (x:=.exc c a) rfl (if_pos h6))))) rfl) ? _;refine st (e1:=[some (.exc c a),some (.lst [.str t,n])]) (ifF (JM (opE (unE rfl rfl) rfl (eqT rfl)) (Qfh (x:=n) (opE (x:=.lst [.str t,n]) rfl rfl rfl) ? _)) rfl) (ret rfl);rcases hn with rfl|⟨k,rfl⟩<;>rfl
theorem Qo5(c:Nat)(n:D)(h5:c<=5)(hn:n=.non\/∃k,n=.int k)(h0:c=0->n=.non):Qbk [.exc c n]=some (.lst [.str (Vz c),n]):=by
 unfold Qbk Qev;refine stD rfl ?_;refine st (e1:=[some (.exc c n),some (.lst [])]) rfl ?_;have no:∀j,c≠j->∀(t:EvE)(L:D),sIf (eUn (D.instX j) (eV 0)) (Qe t (gS 1)) sNx [some (.exc c n),some L]=some (.nx [some (.exc c n),some L]):=λj hj t L=>ifF (unE (x:=.exc c n) rfl (by show(if c<=6 then some (D.bl (decide (c=j)))else none)=_;rw[if_pos (by omega),decide_eq_false hj])) rfl;have ys:∀j,c=j->j≠0->∀s:Str,sIf (eUn (D.instX j) (eV 0)) (Qe (eOp D.cat (eV 1) (Qf (lC (eC (.str s)) (lC (eUn D.blk (eV 0)) lN)))) (gS 1)) sNx [some (.exc c n),some (.lst [])]=some (.nx [some (.exc c n),some (.lst [.str s,n])]):=λj hj hz s=>by
  have bk:eUn D.blk (eV 0) [some (.exc c n),some (.lst [])]=some n:=unE (x:=.exc c n) rfl (by show(if c=0\/6<c then none else some n)=_;rw[if_neg (by omega)]);have li:Qf (lC (eC (.str s)) (lC (eUn D.blk (eV 0)) lN)) [some (.exc c n),some (.lst [])]=some (.lst [.str s,n]):=by unfold Qf lC lN;rw[bk];rfl
  exact ifT (unE (x:=.exc c n) rfl (by show(if c<=6 then some (D.bl (decide (c=j)))else none)=_;rw[if_pos (by omega),decide_eq_true hj])) (asg (opE (x:=.lst []) rfl li (Qrt _ _)) rfl)
 have en:=λt:Str=>Qni n n t c (by omega) (decide_eq_false (by omega)) hn;by_cases c0:c=0
 ·have ij:=h0 c0;subst c0 ij;refine st (e1:=[some (.exc 0 .non),some (.lst [.str "style",.non])]) (ifT (unE (x:=.exc 0 .non) rfl rfl) (asg (opE (x:=.lst []) rfl rfl (Qrt _ _)) rfl)) ?_;exact st (no 1 (by decide) _ _) (st (no 2 (by decide) _ _) (st (no 3 (by decide) _ _) (st (no 4 (by decide) _ _) (st (no 5 (by decide) _ _) (en _)))))
 ·refine st (no 0 c0 _ _) ?_;by_cases c1:c=1
  ·subst c1;exact st (ys 1 rfl (by decide) _) (st (no 2 (by decide) _ _) (st (no 3 (by decide) _ _) (st (no 4 (by decide) _ _) (st (no 5 (by decide) _ _) (en _)))))
  ·refine st (no 1 c1 _ _) ?_;by_cases c2:c=2;·subst c2;exact st (ys 2 rfl (by decide) _) (st (no 3 (by decide) _ _) (st (no 4 (by decide) _ _) (st (no 5 (by decide) _ _) (en _))))
   ·refine st (no 2 c2 _ _) ?_;by_cases c3:c=3;·subst c3;exact st (ys 3 rfl (by decide) _) (st (no 4 (by decide) _ _) (st (no 5 (by decide) _ _) (en _)))
    ·refine st (no 3 c3 _ _) ?_;by_cases c4:c=4;·subst c4;exact st (ys 4 rfl (by decide) _) (st (no 5 (by decide) _ _) (en _))
     ·refine st (no 4 c4 _ _) ?_;have c5:c=5:=by omega
      subst c5;exact st (ys 5 rfl (by decide) _) (en _)
theorem Qip{af w h:Int}:∀{is:List It}{ls:List Str}{c:Nat},JN af w h is ls=.inl c->1<=c/\c<=4
 |[],ls,c,e=>by cases e|i::r,ls,c,e=>by
  unfold JN at e;split at e
  ·rename_i c' q;cases e;unfold Qb0 at q;split at q;·cases q;omega
   ·split at q;·cases q;omega
    ·split at q
     ·unfold ZZ at q;split at q;·cases q;omega
      ·cases q
     ·cases q
  ·split at e;·cases e;omega
   ·exact Qip e
theorem QoZ{af w h:Int}{li:Bool}{b:Bk}{ls:List Str}{c:Nat}(e:Qbt af w h li b ls=.inl c):1<=c/\c<=4:=by
 unfold Qbt at e;split at e
 ·rename_i c' q;cases e;unfold YA at q;split at q;·cases q;omega
  ·split at q;·cases q;omega
   ·split at q;·cases q
    ·unfold ZZ at q;split at q;·cases q;omega
     ·cases q
 ·exact Qip e
theorem Qiq{af w h:Int}{li:Bool}:∀{ps:List (Bk×Nat)}{ls:List Str}{c n:Nat},YJ af w h li ps ls=.inl (c,n)->1<=c/\c<=4
 |[],ls,c,n,e=>by cases e|p::ps,ls,c,n,e=>by
  unfold YJ at e;split at e
  ·rename_i c' q;cases e;exact QoZ q
  ·exact Qiq e
theorem Qqx{w h:Int}{li:Bool}{bs:List Bk}{c:Nat}{o:Option Nat}(e:VA w h li bs=some (c,o)):c<=5/\(c=0->o=none)/\(c≠0->∃n,o=some n):=by
 unfold VA at e;split at e
 ·split at e
  ·rename_i c' n q;cases e;have:=Qiq q;exact⟨by omega,λz=>by omega,λ_=>⟨n,rfl⟩⟩
  ·rename_i ls q;cases q2:Ys ls bs.zipIdx with
   |none=>rw[q2]at e;cases e|some n=>rw[q2]at e;cases e;exact⟨by omega,λz=>by omega,λ_=>⟨n,rfl⟩⟩
 ·cases e;exact⟨by omega,λ_=>rfl,λz=>absurd rfl z⟩
theorem Qri{n k:Nat}{b:EvS}{ds:List D}{d:D}(hl:ds.length=k)(h:b (sD n ds)=some (.rt d)):VP n k b ds=some (.inl d):=by unfold VP;rw[if_pos hl,h]
def rsP(d:D):Option (Nat×Option Nat)->Rs|none=>.inl d|some (c,o)=>.inr (c,onN o)
theorem Qhv(B S:D)(x:Option (Nat×Option Nat))(d:D)(hl:Y7 [B,S]=some (rsT x))(hp:ZC [B,S]=some d):Zx [B,S]=some (rsP d x):=by
 have cl:Zq Y7 (lC (eV 0) (lC (eV 1) lN)) [some B,some S]=some (QhN [some B,some S] (rsT x)):=by
  unfold Zq;show(Y7 [B,S]).map _=_;rw[hl];rfl
 unfold Zx QbQ;cases x with|none=>exact Qri rfl (st (e1:=[some B,some S]) cl (ret (JV rfl rfl hp)))|some p=>obtain⟨c,o⟩:=p;exact Qf4 rfl (stZ cl)
theorem Qjf(B S:D)(x:Option (Nat×Option Nat))(d:D)(hl:Y7 [B,S]=some (rsT x))(hp:Zm [B,S]=some d):ZL [B,S]=some (rsP d x):=by
 have cl:Zq Y7 (lC (eV 0) (lC (eV 1) lN)) [some B,some S]=some (QhN [some B,some S] (rsT x)):=by
  unfold Zq;show(Y7 [B,S]).map _=_;rw[hl];rfl
 unfold ZL Qcn;cases x with|none=>exact Qri rfl (st (e1:=[some B,some S]) cl (ret (JV rfl rfl hp)))|some p=>obtain⟨c,o⟩:=p;exact Qf4 rfl (stZ cl)
theorem QjH(B S:D)(k:Int)(dp dr:D)(x:Option (Nat×Option Nat))(hx:∀c o,x=some (c,o)->c<=5/\(c=0->o=none)/\(c≠0->∃n,o=some n))(h1:Zx [B,S]=some (rsP dp x))(h2:ZL [B,S]=some (rsP dr x)):V4 [B,S,.int k]=some (Yk x):=by
 unfold V4 Qdt;refine stD rfl ?_;refine st (e1:=[some B,some S,some (.int k),some .non,none]) rfl ?_;have cl:∃d,sIf (eOp D.eqO (eV 2) (eC (.int 0))) (Zq Zx (lC (eV 0) (lC (eV 1) lN))) (Zq ZL (lC (eV 0) (lC (eV 1) lN))) [some B,some S,some (.int k),some .non,none]=some (QhN [some B,some S,some (.int k),some .non,none] (rsP d x)):=by
  by_cases z:k=0
  ·refine⟨dp,ifT (opE rfl rfl (eqT z)) ?_⟩;unfold Zq;show(Zx [B,S]).map _=_;rw[h1];rfl
  ·refine⟨dr,ifF (opE rfl rfl (eqF z)) ?_⟩;unfold Zq;show(ZL [B,S]).map _=_;rw[h2];rfl
 obtain⟨d,cl⟩:=cl;cases x with
 |none=>refine st (e1:=[some B,some S,some (.int k),some .non,none]) (by unfold QkV;rw[cl];rfl) ?_;exact ret (Q7 rfl Qo4)|some p=>obtain⟨c,o⟩:=p;obtain⟨h5,h0,h1⟩:=hx c o rfl;refine st (e1:=[some B,some S,some (.int k),some (.exc c (onN o)),none]) (by unfold QkV;rw[cl];exact if_pos (show c<=6 by omega)) ?_;refine ret (Q7 rfl (Qo5 c (onN o) h5 ?_ λz=>by rw[h0 z];rfl));cases o with|none=>exact .inl rfl|some n=>exact .inr ⟨n,rfl⟩
noncomputable def Qby(z:Int):Int:=if(if 90<z then 90 else z)>0 then(if 90<z then 90 else z)else 0
theorem QiO(z:Int):0<=Qby z/\Qby z<=90:=by unfold Qby;omega
def lng(z:Int):Str:=YS "m" (Qby z)
theorem Qqy(z:Int):(lng z).length<=90:=by have h:=QiO z;unfold lng;rw[QeP,show(Str.ofString "m").length=1 by decide+kernel];omega
theorem Qao(z:Int):ZA [.int z]=some (.str (lng z)):=by
 have h:=QiO z;unfold ZA Qgw;refine stD rfl (ret (opE (x:=.str "m") (y:=.int (Qby z)) rfl (opE rfl (opE rfl rfl rfl) rfl) ?_));refine Qgo ⟨by omega,by omega,?_⟩;rw[show(Str.ofString "m").length=1 by decide+kernel];have:(Qby z).toNat<=90:=by omega
 exact le_trans (show 1*(Qby z).toNat<=1000000 by omega) (by decide)
def VV(b:Bk):Prop:=BkS b/\BkT b/\BkM b/\(∀i∈iO b,Qbp i)/\∀n l,b=.plates n l->1<=n/\n<=10^39
structure GBk(N:Nat)(bs:List Bk):Prop where
 len:bs.length<=N
 its:(bs.flatMap iO).length<=N
 all:∀b∈bs,VV b
theorem GBk.few{N:Nat}{bs:List Bk}(g:GBk N bs)(h:N<=100000):Few bs:=⟨le_trans g.len h,le_trans g.its h⟩
theorem GBk.app{N M:Nat}{xs ys:List Bk}(g:GBk N xs)(k:GBk M ys):GBk (N+M) (xs++ys)where
 len:=by rw[length_append];have:=g.len;have:=k.len;omega
 its:=by rw[flatMap_append,length_append];have:=g.its;have:=k.its;omega
 all:=λb hb=>by
  rcases List.mem_append.mp hb with h|h;·exact g.all b h
  ·exact k.all b h
theorem GBk.mono{N M:Nat}{xs:List Bk}(g:GBk N xs)(h:N<=M):GBk M xs:=⟨le_trans g.len h,le_trans g.its h,g.all⟩
theorem GBk.put{N M:Nat}{xs ys:List Bk}(g:GBk N xs)(k:GBk M ys)(j:Nat):GBk (N+M) (xs.take j++ys++xs.drop j)where
 len:=by
  have:=g.len;have:=k.len;rw[length_append,length_append,length_take,length_drop];omega
 its:=by
  have h1:=g.its;have h2:=k.its;have e:xs.flatMap iO=(xs.take j).flatMap iO++(xs.drop j).flatMap iO:=by rw[<-flatMap_append,List.take_append_drop]
  rw[e,length_append]at h1;rw[flatMap_append,flatMap_append,length_append,length_append];omega
 all:=λb hb=>by
  rcases List.mem_append.mp hb with h|h
  ·rcases List.mem_append.mp h with h|h;·exact g.all b (List.mem_of_mem_take h)
   ·exact k.all b h
  ·exact g.all b (List.mem_of_mem_drop h)
theorem GBk.one{b:Bk}(h:VV b)(n:Nat)(hn:(iO b).length<=n+1):GBk (n+1) [b]:=⟨by simp,by simpa using hn,λx hx=>by rw[mem_singleton]at hx;subst hx;exact h⟩
theorem ix2{x y:D}{i:Int}(h:i=0\/i=1):D.ix (.lst [x,y]) (.int i)=some (if i=0 then x else y):=by rcases h with rfl|rfl<;>rfl
theorem QdG(n:Int):n%2=0\/n%2=1:=by omega
theorem Qrk(n:Int)(hn:-1000000<=n/\n<=1000000):D.mulA (.lst [.str ""]) (.int n)=some (Qd (List.replicate n.toNat "")):=by show(if-1073741824<n/\n<1073741824/\[D.str ""].length*n.toNat<=lI then some (D.lst (List.replicate n.toNat [D.str ""]).flatten)else none)=_;rw[if_pos ⟨by omega,by omega,lB (by show 1*n.toNat<=_;omega)⟩];unfold Qd;congr 2;generalize n.toNat=m;induction m with|zero=>rfl|succ m ih=>rw[replicate_succ,flatten_cons,ih,replicate_succ,map_cons];rfl
theorem QpR(xs ys:List Str)(h:xs.length+ys.length<=1000000):D.add (Qd xs) (Qd ys)=some (Qd (xs++ys)):=QdJ (f:=D.str) (lB h)
theorem Ql7(n:Int)(hn:n<=900):(List.replicate n.toNat (Str.ofString "")).length<=900:=by rw[length_replicate];omega
theorem Qkc{n:Nat}{x:Str}(h:x∈List.replicate n (Str.ofString "")):x.length<=1000:=by rw[List.eq_of_mem_replicate h,Zu];omega
theorem QtE{a b c:EvE}{e:Qh}{x y z:D}(ha:a e=some x)(hb:b e=some y)(hc:c e=some z):Qf (lC a (lC b (lC c lN))) e=some (.lst [x,y,z]):=by unfold Qf lC lN;rw[ha,hb,hc];rfl
theorem Qcg{a:EvE}{e:Qh}{x:D}(ha:a e=some x):Qf (lC a lN) e=some (.lst [x]):=by unfold Qf lC lN;rw[ha];rfl
theorem Qbo{a b:EvE}{e:Qh}{x y:D}(ha:a e=some x)(hb:b e=some y):Qf (lC a (lC b lN)) e=some (.lst [x,y]):=by unfold Qf lC lN;rw[ha,hb];rfl
theorem QdK:(Str.ofString "w").length=1:=by decide+kernel
theorem Qmk:(Str.ofString "n").length=1:=by decide+kernel
theorem QrB:(Str.ofString "t").length=1:=by decide+kernel
abbrev eM(w h:Int)(o li:Bool)(af t n:Int)(l nm:Str)(a b c d:Option D):Qh:=[some (sty w h o li),some (.int af),some (.int t),some (.int n),some (.str l),some (.int w),some (.int h),some (.bl o),some (.bl li),some (.int (n%2)),some (.str nm),a,b,c,d]
theorem Qfi(x:Str)(ns:List Str)(hx:x.length<=1000)(hn:ns.length<=1000)(hr:∀r∈ns,r.length<=1000):ItT (.word x ns)/\Qbq (.word x ns)/\Qbp (.word x ns):=⟨⟨hx,hn,hr⟩,λl h=>(nomatch h),λl a b h=>nomatch h⟩
theorem QpG(l a b:Str)(hl:l≠"")(ha:a.length<=1000)(hb:b.length<=1000):ItT (.ref l a b)/\Qbq (.ref l a b)/\Qbp (.ref l a b):=⟨⟨ha,hb⟩,λl h=>(nomatch h),λl' a' b' h=>by cases h;exact hl⟩
theorem Qh1(l:Str)(hl:l≠""):ItT (.mark l)/\Qbq (.mark l)/\Qbp (.mark l):=⟨trivial,λl' h=>by cases h;exact hl,λl a b h=>nomatch h⟩
theorem QpH(l:Str):ItT (.key l)/\Qbq (.key l)/\Qbp (.key l):=⟨trivial,λl' h=>(nomatch h),λl a b h=>nomatch h⟩
theorem Qc2(is:List It)(h:∀i∈is,ItT i/\Qbq i/\Qbp i):VV (.para is):=⟨λi hi=>(h i hi).1,λi hi=>(h i hi).1,⟨λi hi=>(h i hi).2.1,λrs l e=>(nomatch e)⟩,λi hi=>(h i hi).2.2,λn l e=>(nomatch e)⟩
theorem QpF(rs:List Str)(l:Str)(h0:rs≠[])(h1:rs.length<=1000)(h2:∀r∈rs,r.length<=1000):VV (.table rs l):=⟨⟨h1,h2⟩,λi hi=>(nomatch hi),⟨λi hi=>(nomatch hi),λb4 l' e=>by cases e;exact h0⟩,λi hi=>(nomatch hi),λn l e=>nomatch e⟩
theorem Qtl(t l:Str)(h:t.length<=1000):VV (.chapter t l):=⟨h,λi hi=>(nomatch hi),⟨λi hi=>(nomatch hi),λb4 l' e=>nomatch e⟩,λi hi=>(nomatch hi),λn l e=>nomatch e⟩
theorem QpI(t:Str)(k:Int)(l:Str)(h:t.length<=1000):VV (.heading t k l):=⟨h,λi hi=>(nomatch hi),⟨λi hi=>(nomatch hi),λb4 l' e=>nomatch e⟩,λi hi=>(nomatch hi),λn l e=>nomatch e⟩
theorem Qmq(n:Int)(l:Str)(h:1<=n/\n<=10^39):VV (.plates n l):=⟨trivial,λi hi=>(nomatch hi),⟨λi hi=>(nomatch hi),λb4 l' e=>nomatch e⟩,λi hi=>(nomatch hi),λn' l' e=>by cases e;exact h⟩
theorem QoW(w h:Int)(o li:Bool)(af t n:Int)(l:Str)(hl:l≠"")(hw:-1000<=w/\w<=800)(hh:-1000<=h/\h<=800)(hr:0<=af/\af<=1000)(hn:0<=n):∃b,Qbj [sty w h o li,.int af,.int t,.int n,.str l]=some b.d/\VV b/\(iO b).length<=2:=by
 obtain⟨nm,eZ⟩:∃nm:Str,D.ix (.lst [.str "",.str l]) (.int (n/4%2))=some (.str nm):=by
  rw[ix2 (QdG (n/4))];split;·exact⟨_,rfl⟩
  ·exact⟨_,rfl⟩
 have h2:=QdG n;have m2:D.mod (.int n) (.int 2)=some (.int (n%2)):=Ju n (by decide);have d2:D.fdiv (.int n) (.int 2)=some (.int (n/2)):=Z6 n (by decide);have gF:D.mod (.int (n/2)) (.int 2)=some (.int (n/2%2)):=Ju _ (by decide);have jB:D.mod (.int (n/2)) (.int 3)=some (.int (n/2%3)):=Ju _ (by decide);have d4:D.fdiv (.int n) (.int 4)=some (.int (n/4)):=Z6 n (by decide);have kn:D.mod (.int (n/4)) (.int 2)=some (.int (n/4%2)):=Ju _ (by decide);have pre:∀{K:EvS}{b:Bk},K (eM w h o li af t n l nm none none none none)=some (.rt b.d)->(∀e,Qgv e=sQ (Qe (eV 0) (Q4 [gS 5,gS 6,gS 7,gS 8])) (sQ (Qe (eOp D.mod (eV 3) (eC (.int 2))) (gS 9)) (sQ (Qe (eOp D.ix (Qf (lC (eC (.str "")) (lC (eV 4) lN))) (eOp D.mod (eOp D.fdiv (eV 3) (eC (.int 4))) (eC (.int 2)))) (gS 10)) K)) e)->Qbj [sty w h o li,.int af,.int t,.int n,.str l]=some b.d:=λ{K b}hk he=>by
  unfold Qbj;refine stD rfl ?_;rw[he];refine st (e1:=[some (sty w h o li),some (.int af),some (.int t),some (.int n),some (.str l),some (.int w),some (.int h),some (.bl o),some (.bl li),none,none,none,none,none,none]) rfl ?_;refine st (e1:=[some (sty w h o li),some (.int af),some (.int t),some (.int n),some (.str l),some (.int w),some (.int h),some (.bl o),some (.bl li),some (.int (n%2)),none,none,none,none,none]) (asg (opE rfl rfl m2) rfl) ?_;exact st (e1:=eM w h o li af t n l nm none none none none) (asg (opE (Qbo rfl rfl) (opE (opE rfl rfl d4) rfl kn) eZ) rfl) hk
 have nt:∀(j:Int)(X:EvS),t≠j->sIf (eOp D.eqO (eV 2) (eC (.int j))) X sNx (eM w h o li af t n l nm none none none none)=some (.nx (eM w h o li af t n l nm none none none none)):=λj X hj=>ifF (opE rfl rfl (eqF hj)) rfl;have yt:∀(j:Int)(X:EvS)(r:D),t=j->X (eM w h o li af t n l nm none none none none)=some (.rt r)->sIf (eOp D.eqO (eV 2) (eC (.int j))) X sNx (eM w h o li af t n l nm none none none none)=some (.rt r):=λj X r hj hx=>ifT (opE rfl rfl (eqT hj)) hx;have z1:=Qqy;by_cases t0:t=0;·-- a title
  obtain⟨ti,kM⟩:∃ti,ZA [.int (if w-(if li then 2+af else 0)+n%2>1 then w-(if li then 2+af else 0)+n%2 else 1)]=some (.str (lng ti)):=⟨_,Qao _⟩;have mu:D.mulA (.int (if li then 1 else 0)) (.int (2+af))=some (.int (if li then 2+af else 0)):=by
   rw[QE,Qa5 (by cases li<;>decide)];cases li<;>simp
  have a1:Qe (eK ZA (lC (eOp D.max2 (eC (.int 1)) (eOp D.add (eOp D.sub (eV 5) (eOp D.mulA (eUn D.intB (eV 8)) (eOp D.add (eC (.int 2)) (eV 1)))) (eV 9))) lN)) (gS 11) (eM w h o li af t n l nm none none none none)=some (.nx (eM w h o li af t n l nm (some (.str (lng ti))) none none none)):=asg (Q7 (opE rfl (opE (opE rfl (opE (unE rfl (Qkp li)) (x:=.int (if li then 1 else 0)) (y:=.int (2+af)) rfl mu) rfl) rfl rfl) rfl) kM) rfl;rcases QdG (n/2)with q|q
  ·refine⟨.chapter (lng ti) nm,pre (yt 0 _ _ t0|>λf=>stR (f (st a1 (ret (opE (Qbo (Qaj rfl rfl rfl) (Qbn rfl rfl rfl rfl)) (opE (opE rfl rfl d2) rfl gF) ?_))))) (λe=>rfl),Qtl _ _ (by have:=z1 ti;omega),by show 0<=2;decide⟩;rw[ix2 (QdG (n/2)),if_pos q];rfl
  ·refine⟨.heading (lng ti) 0 nm,pre (yt 0 _ _ t0|>λf=>stR (f (st a1 (ret (opE (Qbo (Qaj rfl rfl rfl) (Qbn rfl rfl rfl rfl)) (opE (opE rfl rfl d2) rfl gF) ?_))))) (λe=>rfl),QpI _ _ _ (by have:=z1 ti;omega),by show 0<=2;decide⟩;rw[ix2 (QdG (n/2)),if_neg (by omega)];rfl
 by_cases t1:t=1;·exact⟨.heading "t" (h-1+n%2) nm,pre (st (nt 0 _ t0) (stR (yt 1 _ _ t1 (ret (Qbn rfl rfl (opE (opE rfl rfl rfl) rfl rfl) rfl))))) (λe=>rfl),QpI _ _ _ (by rw[QrB];omega),by show 0<=2;decide⟩
 by_cases t2:t=2
 ·have rl:=Ql7 (h-1+n%2) (by omega);have ad:=QpR (List.replicate (h-1+n%2).toNat (Str.ofString "")) [lng (n/2%3)] (by simp only[length_singleton];omega);refine⟨.table (List.replicate (h-1+n%2).toNat (Str.ofString "")++[lng (n/2%3)]) nm,pre (st (nt 0 _ t0) (st (nt 1 _ t1) (stR (yt 2 _ _ t2 (ret (Qaj rfl ?_ rfl)))))) (λe=>rfl),QpF _ _ (by simp) (by rw[length_append,length_singleton];omega) (λr hr=>?_),by show 0<=2;decide⟩;·exact opE (opE (Qcg rfl) (opE (opE rfl rfl rfl) rfl rfl) (Qrk _ (by omega))) (Qcg (Q7 (opE (opE rfl rfl d2) rfl jB) (Qao _))) ad
  ·rcases List.mem_append.mp hr with q|q;·exact Qkc q
   ·rw[mem_singleton]at q;subst q;have:=z1 (n/2%3);omega
 by_cases t3:t=3
 ·have lw:=Qao (w+n%2);obtain⟨ns,cE,hg⟩:∃ns:List Str,D.ix (.lst [.lst [],.lst [.str "n",.str (lng (w+n%2))]]) (.int (n/2%2))=some (Qd ns)/\ns.length<=1000/\∀r∈ns,r.length<=1000:=by
   rw[ix2 (QdG (n/2))];split;·exact⟨[],rfl,by simp,by simp⟩
   ·refine⟨["n",lng (w+n%2)],rfl,by simp,λr hr=>?_⟩;rcases List.mem_cons.mp hr with q|q;·subst q;rw[Qmk];omega
    ·rw[mem_singleton]at q;subst q;have:=z1 (w+n%2);omega
  obtain⟨x,hx,kH⟩:∃x:Str,D.ix (.lst [.str (lng (w+n%2)),.str "w"]) (.int (n/2%2))=some (.str x)/\x.length<=1000:=by
   rw[ix2 (QdG (n/2))];split;·exact⟨_,rfl,by have:=z1 (w+n%2);omega⟩
   ·exact⟨_,rfl,by rw[QdK];omega⟩
  refine⟨.para [.word x ns],pre (st (nt 0 _ t0) (st (nt 1 _ t1) (st (nt 2 _ t2) (stR (yt 3 _ _ t3 ?_))))) (λe=>rfl),Qc2 _ (λi hi=>by rw[mem_singleton]at hi;subst hi;exact Qfi x ns kH hg.1 hg.2),by show 1<=2;decide⟩;refine st (e1:=eM w h o li af t n l nm none (some (Qd ns)) none none) (asg (opE (Qbo rfl (Qbo rfl (Q7 (opE rfl rfl rfl) lw))) (opE (opE rfl rfl d2) rfl gF) cE) rfl) ?_;refine st (e1:=eM w h o li af t n l nm none (some (Qd ns)) (some (.str x)) none) (asg (opE (Qbo (Q7 (opE rfl rfl rfl) lw) rfl) (opE (opE rfl rfl d2) rfl gF) hx) rfl) ?_;exact ret (Yg rfl (Qcg (Qaj rfl rfl rfl)))
 by_cases t4:t=4
 ·have rl:=Ql7 (h-2+n%2) (by omega);have ad:=QpR (List.replicate (h-2+n%2).toNat (Str.ofString "")) [Str.ofString "n"] (by simp only[length_singleton];omega);refine⟨.para [.word "w" (List.replicate (h-2+n%2).toNat (Str.ofString "")++[Str.ofString "n"])],pre (st (nt 0 _ t0) (st (nt 1 _ t1) (st (nt 2 _ t2) (st (nt 3 _ t3) (stR (yt 4 _ _ t4 (ret (Yg rfl (Qcg (Qaj rfl rfl ?_)))))))))) (λe=>rfl),Qc2 _ (λi hi=>?_),by show 1<=2;decide⟩;·exact opE (opE (Qcg rfl) (opE (opE rfl rfl rfl) rfl rfl) (Qrk _ (by omega))) (Qcg rfl) ad
  ·rw[mem_singleton]at hi;subst hi;refine Qfi _ _ (by rw[QdK];omega) (by rw[length_append,length_singleton];omega) (λr hr=>?_);rcases List.mem_append.mp hr with q|q;·exact Qkc q
   ·rw[mem_singleton]at q;subst q;rw[Qmk];omega
 by_cases t5:t=5
 ·have hp:0<(if w-af>1 then w-af else 1):=by split<;>omega
  have md:D.mod (.int (n/2)) (.int (if w-af>1 then w-af else 1))=some (.int (n/2%(if w-af>1 then w-af else 1))):=Ju _ hp;obtain⟨a,ha⟩:∃a,ZA [.int (n/2%(if w-af>1 then w-af else 1))]=some (.str (lng a)):=⟨_,Qao _⟩;have la:=Qao (w-af-((lng a).length:Int)+n%2);refine⟨.para [.mark "zz",.ref "zz" (lng a) (lng (w-af-((lng a).length:Int)+n%2))],pre (st (nt 0 _ t0) (st (nt 1 _ t1) (st (nt 2 _ t2) (st (nt 3 _ t3) (st (nt 4 _ t4) (stR (yt 5 _ _ t5 ?_))))))) (λe=>rfl),Qc2 _ (λi hi=>?_),by show 2<=2;decide⟩;·refine st (e1:=eM w h o li af t n l nm none none none (some (.str (lng a)))) (asg (Q7 (opE (opE rfl rfl d2) (opE rfl (opE rfl rfl rfl) rfl) md) ha) rfl) ?_;exact ret (Yg rfl (Qbo (Yg rfl rfl) (Qbn rfl rfl rfl (Q7 (opE (opE (opE rfl rfl rfl) (unE rfl (Yj (by have:=z1 a;omega))) rfl) rfl rfl) la))))
  ·rcases List.mem_cons.mp hi with q|q;·subst q;exact Qh1 _ (by decide)
   ·rw[mem_singleton]at q;subst q;exact QpG _ _ _ (by decide) (by have:=z1 a;omega) (by have:=z1 (w-af-((lng a).length:Int)+n%2);omega)
 by_cases t6:t=6
 ·refine⟨.table ["",lng (w+n%2)] "zz",pre (st (nt 0 _ t0) (st (nt 1 _ t1) (st (nt 2 _ t2) (st (nt 3 _ t3) (st (nt 4 _ t4) (st (nt 5 _ t5) (stR (yt 6 _ _ t6 (ret (Qaj rfl (Qbo rfl (Q7 (opE rfl rfl rfl) (Qao _))) rfl)))))))))) (λe=>rfl),QpF _ _ (by simp) (by simp) (λr hr=>?_),by show 0<=2;decide⟩;rcases List.mem_cons.mp hr with q|q;·subst q;rw[Zu];omega
  ·rw[mem_singleton]at q;subst q;have:=z1 (w+n%2);omega
 by_cases t7:t=7
 ·obtain⟨i,hi,gi⟩:∃i:It,D.ix (.lst [(It.key "k").d,(It.mark "zzz").d,(It.mark l).d]) (.int (n/2%3))=some i.d/\ItT i/\Qbq i/\Qbp i:=by
   rw[ix3 (by omega)];split;·exact⟨_,rfl,QpH _⟩
   ·split;·exact⟨_,rfl,Qh1 _ (by decide)⟩
    ·exact⟨_,rfl,Qh1 _ hl⟩
  refine⟨.para [.word "w" [],i],pre ?_ (λe=>rfl),Qc2 _ (λj hj=>?_),by show 2<=2;decide⟩;·refine st (nt 0 _ t0) (st (nt 1 _ t1) (st (nt 2 _ t2) (st (nt 3 _ t3) (st (nt 4 _ t4) (st (nt 5 _ t5) (st (nt 6 _ t6) (stR (yt 7 _ _ t7 (ret ?_)))))))));exact Yg rfl (Qbo (Qaj rfl rfl rfl) (opE (QtE (Yg rfl rfl) (Yg rfl rfl) (Yg rfl rfl)) (opE (opE rfl rfl d2) rfl jB) hi))
  rcases List.mem_cons.mp hj with q|q;·subst q;exact Qfi _ _ (by rw[QdK];omega) (by simp) (by simp)
  ·rw[mem_singleton]at q;subst q;exact gi
 ·refine⟨.para [.key (lng (w+n%2)),.word "w" []],pre ?_ (λe=>rfl),Qc2 _ (λj hj=>?_),by show 2<=2;decide⟩;·refine st (nt 0 _ t0) (st (nt 1 _ t1) (st (nt 2 _ t2) (st (nt 3 _ t3) (st (nt 4 _ t4) (st (nt 5 _ t5) (st (nt 6 _ t6) (st (nt 7 _ t7) (ret ?_))))))));exact Yg rfl (Qbo (Yg rfl (Q7 (opE rfl rfl rfl) (Qao _))) (Qaj rfl rfl rfl))
  rcases List.mem_cons.mp hj with q|q;·subst q;exact QpH _
  ·rw[mem_singleton]at q;subst q;exact Qfi _ _ (by rw[QdK];omega) (by simp) (by simp)
theorem Qtx{f:List D->Option D}{l:EvL}{e:Qh}{ds:List D}{r:Option D}(hl:l e=some ds)(h:f ds=r):eK f l e=r:=by unfold eK;rw[hl];exact h
theorem QgZ{bs:List Bk}{b:Bk}(h:b∈bs):(iO b).length<=(bs.flatMap iO).length:=by induction bs with|nil=>cases h|cons x xs ih=>
  rw[flatMap_cons,length_append];rcases List.mem_cons.mp h with q|q;·subst q;omega
  ·have:=ih q;omega
def QdE:EvS:=sIf (eOp D.eqO (eOp D.ix (eV 2) (eC (.int 0))) (eC (.str "mark"))) (Qj (eOp D.ix (eV 2) (eC (.int 1)))) sNx
def Z8:EvS:=sQ (sIf (Qz (eOp D.neO (eOp D.ix (eV 1) (eC (.int 0))) (eC (.str "para"))) (eOp D.neO (eOp D.ix (eV 1) (eUn D.neg (eC (.int 1)))) (eC (.str "")))) (Qj (eOp D.ix (eV 1) (eUn D.neg (eC (.int 1))))) sNx) (sIf (eOp D.eqO (eOp D.ix (eV 1) (eC (.int 0))) (eC (.str "para"))) (QP (QC (eOp D.ix (eV 1) (eC (.int 1)))) (gS 2) QdE) sNx)
theorem Qj5(B X:D):∀(is:List It)(v:Option D),(∀i∈is,Qbq i)->(∃l:Str,l≠""/\QA (gS 2) QdE (is.map It.d) [some B,some X,v]=some (.rt (.str l)))\/∃v',QA (gS 2) QdE (is.map It.d) [some B,some X,v]=some (.nx [some B,some X,v'])|[],v,_=>.inr ⟨v,rfl⟩|i::is,v,h=>by have ih:=Qj5 B X is (some i.d) λj hj=>h j (by simp[hj]);have b1:gS 2 i.d [some B,some X,v]=some [some B,some X,some i.d]:=rfl;have no:∀t,D.ix i.d (.int 0)=some (.str t)->t≠"mark"->QA (gS 2) QdE ((i::is).map It.d) [some B,some X,v]=QA (gS 2) QdE (is.map It.d) [some B,some X,some i.d]:=λt ht hn=>Qbr (bnd (b:=QdE) b1 (ifF (opE (opE (x:=i.d) rfl rfl ht) rfl (by rw[eqS,decide_eq_false hn])) rfl)) rfl;cases i with|mark l=>exact .inl ⟨l,h (.mark l) (by simp) l rfl,Qct (bnd (b:=QdE) b1 (ifT (opE (x:=.str "mark") (opE (x:=(It.mark l).d) rfl rfl rfl) rfl (by rw[eqS];simp)) (ret (opE (x:=(It.mark l).d) rfl rfl rfl))))⟩|word x ns=>rw[no "word" rfl (by decide)];exact ih|ref l x y=>rw[no "ref" rfl (by decide)];exact ih|key x=>rw[no "key" rfl (by decide)];exact ih
theorem Qj6(B:D):∀(bs:List Bk)(u v:Option D),(∀b∈bs,VV b)->(∃l:Str,l≠""/\QA (gS 1) Z8 (bs.map Bk.d) [some B,u,v]=some (.rt (.str l)))\/∃u' v',QA (gS 1) Z8 (bs.map Bk.d) [some B,u,v]=some (.nx [some B,u',v'])
 |[],u,v,_=>.inr ⟨u,v,rfl⟩|b::bs,u,v,h=>by
  have ih:=λv'=>Qj6 B bs (some b.d) v' (λx hx=>h x (by simp[hx]));have b1:gS 1 b.d [some B,u,v]=some [some B,some b.d,v]:=rfl;have lab:∀t,D.ix b.d (.int 0)=some (.str t)->t≠"para"->D.ix b.d (.int (-1))=some (.str (Z1 b))->(∃l:Str,l≠""/\QA (gS 1) Z8 ((b::bs).map Bk.d) [some B,u,v]=some (.rt (.str l)))\/∃u' v',QA (gS 1) Z8 ((b::bs).map Bk.d) [some B,u,v]=some (.nx [some B,u',v']):=λt ht hn hl=>by
   have t1:eOp D.neO (eOp D.ix (eV 1) (eC (.int 0))) (eC (.str "para")) [some B,some b.d,v]=some (.bl true):=opE (opE (x:=b.d) rfl rfl ht) rfl (by rw[neS,decide_eq_false hn];rfl);have t3:eOp D.eqO (eOp D.ix (eV 1) (eC (.int 0))) (eC (.str "para")) [some B,some b.d,v]=some (.bl false):=opE (opE (x:=b.d) rfl rfl ht) rfl (by rw[eqS,decide_eq_false hn]);have gl:eOp D.ix (eV 1) (eUn D.neg (eC (.int 1))) [some B,some b.d,v]=some (.str (Z1 b)):=opE (x:=b.d) (y:=.int (-1)) rfl rfl hl;by_cases z:Z1 b="";·have:QA (gS 1) Z8 ((b::bs).map Bk.d) [some B,u,v]=QA (gS 1) Z8 (bs.map Bk.d) [some B,some b.d,v]:=Qbr (bnd (b:=Z8) b1 (st (e1:=[some B,some b.d,v]) (ifF (JM t1 (opE gl rfl (by rw[neS,decide_eq_true z];rfl))) rfl) (ifF t3 rfl))) rfl;rw[this];exact ih v
   ·exact .inl ⟨Z1 b,z,Qct (bnd (b:=Z8) b1 (stR (ifT (JM t1 (opE gl rfl (by rw[neS,decide_eq_false z];rfl))) (ret gl))))⟩
  cases b with
  |chapter t l=>exact lab "chapter" rfl (by decide) rfl|heading t k l=>exact lab "heading" rfl (by decide) rfl|table rs l=>exact lab "table" rfl (by decide) rfl|plates n l=>exact lab "plates" rfl (by decide) rfl|para is=>
   have t1:eOp D.neO (eOp D.ix (eV 1) (eC (.int 0))) (eC (.str "para")) [some B,some (Bk.para is).d,v]=some (.bl false):=opE (x:=.str "para") (opE (x:=(Bk.para is).d) rfl rfl rfl) rfl (by rw[neS];simp);have t3:eOp D.eqO (eOp D.ix (eV 1) (eC (.int 0))) (eC (.str "para")) [some B,some (Bk.para is).d,v]=some (.bl true):=opE (x:=.str "para") (opE (x:=(Bk.para is).d) rfl rfl rfl) rfl (by rw[eqS];simp);have lp:=Qj5 B (Bk.para is).d is v ((h (.para is) (by simp)).2.2.1.1);have body:∀r,QA (gS 2) QdE (is.map It.d) [some B,some (Bk.para is).d,v]=r->(gS 1 (Bk.para is).d [some B,u,v]).bind Z8=r:=λr hr=>bnd (b:=Z8) b1 (st (e1:=[some B,some (Bk.para is).d,v]) (ifF (J6 t1) rfl) (ifT t3 hr));rcases lp with⟨l,hl,e⟩|⟨v',e⟩;·exact .inl ⟨l,hl,Qct (body _ e)⟩
   ·have:QA (gS 1) Z8 ((Bk.para is::bs).map Bk.d) [some B,u,v]=QA (gS 1) Z8 (bs.map Bk.d) [some B,some (Bk.para is).d,v']:=Qbr (body _ e) rfl;rw[this];exact ih v'
theorem QmL(bs:List Bk)(h:∀b∈bs,VV b):∃l:Str,l≠""/\QbL [bks bs]=some (.str l):=by
 unfold QbL;rcases Qj6 (bks bs) bs none none h with⟨l,hl,e⟩|⟨u,v,e⟩;·exact⟨l,hl,stD rfl (stR (a:=QP (QC (eV 0)) (gS 1) Z8) e)⟩
 ·exact⟨"zz",by decide,stD rfl (st (a:=QP (QC (eV 0)) (gS 1) Z8) e (ret rfl))⟩
theorem QoX{it:EvI}{e:Qh}(is:List It)(hit:it e=some (is.map It.d))(hl:is.length<=1000000):QF 1 [] it (gS 0) (eOp D.eqO (eOp D.ix (eV 0) (eC (.int 0))) (eC (.str "mark"))) (eV 0) e=some (.lst ((is.filter λi=>(YX i).isSome).map It.d)):=JL (g:=gS 0) (n:=1) (caps:=[]) It.d is (λe=>∃v,e=[v]) (λi=>(YX i).isSome) It.d hit (lB hl) ⟨none,rfl⟩ (by rintro i hm e⟨v,rfl⟩;refine⟨[some i.d],rfl,⟨_,rfl⟩,?_,λh=>rfl⟩;refine opE (opE (x:=i.d) rfl rfl (Qcv i)) rfl ?_;rw[eqS];cases i<;>simp[Qf2,YX])
theorem QqP(z:Int)(n:Nat):∃j:Nat,z%((n:Int)+1)=j/\j<=n:=⟨(z%((n:Int)+1)).toNat,by have:=emod_nonneg z (show(n:Int)+1≠0 by omega);omega,by have:=emod_lt_of_pos z (show 0<(n:Int)+1 by omega);have:=emod_nonneg z (show(n:Int)+1≠0 by omega);omega⟩
theorem Qpr(N:Nat)(bs:List Bk)(g:GBk N bs)(hN:N<=5000)(w h:Int)(o li:Bool)(af d0 d1 d2:Int)(hw:-1000<=w/\w<=800)(hh:-1000<=h/\h<=800)(hr:0<=af/\af<=1000)(h0:0<=d0)(h1:0<=d1)(h2:0<=d2):∃eG w' h',Qar [bks bs,sty w h o li,.int af,.lst [.int d0,.int d1,.int d2]]=some (.tup [bks eG,sty w' h' o li])/\GBk (2*N+10) eG/\(w-2<=w'/\w'<=w)/\h-1<=h'/\h'<=h:=by
 obtain⟨j,hj,e9⟩:=QqP d1 bs.length;obtain⟨tl,hl,tk⟩:=QmL bs g.all;have f7:D.len (bks bs)=some (.int bs.length):=by show some (D.int (bs.map Bk.d).length)=_;rw[length_map]
 obtain⟨E,hE⟩:∃E:Qh,E=[some (bks bs),some (sty w h o li),some (.int af),some (.lst [.int d0,.int d1,.int d2]),some (.int w),some (.int h),some (.bl o),some (.bl li),some (.int (d0%13)),some (.int j),none]:=⟨_,rfl⟩;have pre:∀{K:EvS}{r:D},K E=some (.rt r)->(∀e,Qgz e=sQ (Qe (eV 1) (Q4 [gS 4,gS 5,gS 6,gS 7])) (sQ (Qe (eOp D.mod (eOp D.ix (eV 3) (eC (.int 0))) (eC (.int 13))) (gS 8)) (sQ (Qe (eOp D.mod (eOp D.ix (eV 3) (eC (.int 1))) (eOp D.add (eUn D.len (eV 0)) (eC (.int 1)))) (gS 9)) K)) e)->Qar [bks bs,sty w h o li,.int af,.lst [.int d0,.int d1,.int d2]]=some r:=λ{K r}hk he=>by
  unfold Qar;refine stD rfl ?_;rw[he];refine st (e1:=[some (bks bs),some (sty w h o li),some (.int af),some (.lst [.int d0,.int d1,.int d2]),some (.int w),some (.int h),some (.bl o),some (.bl li),none,none,none]) rfl ?_;refine st (e1:=[some (bks bs),some (sty w h o li),some (.int af),some (.lst [.int d0,.int d1,.int d2]),some (.int w),some (.int h),some (.bl o),some (.bl li),some (.int (d0%13)),none,none]) (asg (opE (opE (x:=.lst [.int d0,.int d1,.int d2]) rfl rfl rfl) rfl (Ju d0 (by decide))) rfl) ?_;refine st (e1:=E) (asg (d:=.int j) (opE (opE (x:=.lst [.int d0,.int d1,.int d2]) rfl rfl rfl) (opE (unE rfl f7) rfl rfl) ?_) ?_) hk;·rw[<-hj];exact Ju d1 (by omega)
  ·rw[hE];rfl
 have v0:eV 0 E=some (bks bs):=by rw[hE];rfl
 have v1:eV 1 E=some (sty w h o li):=by rw[hE];rfl
 have v2:eV 2 E=some (.int af):=by rw[hE];rfl
 have v3:eV 3 E=some (.lst [.int d0,.int d1,.int d2]):=by rw[hE];rfl
 have v4:eV 4 E=some (.int w):=by rw[hE];rfl
 have v5:eV 5 E=some (.int h):=by rw[hE];rfl
 have v6:eV 6 E=some (.bl o):=by rw[hE];rfl
 have v7:eV 7 E=some (.bl li):=by rw[hE];rfl
 have v8:eV 8 E=some (.int (d0%13)):=by rw[hE];rfl
 have v9:eV 9 E=some (.int j):=by rw[hE];rfl
 have x2:eOp D.ix (eV 3) (eC (.int 2)) E=some (.int d2):=opE v3 rfl rfl;have ct:ZF (bks bs) none (some (j:Int))=some (bks (bs.take j)):=QkD (f:=Bk.d) bs j e9 j rfl;have cd:ZF (bks bs) (some (j:Int)) none=some (bks (bs.drop j)):=Qgs (f:=Bk.d) bs j e9 j rfl;have hlen:=g.len;have put:∀(ys:List Bk)(L:EvE),L E=some (bks ys)->ys.length<=10->Qi (lC (eOp D.add (eOp D.add (Jh (eV 0) (oNo) (oAt (eV 9))) L) (Jh (eV 0) (oAt (eV 9)) (oNo))) (lC (eV 1) lN)) E=some (.tup [bks (bs.take j++ys++bs.drop j),sty w h o li]):=λys L hL hy=>Yg (opE (opE (Qch v0 rfl (atE v9) ct) hL (VZ (lB (by rw[length_take];omega)))) (Qch v0 (atE v9) rfl cd) (VZ (lB (by rw[length_append,length_take,length_drop];omega)))) v1;have q13:0<=d0%13/\d0%13<13:=by omega
 by_cases c1:d0%13<8\/d0%13=12
 ·obtain⟨b,hb,gb,hi⟩:=QoW w h o li af (d0%13) d2 tl hl hw hh hr h2;have ml:Qf (lC (eK Qbj (lC (eV 1) (lC (eV 2) (lC (eV 8) (lC (eOp D.ix (eV 3) (eC (.int 2))) (lC (eK QbL (lC (eV 0) lN)) lN)))))) lN) E=some (bks [b]):=by
   refine Qcg (x:=b.d) ?_;exact Qtx (lc v1 (lc v2 (lc v8 (lc x2 (lc (Q7 v0 tk) rfl))))) hb
  refine⟨_,w,h,pre (stR (ifT ?_ (ret (put [b] _ ml (by simp))))) (λe=>rfl),?_,by omega,by omega⟩
  ·by_cases z:d0%13<8;·exact orT (opE v8 rfl (ltT z))
   ·exact orF (opE v8 rfl (ltF z)) (opE v8 rfl (eqT (by omega)))
  ·exact(g.put (GBk.one gb 2 (by omega)) j).mono (by omega)
 have f1:∀X:EvS,sIf (eOr (eOp D.lt (eV 8) (eC (.int 8))) (eOp D.eqO (eV 8) (eC (.int 12)))) X sNx E=some (.nx E):=λX=>ifF (orF (opE v8 rfl (ltF (by omega))) (opE v8 rfl (eqF (by omega)))) rfl;have gN:GBk (2*N+10) bs:=g.mono (by omega);by_cases c8:d0%13=8;·refine⟨bs,w-1-d2%2,h,pre (st (f1 _) (stR (ifT (opE v8 rfl (eqT c8)) (ret (Yg v0 (Qbn (opE (opE v4 rfl rfl) (opE x2 rfl (Ju d2 (by decide))) rfl) v5 v6 v7)))))) (λe=>rfl),gN,by omega,by omega⟩
 have f2:∀X:EvS,sIf (eOp D.eqO (eV 8) (eC (.int 8))) X sNx E=some (.nx E):=λX=>ifF (opE v8 rfl (eqF c8)) rfl;by_cases c9:d0%13=9;·exact⟨bs,w,h-1,pre (st (f1 _) (st (f2 _) (stR (ifT (opE v8 rfl (eqT c9)) (ret (Yg v0 (Qbn v4 (opE v5 rfl rfl) v6 v7))))))) (λe=>rfl),gN,by omega,by omega⟩
 have f3:∀X:EvS,sIf (eOp D.eqO (eV 8) (eC (.int 9))) X sNx E=some (.nx E):=λX=>ifF (opE v8 rfl (eqF c9)) rfl;have m2:D.mod (.int d2) (.int 2)=some (.int (d2%2)):=Ju d2 (by decide);by_cases j4:d0%13=10/\d2%2=0
 ·refine⟨_,w,h,pre (st (f1 _) (st (f2 _) (st (f3 _) (stR (ifT (JM (opE v8 rfl (eqT j4.1)) (opE (opE x2 rfl m2) rfl (eqT j4.2))) (ret (put [.para [.ref "nolabelhere" "" ""]] _ rfl (by decide)))))))) (λe=>rfl),?_,by omega,by omega⟩;refine(g.put (GBk.one (Qc2 [.ref "nolabelhere" "" ""] λi hi=>?_) 0 (by show 1<=1;decide)) j).mono (by omega);rw[mem_singleton]at hi;subst hi;exact QpG _ _ _ (by decide) (by rw[Zu];omega) (by rw[Zu];omega)
 have f4:∀X:EvS,sIf (Qz (eOp D.eqO (eV 8) (eC (.int 10))) (eOp D.eqO (eOp D.mod (eOp D.ix (eV 3) (eC (.int 2))) (eC (.int 2))) (eC (.int 0)))) X sNx E=some (.nx E):=λX=>by
  by_cases z:d0%13=10;·exact ifF (JM (opE v8 rfl (eqT z)) (opE (opE x2 rfl m2) rfl (eqF (by omega)))) rfl
  ·exact ifF (J6 (opE v8 rfl (eqF z))) rfl
 have cM:eUn D.len (eV 0) E=some (.int bs.length):=unE v0 f7;by_cases j3:d0%13=10/\0<bs.length
 ·obtain⟨j2,iA,gd⟩:∃j2:Nat,(j:Int)%(bs.length:Int)=j2/\j2<=bs.length:=⟨j%bs.length,by omega,le_of_lt (Nat.mod_lt _ j3.2)⟩;obtain⟨E2,fU⟩:∃E2:Qh,E2=[some (bks bs),some (sty w h o li),some (.int af),some (.lst [.int d0,.int d1,.int d2]),some (.int w),some (.int h),some (.bl o),some (.bl li),some (.int (d0%13)),some (.int j2),none]:=⟨_,rfl⟩;have u0:eV 0 E2=some (bks bs):=by rw[fU];rfl
  have u1:eV 1 E2=some (sty w h o li):=by rw[fU];rfl
  have u9:eV 9 E2=some (.int j2):=by rw[fU];rfl
  have mz:ZF (bks bs) none (some (j2:Int))=some (bks (bs.take j2)):=QkD (f:=Bk.d) bs j2 gd j2 rfl;have mC:ZF (bks bs) (some (j2:Int)) none=some (bks (bs.drop j2)):=Qgs (f:=Bk.d) bs j2 gd j2 rfl;have a1:Qe (eOp D.mod (eV 9) (eUn D.len (eV 0))) (gS 9) E=some (.nx E2):=by
   refine asg (d:=.int j2) (opE v9 cM ?_) ?_;·rw[<-iA];exact Ju _ (by omega)
   ·rw[hE,fU];rfl
  have a2:Qi (lC (eOp D.add (eOp D.add (Jh (eV 0) (oNo) (oAt (eV 9))) (Qf (lC (Qi (lC (eC (.str "plates")) (lC (eC (.int 1)) (lC (eC (.str "zz")) lN)))) (lC (Qi (lC (eC (.str "plates")) (lC (eC (.int 2)) (lC (eC (.str "z")) lN)))) lN)))) (Jh (eV 0) (oAt (eV 9)) (oNo))) (lC (eV 1) lN)) E2=some (.tup [bks (bs.take j2++[.plates 1 "zz",.plates 2 "z"]++bs.drop j2),sty w h o li]):=Yg (opE (opE (Qch u0 rfl (atE u9) mz) (x:=bks (bs.take j2)) (y:=bks [.plates 1 "zz",.plates 2 "z"]) rfl (VZ (lB (by rw[length_take];show _+2<=_;omega)))) (Qch u0 (atE u9) rfl mC) (VZ (lB (by rw[length_append,length_take,length_drop];show _+2+_<=_;omega)))) u1;refine⟨_,w,h,pre (st (f1 _) (st (f2 _) (st (f3 _) (st (f4 _) (stR (ifT (JM (opE v8 rfl (eqT j3.1)) (opE cM rfl ?_)) (st a1 (ret a2)))))))) (λe=>rfl),?_,by omega,by omega⟩;·show some (D.bl (decide ((0:Int)<(bs.length:Int))))=_;rw[decide_eq_true (by omega)]
  ·have one:GBk 2 [Bk.plates 1 "zz",.plates 2 "z"]:=⟨by simp,by simp[iO],λb hb=>by
    rcases List.mem_cons.mp hb with q|q;·subst q;exact Qmq _ _ ⟨by omega,by decide⟩
    ·rw[mem_singleton]at q;subst q;exact Qmq _ _ ⟨by omega,by decide⟩⟩;exact(g.put one j2).mono (by omega)
 have f5:∀X:EvS,sIf (Qz (eOp D.eqO (eV 8) (eC (.int 10))) (eOp D.gt (eUn D.len (eV 0)) (eC (.int 0)))) X sNx E=some (.nx E):=λX=>by
  by_cases z:d0%13=10
  ·refine ifF (JM (opE v8 rfl (eqT z)) (opE cM rfl ?_)) rfl;show some (D.bl (decide ((0:Int)<(bs.length:Int))))=_;rw[decide_eq_false (by omega)]
  ·exact ifF (J6 (opE v8 rfl (eqF z))) rfl
 by_cases iV:j<bs.length
 ·have tj:eOp D.lt (eV 9) (eUn D.len (eV 0)) E=some (.bl true):=opE v9 cM (ltT (by omega));have fF:eOp D.ix (eV 0) (eV 9) E=some (bs[j]).d:=by
   refine opE v0 v9 ?_;have:=Qf9 (f:=Bk.d) bs (j:Int) bs[j] (by omega) (by omega);unfold bks;rw[this,getD_eq_getElem?_getD,show((j:Int)).toNat=j by omega,getElem?_eq_getElem iV];rfl
  have gj:=g.all bs[j] (getElem_mem iV);have il:(iO bs[j]).length<=N:=by
   have:=g.its;have e:=QgZ (bs:=bs) (getElem_mem iV);omega
  by_cases gT:QhZ bs[j]=true
  ·obtain⟨is,ly⟩:∃is,bs[j]=.para is:=by cases q:bs[j]with|para is=>exact⟨is,rfl⟩|_=>rw[q]at gT;cases gT
   rw[ly]at fF gj il;have tp:eOp D.eqO (eOp D.ix (eOp D.ix (eV 0) (eV 9)) (eC (.int 0))) (eC (.str "para")) E=some (.bl true):=opE (x:=.str "para") (opE fF rfl rfl) rfl (by rw[eqS];simp);have hit:QC (eOp D.ix (eOp D.ix (eV 0) (eV 9)) (eC (.int 1))) E=some (is.map It.d):=by unfold QC;rw[opE (g:=D.ix) (y:=.int 1) fF rfl (r:=some (.lst (is.map It.d))) rfl];rfl
   have il':is.length<=N:=il;have mc:=QoX is hit (by omega);obtain⟨E3,gM⟩:∃E3:Qh,E3=E.set 10 (some (.lst ((is.filter λi=>(YX i).isSome).map It.d))):=⟨_,rfl⟩;have u0:eV 0 E3=some (bks bs):=by rw[gM,hE];rfl
   have u1:eV 1 E3=some (sty w h o li):=by rw[gM,hE];rfl
   have j6:eV 10 E3=some (.lst ((is.filter λi=>(YX i).isSome).map It.d)):=by rw[gM,hE];rfl
   have fl:(is.filter λi=>(YX i).isSome).length<=is.length:=length_filter_le _ _;have mF:D.add (.lst ((is.filter λi=>(YX i).isSome).map It.d)) (.lst [(It.word "w" []).d])=some (.lst (((is.filter λi=>(YX i).isSome)++[It.word "w" []]).map It.d)):=QdJ (f:=It.d) (ys:=[It.word "w" []]) (lB (by simp only[length_singleton];omega));refine⟨bs++[.para ((is.filter λi=>(YX i).isSome)++[.word "w" []])],w,h,pre (st (f1 _) (st (f2 _) (st (f3 _) (st (f4 _) (st (f5 _) (stR (ifT (JM tj tp) (st (e1:=E3) (asg mc (by rw[gM];rfl)) (ret (Yg (opE u0 (Qcg (Yg rfl (opE j6 (Qcg (Qaj rfl rfl rfl)) mF))) (VZ (ys:=[.para ((is.filter λi=>(YX i).isSome)++[.word "w" []])]) (lB (by simp only[length_singleton];omega)))) u1)))))))))) (λe=>rfl),?_,by omega,by omega⟩;have one:GBk (N+1) [Bk.para ((is.filter λi=>(YX i).isSome)++[.word "w" []])]:=by
    refine GBk.one (Qc2 _ λi hi=>?_) N ?_
    ·rcases List.mem_append.mp hi with q|q;·have hm:=(List.mem_filter.mp q).1;exact⟨gj.1 i hm,gj.2.2.1.1 i hm,gj.2.2.2.1 i hm⟩
     ·rw[mem_singleton]at q;subst q;exact Qfi _ _ (by rw[QdK];omega) (by simp) (by simp)
    ·show((is.filter λi=>(YX i).isSome)++[It.word "w" []]).length<=N+1;rw[length_append,length_singleton];omega
   exact(g.app one).mono (by omega)
  ·have tp:eOp D.eqO (eOp D.ix (eOp D.ix (eV 0) (eV 9)) (eC (.int 0))) (eC (.str "para")) E=some (.bl false):=opE (opE fF rfl (Qmn _)) rfl (by rw[eqS,Qog];simp at gT;rw[gT]);refine⟨bs++[bs[j]],w,h,pre (st (f1 _) (st (f2 _) (st (f3 _) (st (f4 _) (st (f5 _) (st (e1:=E) (ifF (JM tj tp) rfl) (stR (ifT tj (ret (Yg (opE v0 (Qcg fF) (VZ (ys:=[bs[j]]) (lB (by simp only[length_singleton];omega)))) v1)))))))))) (λe=>rfl),(g.app (GBk.one gj N (by omega))).mono (by omega),by omega,by omega⟩
 ·have tj:eOp D.lt (eV 9) (eUn D.len (eV 0)) E=some (.bl false):=opE v9 cM (ltF (by omega));exact⟨bs,w,h,pre (st (f1 _) (st (f2 _) (st (f3 _) (st (f4 _) (st (f5 _) (st (e1:=E) (ifF (J6 tj) rfl) (st (e1:=E) (ifF tj rfl) (ret (Yg v0 v1))))))))) (λe=>rfl),gN,by omega,by omega⟩
theorem QgU(li:Bool)(N:Nat):∀(bs:List Bk)(s:Int),(∀b∈bs,VV b/\(iO b).length<=N)->N<=5000->s<=bs.foldl (λs b=>s+Q0 li b) s/\bs.foldl (λs b=>s+Q0 li b) s<=s+bs.length*(10^39+20000)
 |[],s,_,_=>by simp|b::bs,s,h,hN=>by
  have hb:=h b (by simp);have h1:2<=Q0 li b/\Q0 li b<=10^39+20000:=by
   have:(20000:Int)<=10^39:=by decide
   cases b with
   |chapter t l=>simp only[Q0];split<;>omega|heading t k l=>simp only[Q0];split<;>omega|table rs l=>simp only[Q0];omega|plates n l=>have q:=hb.1.2.2.2.2 n l rfl;simp only[Q0];omega|para is=>have h1:=length_filter_le Q5 is;have h2:is.length<=N:=hb.2;simp only[Q0];omega
  have h2:=QgU li N bs (s+Q0 li b) (λx hx=>h x (by simp[hx])) hN;rw[foldl_cons,length_cons];refine⟨by omega,Int.le_trans h2.2 ?_⟩;have:((bs.length+1:Nat):Int)*(10^39+20000)=bs.length*(10^39+20000)+(10^39+20000):=by rw[show((bs.length+1:Nat):Int)=(bs.length:Int)+1 from by omega,Int.add_mul,one_mul]
  omega
theorem GBk.most{N:Nat}{bs:List Bk}(g:GBk N bs)(hN:N<=5000)(li:Bool):0<=My.most li bs/\My.most li bs<10^60:=by
 have h:=QgU li N bs 3 (λb hb=>⟨g.all b hb,le_trans (QgZ hb) g.its⟩) hN;have hl:=g.len;unfold My.most;refine⟨by omega,Int.lt_of_le_of_lt h.2 ?_⟩;have:(bs.length:Int)*(10^39+20000)<=5000*(10^39+20000):=Int.mul_le_mul_of_nonneg_right (by omega) (by decide);have:(3:Int)+5000*(10^39+20000)<10^60:=by decide
 omega
def QkZ(i:It):Prop:=Qbq i/\Qbp i
theorem Qsg(k:Nat)(h:k<58):lab k≠"":=λq=>by have:=(QqC k h).1;rw[q,Zu]at this;omega
theorem Qj2(ns:List Int)(B S R:Option D)(a b c:Option D):QF 1 [0] (JB (eC (.int 8))) (gS 0) (eC (.bl true)) (eK Zr (lC (eK QJ (lC (eV 1) (lC (eC (.int 5)) lN))) (lC (eOp D.add (eC (.int 301)) (eV 0)) lN))) [some (.scr ns),B,S,R,a,b,c]=some (.lst (((List.range 8).map λk:Nat=>mix (cell ns 5) (301+(k:Int))).map .int)):=by have hc:=VN ns 5;rw[JL (g:=gS 0) (n:=1) (caps:=[0]) (c:=eC (.bl true)) (el:=eK Zr (lC (eK QJ (lC (eV 1) (lC (eC (.int 5)) lN))) (lC (eOp D.add (eC (.int 301)) (eV 0)) lN))) (λk:Nat=>D.int (0+(k:Int))) (List.range 8) (λe=>∃v,e=[v,some (.scr ns)]) (λ_=>true) (λk:Nat=>.int (mix (cell ns 5) (301+(k:Int)))) (by unfold JB;exact VJ 8 (by decide)) (by decide) ⟨none,rfl⟩ (by rintro k hk e⟨v,rfl⟩;have fL:k<8:=List.mem_range.mp hk;refine⟨[some (.int (0+(k:Int))),some (.scr ns)],rfl,⟨_,rfl⟩,rfl,λ_=>?_⟩;refine JV (JV rfl rfl hc) (opE rfl rfl (add_int _ _)) ?_;rw[show(301:Int)+(0+(k:Int))=301+(k:Int)by omega];exact QaS _ _ (by omega) (by omega))];rw[Zt,map_map];rfl
theorem Qnz(ns:List Int)(iq:∀b∈YU ns,(∀i∈iO b,QkZ i)/\∀rs l,b=.table rs l->rs≠[])(bc:∀b∈YU ns,∀n l,b=.plates n l->1<=n/\n<=10^39):GBk 200 (YU ns):=by
 have e:=QbN ns (dW ns) (dH ns) (dLi ns);have b:=Qeu ns;refine⟨?_,?_,λx hx=>?_⟩;·show(Y5 ns _ _ _++dBk ns).length<=200;rw[length_append];omega
 ·show((Y5 ns _ _ _++dBk ns).flatMap iO).length<=200;rw[flatMap_append,length_append];omega
 ·have s:=QsN ns x hx;exact⟨s.1,s.2.1,⟨λi hi=>((iq x hx).1 i hi).1,(iq x hx).2⟩,λi hi=>((iq x hx).1 i hi).2,bc x hx⟩
theorem Qt4(x0 x1 x2 x3 x4 x5 x6 x7:Int)(i:Nat)(hi:i<2):∃a b c,ZF (.lst [.int x0,.int x1,.int x2,.int x3,.int x4,.int x5,.int x6,.int x7]) (some (3*(0+(i:Int)))) (some (3*(0+(i:Int))+3))=some (.lst [.int a,.int b,.int c])/\(a=x0/\b=x1/\c=x2\/a=x3/\b=x4/\c=x5):=by match i,hi with|0,_=>exact⟨x0,x1,x2,rfl,.inl ⟨rfl,rfl,rfl⟩⟩|1,_=>exact⟨x3,x4,x5,rfl,.inr ⟨rfl,rfl,rfl⟩⟩
theorem QnQ(ns:List Int)(g:GBk 200 (YU ns)):∃bs w h o,Qdb [.scr ns]=some (.tup [bks bs,sty w h o (dLi ns)])/\GBk 1000 bs:=by
 have dr:Qav [.scr ns]=some (.tup [bks (YU ns),sty (dW ns) (dH ns) (dO ns) (dLi ns),.int (dR ns)]):=Qpd ns;have bw:=Qn5 ns;have bh:=Qk1 ns;have br:=Qet ns;obtain⟨x0,e0⟩:∃x,x=mix (cell ns 5) (301+((0:Nat):Int)):=⟨_,rfl⟩;obtain⟨x1,e1⟩:∃x,x=mix (cell ns 5) (301+((1:Nat):Int)):=⟨_,rfl⟩;obtain⟨x2,e2⟩:∃x,x=mix (cell ns 5) (301+((2:Nat):Int)):=⟨_,rfl⟩;obtain⟨x3,e3⟩:∃x,x=mix (cell ns 5) (301+((3:Nat):Int)):=⟨_,rfl⟩;obtain⟨x4,e4⟩:∃x,x=mix (cell ns 5) (301+((4:Nat):Int)):=⟨_,rfl⟩;obtain⟨x5,e5⟩:∃x,x=mix (cell ns 5) (301+((5:Nat):Int)):=⟨_,rfl⟩;obtain⟨x6,e6⟩:∃x,x=mix (cell ns 5) (301+((6:Nat):Int)):=⟨_,rfl⟩;obtain⟨x7,e7⟩:∃x,x=mix (cell ns 5) (301+((7:Nat):Int)):=⟨_,rfl⟩;have bd:=λB S R a b c=>Qj2 ns B S R a b c;have el:((List.range 8).map λk:Nat=>mix (cell ns 5) (301+(k:Int))).map D.int=[.int x0,.int x1,.int x2,.int x3,.int x4,.int x5,.int x6,.int x7]:=by rw[show List.range 8=[0,1,2,3,4,5,6,7]from rfl,e0,e1,e2,e3,e4,e5,e6,e7];rfl
 rw[el]at bd;have m0:0<=x0:=by rw[e0];exact Vv _ _
 have m1:0<=x1:=by rw[e1];exact Vv _ _
 have m2:0<=x2:=by rw[e2];exact Vv _ _
 have m3:0<=x3:=by rw[e3];exact Vv _ _
 have m4:0<=x4:=by rw[e4];exact Vv _ _
 have m5:0<=x5:=by rw[e5];exact Vv _ _
 have m6:0<=x6:=by rw[e6];exact Vv _ _
 have m7:0<=x7:=by rw[e7];exact Vv _ _
 clear e0 e1 e2 e3 e4 e5 e6 e7 el;obtain⟨DR,gO⟩:∃DR:D,DR=.lst [.int x0,.int x1,.int x2,.int x3,.int x4,.int x5,.int x6,.int x7]:=⟨_,rfl⟩;rw[<-gO]at bd;have gI:D.ix DR (.int 6)=some (.int x6):=by rw[gO];rfl
 have kD:D.ix DR (.int 7)=some (.int x7):=by rw[gO];rfl
 obtain⟨m,hm,hm3⟩:∃m:Nat,x7%3=m/\m<=2:=⟨(x7%3).toNat,by omega,by omega⟩;have key:∃bs w h o,Qde (sD 7 [.scr ns])=some (.rt (.tup [bks bs,sty w h o (dLi ns)]))/\GBk 1000 bs:=by
  unfold Qde;have lp:∃e',QA (gS 5) (Qe (eK Qar (lC (eV 1) (lC (eV 2) (lC (eV 3) (lC (Jh (eV 4) (oAt (eOp D.mulA (eC (.int 3)) (eV 5))) (oAt (eOp D.add (eOp D.mulA (eC (.int 3)) (eV 5)) (eC (.int 3))))) lN))))) (Q4 [gS 1,gS 2])) (rD 0 m) [some (.scr ns),some (bks (YU ns)),some (sty (dW ns) (dH ns) (dO ns) (dLi ns)),some (.int (dR ns)),some DR,none,none]=some (.nx e')/\∃bs w h a,e'=[some (.scr ns),some (bks bs),some (sty w h (dO ns) (dLi ns)),some (.int (dR ns)),some DR,a,none]/\GBk (if m=0 then 200 else if m=1 then 410 else 830) bs/\dW ns-2*m<=w/\w<=dW ns/\dH ns-m<=h/\h<=dH ns:=by
   refine Qkl m (λi e=>∃bs w h a,e=[some (.scr ns),some (bks bs),some (sty w h (dO ns) (dLi ns)),some (.int (dR ns)),some DR,a,none]/\GBk (if i=0 then 200 else if i=1 then 410 else 830) bs/\dW ns-2*i<=w/\w<=dW ns/\dH ns-i<=h/\h<=dH ns) ?_ _ ⟨YU ns,dW ns,dH ns,none,rfl,g,by omega,by omega,by omega,by omega⟩;rintro i hi e⟨bs,w,h,a,rfl,gb,w1,w2,h1,h2⟩;have jL:i<2:=by omega
   obtain⟨d0,d1,d2,hc,hd⟩:=Qt4 x0 x1 x2 x3 x4 x5 x6 x7 i jL;rw[<-gO]at hc;obtain⟨eG,w',h',eb,gR,ww,hh⟩:=Qpr _ bs gb (by split<;>(try split)<;>omega) w h (dO ns) (dLi ns) (dR ns) d0 d1 d2 (by omega) (by omega) (by omega) (by omega) (by omega) (by omega);refine⟨[some (.scr ns),some (bks eG),some (sty w' h' (dO ns) (dLi ns)),some (.int (dR ns)),some DR,some (.int (0+(i:Int))),none],.inl ?_,eG,w',h',_,rfl,gR.mono ?_,by omega,by omega,by omega,by omega⟩;·have mu:D.mulA (.int 3) (.int (0+(i:Int)))=some (.int (3*(0+(i:Int)))):=(QE _ _).trans (Qa5 (by decide));refine bnd (e1:=[some (.scr ns),some (bks bs),some (sty w h (dO ns) (dLi ns)),some (.int (dR ns)),some DR,some (.int (0+(i:Int))),none]) rfl (asg (Qty rfl rfl rfl (Qch rfl (atE (opE rfl rfl mu)) (atE (opE (opE rfl rfl mu) rfl rfl)) hc) eb) rfl)
   ·match i,jL with
    |0,_=>decide|1,_=>decide
  obtain⟨e',l1,bs,w,h,a,rfl,gb,w1,w2,h1,h2⟩:=lp;have gR:GBk 1000 bs:=gb.mono (by split<;>(try split)<;>omega);have s1:Qe (eK Qav (lC (eV 0) lN)) (Q4 [gS 1,gS 2,gS 3]) (sD 7 [.scr ns])=some (.nx [some (.scr ns),some (bks (YU ns)),some (sty (dW ns) (dH ns) (dO ns) (dLi ns)),some (.int (dR ns)),none,none,none]):=asg (Q7 rfl dr) rfl;have s2:Qe (QF 1 [0] (JB (eC (.int 8))) (gS 0) (eC (.bl true)) (eK Zr (lC (eK QJ (lC (eV 1) (lC (eC (.int 5)) lN))) (lC (eOp D.add (eC (.int 301)) (eV 0)) lN)))) (gS 4) [some (.scr ns),some (bks (YU ns)),some (sty (dW ns) (dH ns) (dO ns) (dLi ns)),some (.int (dR ns)),none,none,none]=some (.nx [some (.scr ns),some (bks (YU ns)),some (sty (dW ns) (dH ns) (dO ns) (dLi ns)),some (.int (dR ns)),some DR,none,none]):=asg (bd _ _ _ _ _ _) rfl;have hit:JB (eOp D.mod (eOp D.ix (eV 4) (eC (.int 7))) (eC (.int 3))) [some (.scr ns),some (bks (YU ns)),some (sty (dW ns) (dH ns) (dO ns) (dLi ns)),some (.int (dR ns)),some DR,none,none]=some (rD 0 m):=by
   unfold JB;rw[opE (opE rfl rfl kD) rfl (Ju x7 (by decide)),hm];exact VJ m (by omega)
  have s3:=λK r hK=>st (k:=K) (r:=r) (a:=QP (JB (eOp D.mod (eOp D.ix (eV 4) (eC (.int 7))) (eC (.int 3)))) (gS 5) (Qe (eK Qar (lC (eV 1) (lC (eV 2) (lC (eV 3) (lC (Jh (eV 4) (oAt (eOp D.mulA (eC (.int 3)) (eV 5))) (oAt (eOp D.add (eOp D.mulA (eC (.int 3)) (eV 5)) (eC (.int 3))))) lN))))) (Q4 [gS 1,gS 2]))) (by unfold QP;rw[hit];exact l1) hK;have m8:D.mod (.int x6) (.int 8)=some (.int (x6%8)):=Ju x6 (by decide);by_cases z:x6%8=0
  ·obtain⟨c,hc⟩:∃c,c=cell ns 0:=⟨_,rfl⟩;have ca:=VN ns 0;rw[<-hc]at ca;have pw:D.pow (.int 10) (.int 39)=some (.int (10^39)):=Qk7 (by decide);have mp:D.mod (.int c) (.int (10^39))=some (.int (c%10^39)):=Ju c (by decide);obtain⟨v,hv⟩:∃v:Int,D.ix (.lst [.int 2,.int 3,.int 4,.int 61,.int 90,.int 91,.int (c%10^39),.int (0-c%10^39)]) (.int (x6/8%8))=some (.int v):=by
    have:x6/8%8=0\/x6/8%8=1\/x6/8%8=2\/x6/8%8=3\/x6/8%8=4\/x6/8%8=5\/x6/8%8=6\/x6/8%8=7:=by omega
    rcases this with q|q|q|q|q|q|q|q<;>rw[q]<;>exact⟨_,rfl⟩
   obtain⟨w',h',o',hs⟩:∃w' h' o',D.ix (.lst [sty v h false (dLi ns),sty w v true (dLi ns)]) (.int (x6/64%2))=some (sty w' h' o' (dLi ns)):=by
    rw[ix2 (QdG (x6/64))];split;·exact⟨_,_,_,rfl⟩
    ·exact⟨_,_,_,rfl⟩
   refine⟨bs,w',h',o',st s1 (st s2 (s3 _ _ (st (e1:=[some (.scr ns),some (bks bs),some (sty w' h' o' (dLi ns)),some (.int (dR ns)),some DR,a,some (.int v)]) (ifT (opE (opE (opE rfl rfl gI) rfl m8) rfl (eqT z)) ?_) (ret (Yg rfl rfl))))),gR⟩;have nm:eOp D.mod (eK QJ (lC (eV 0) (lC (eC (.int 0)) lN))) (eOp D.pow (eC (.int 10)) (eC (.int 39))) [some (.scr ns),some (bks bs),some (sty w h (dO ns) (dLi ns)),some (.int (dR ns)),some DR,a,none]=some (.int (c%10^39)):=opE (JV rfl rfl ca) (opE rfl rfl pw) mp;refine st (e1:=[some (.scr ns),some (bks bs),some (sty w h (dO ns) (dLi ns)),some (.int (dR ns)),some DR,a,some (.lst [.int 2,.int 3,.int 4,.int 61,.int 90,.int 91,.int (c%10^39),.int (0-c%10^39)])]) (asg ?_ rfl) ?_
   ·have n2:eOp D.sub (eC (.int 0)) (eOp D.mod (eK QJ (lC (eV 0) (lC (eC (.int 0)) lN))) (eOp D.pow (eC (.int 10)) (eC (.int 39)))) [some (.scr ns),some (bks bs),some (sty w h (dO ns) (dLi ns)),some (.int (dR ns)),some DR,a,none]=some (.int (0-c%10^39)):=opE rfl nm rfl;unfold Qf;rw[lc rfl (lc rfl (lc rfl (lc rfl (lc rfl (lc rfl (lc nm (lc n2 rfl)))))))];rfl
   ·refine st (e1:=[some (.scr ns),some (bks bs),some (sty w h (dO ns) (dLi ns)),some (.int (dR ns)),some DR,a,some (.int v)]) (asg (opE rfl (opE (opE (opE rfl rfl gI) rfl (Z6 x6 (by decide))) rfl (Ju _ (by decide))) hv) rfl) ?_;exact asg (opE (Qbo (Qbn rfl (opE (x:=sty w h (dO ns) (dLi ns)) rfl rfl rfl) rfl (opE (x:=sty w h (dO ns) (dLi ns)) rfl rfl rfl)) (Qbn (opE (x:=sty w h (dO ns) (dLi ns)) rfl rfl rfl) rfl rfl (opE (x:=sty w h (dO ns) (dLi ns)) rfl rfl rfl))) (opE (opE (opE rfl rfl gI) rfl (Z6 x6 (by decide))) rfl (Ju _ (by decide))) hs) rfl
  ·exact⟨bs,w,h,dO ns,st s1 (st s2 (s3 _ _ (st (e1:=[some (.scr ns),some (bks bs),some (sty w h (dO ns) (dLi ns)),some (.int (dR ns)),some DR,a,none]) (ifF (opE (opE (opE rfl rfl gI) rfl m8) rfl (eqF z)) rfl) (ret (Yg rfl rfl))))),gR⟩
 obtain⟨bs,w,h,o,e,gb⟩:=key;exact⟨bs,w,h,o,by unfold Qdb;exact stD rfl e,gb⟩
theorem QfD{l:Str}{cs:List Int}(h:cs.length<=58)(hl:l∈Z0 (Jb cs)):l≠"":=by have:=(Qnx cs h).subset hl;obtain⟨k,hk,rfl⟩:=List.mem_map.mp this;exact Qsg k (List.mem_range.mp hk)
theorem QsL(ns:List Int):∀b∈dBk ns,(∀i∈iO b,QkZ i)/\(∀rs l,b=.table rs l->rs≠[])/\∀n l,b=.plates n l->1<=n/\n<=10^39:=λb hb=>by
 have hB:=Qfk ns b hb;have hc:=QaZ ns;refine⟨λi hi=>⟨λl hl=>?_,λl x y e=>?_⟩,λrs l e=>?_,λn l e=>?_⟩
 ·refine QfD (le_of_lt hc) ?_;rw[<-QlT _ hc];refine List.mem_flatMap.mpr ⟨b,hb,mem_append_right _ (List.mem_flatMap.mpr ⟨i,hi,?_⟩)⟩;cases i with
  |mark m=>cases hl;simp[mkL]|_=>cases hl
 ·subst e;refine QfD (le_of_lt hc) (QlS _ hc l ?_);exact List.mem_flatMap.mpr ⟨b,hb,List.mem_map.mpr ⟨_,List.mem_filter.mpr ⟨hi,rfl⟩,rfl⟩⟩
 ·subst e;intro q;have:=hB.1.1;rw[q]at this;simp at this
 ·subst e;exact hB
theorem QqQ(ns:List Int)(w h:Int)(li:Bool)(hh:2<=h):∀b∈Y5 ns w h li,(∀i∈iO b,QkZ i)/\(∀rs l,b=.table rs l->rs≠[])/\∀n l,b=.plates n l->1<=n/\n<=10^39:=λb hb=>by
 unfold Y5 at hb;split at hb;·cases hb
 ·have t6:=QnU (Qbl ns);rcases List.mem_cons.mp hb with q|q
  ·subst q;refine⟨λi hi=>(nomatch hi),λrs l e=>(nomatch e),λn l e=>? _⟩;cases e;have:(10:Int)^6<=10^39:=by decide
   omega
  ·rcases List.mem_cons.mp q with q|q
   ·subst q;refine⟨λi hi=>(nomatch hi),λrs l e=>? _,λn l e=>nomatch e⟩;cases e;intro z;have:=congrArg List.length z;rw[length_replicate]at this;simp at this;omega
   ·rw[mem_singleton]at q;subst q;refine⟨λi hi=>? _,λrs l e=>(nomatch e),λn l e=>nomatch e⟩;rcases List.mem_cons.mp hi with z|z;·subst z;exact⟨λl hl=>(nomatch hl),λl x y e=>nomatch e⟩
    ·rcases List.mem_cons.mp z with z|z;·subst z;exact⟨λl hl=>by cases hl;decide,λl x y e=>nomatch e⟩
     ·rw[mem_singleton]at z;subst z;exact⟨λl hl=>(nomatch hl),λl x y e=>by cases e;decide⟩
theorem QsM(ns:List Int):GBk 200 (YU ns):=by
 have key:∀b∈YU ns,(∀i∈iO b,QkZ i)/\(∀rs l,b=.table rs l->rs≠[])/\∀n l,b=.plates n l->1<=n/\n<=10^39:=λb hb=>by
  rcases List.mem_append.mp hb with q|q;·exact QqQ ns _ _ _ (by have:=Qk1 ns;omega) b q
  ·exact QsL ns b q
 exact Qnz ns (λb hb=>⟨(key b hb).1,(key b hb).2.1⟩) (λb hb=>(key b hb).2.2)
theorem Qtf(x:Option (Nat×Option Nat)):D.neO (Yk x) (Yk x)=some (.bl false):=by cases x with
 |none=>simp[Yk,D.neO,Q2,QW,JH,Jv,D.cmpN]|some p=>
  obtain⟨c,o⟩:=p;have nn:D.eq .non .non=some true:=by rw[D.eq]
  cases o with
  |none=>simp[Yk,onN,D.neO,Q2,QQ,QW,Qy,J4,JH,JJ,Jv,QG,nn,Jl,D.cmpN]|some n=>simp[Yk,onN,D.neO,Q2,QQ,QW,Qy,QD,JH,JJ,Jv,QG,QM,Jl,D.cmpN]
theorem Qtp(x:Option (Nat×Option Nat)):D.eqO (Yk x) (.lst [])=some (.bl x.isNone):=by cases x with|none=>simp[Yk,D.eqO,Q2,QW,JH,Jv,D.cmp]|some p=>obtain⟨c,o⟩:=p;cases o with|none=>simp[Yk,onN,D.eqO,Q2,QQ,QW,Qy,J4,JH,Qft,D.cmp]|some n=>simp[Yk,onN,D.eqO,Q2,QQ,QW,Qy,QD,JH,Qft,D.cmp]
theorem Qmu{f:List D->Option Rs}{a b:EvE}{e:Qh}{x y:D}{r:Rs}{d:D}(ha:a e=some x)(hb:b e=some y)(h:f [x,y]=some r)(hr:QnT r=some d):QdT f (lC a (lC b lN)) e=some d:=by unfold QdT;rw[lc ha (lc hb rfl)];show(f [x,y]).bind QnT=_;rw[h];exact hr
theorem Qse(n:Int)(h0:0<=n)(h:n<10^60):∃s,D.strI (.int n)=some (.str s)/\D.len (.str s)=some (.int (JC n.toNat)):=by
 obtain⟨m,rfl⟩:∃m:Nat,n=m:=⟨n.toNat,by omega⟩;have h':m<10^60:=by
  have:((10^60:Nat):Int)=10^60:=by decide
  omega
 have h2:m<2^1900:=lt_trans h' (by decide+kernel);have e1:D.strI (.int m)=some (.str (Str.ofString (toString (m:Int)))):=if_pos h2;have hs:=Qek m;have hd:=Qgr m h';have ln:=Yj (x:=Str.ofString (toString (m:Int))) (by omega);rw[hs]at ln;exact⟨_,e1,ln⟩
theorem Qo0(ns:List Int):Qej [.scr ns]=some (.bl true):=by
 have g0:=QsM ns;obtain⟨bs,w,h,o,bu,g⟩:=QnQ ns g0;have fw:=g.few (by decide);have mo:=g.most (by decide) (dLi ns);have lk:=QoY w h o (dLi ns) bs fw mo.1 mo.2 (λb hb=>(g.all b hb).1) (λb hb=>(g.all b hb).2.1);have du:=QqR w h o (dLi ns) bs fw mo.1 mo.2 (λb hb=>(g.all b hb).1) (λb hb=>(g.all b hb).2.1) (λb hb=>(g.all b hb).2.2.1) (λb hb=>(g.all b hb).2.2.2.1);have m1:=Qhv (bks bs) (sty w h o (dLi ns)) (VA w h (dLi ns) bs) _ lk (QcT w h o (dLi ns) bs fw);have m2:=Qjf (bks bs) (sty w h o (dLi ns)) (VA w h (dLi ns) bs) _ lk (QdB w h o (dLi ns) bs fw mo.1 mo.2);have rf:=λk:Int=>QjH (bks bs) (sty w h o (dLi ns)) k _ _ (VA w h (dLi ns) bs) (λc o e=>Qqx e) m1 m2;have cp:=Qra bs fw;have eb:=Qtq bs;have ne:=Qtf (VA w h (dLi ns) bs);have ed:=Qtp (VA w h (dLi ns) bs);have ix:D.ix (sty w h o (dLi ns)) (.int 3)=some (.bl (dLi ns)):=rfl;have ma:=Qgp bs (dLi ns) fw;obtain⟨sm,ku,kr⟩:=Qse (most (dLi ns) bs) mo.1 mo.2;have ni:∀a:Int,D.neO (.int a) (.int a)=some (.bl false):=λa=>by simp[D.neO,QD,QM,D.cmpN]
 generalize VA w h (dLi ns) bs=x at*;generalize bks bs=B at*;generalize sty w h o (dLi ns)=S at*;generalize most (dLi ns) bs=M at*;generalize((JC M.toNat:Nat):Int)=R at*;unfold Qej Qlg;refine stD rfl ?_;refine st (e1:=[some (.scr ns),some B,some S,none,none,none,none,none]) (asg (Q7 rfl bu) rfl) ?_;refine st (e1:=[some (.scr ns),some B,some S,some (Yk x),none,none,none,none]) (asg (JV rfl rfl du) rfl) ?_;refine st (e1:=[some (.scr ns),some B,some S,some (Yk x),some B,none,none,none]) (asg (Q7 rfl cp) rfl) ?_;refine Qpt 2 (λ_ e=>∃a,e=[some (.scr ns),some B,some S,some (Yk x),some B,a,none,none]) rfl ⟨none,rfl⟩ ?_ ?_
 ·rintro k hk e⟨a,rfl⟩;refine⟨[some (.scr ns),some B,some S,some (Yk x),some B,some (.int (0+(k:Int))),none,none],.inl ?_,_,rfl⟩;exact bnd (e1:=[some (.scr ns),some B,some S,some (Yk x),some B,some (.int (0+(k:Int))),none,none]) rfl (ifF (orF (opE (Vo rfl rfl rfl (rf _)) rfl ne) (opE (Vo rfl rfl (opE rfl rfl rfl) (rf _)) rfl ne)) rfl)
 ·rintro e⟨a,rfl⟩;cases x with
  |none=>refine st (e1:=[some (.scr ns),some B,some S,some (Yk none),some B,a,some (.int M),some (.int R)]) (ifT (opE rfl rfl ed) ?_) (ret (opE rfl rfl eb));refine st (e1:=[some (.scr ns),some B,some S,some (Yk none),some B,a,some (.int M),none]) (asg (Qmu rfl rfl m1 rfl) rfl) ?_;refine st (e1:=[some (.scr ns),some B,some S,some (Yk none),some B,a,some (.int M),some (.int R)]) (asg (Qmu rfl rfl m2 rfl) rfl) ?_;refine st (e1:=[some (.scr ns),some B,some S,some (Yk none),some B,a,some (.int M),some (.int R)]) (ifF (orF (Qfh rfl rfl) (orF (Qfh rfl rfl) (orF (QhP (b:=true) (Qfh rfl rfl)) (QhP (b:=true) (Qfh rfl rfl))))) rfl) ?_;exact ifF (orF (opE rfl (JV rfl (opE rfl rfl ix) ma) (ni M)) (opE rfl (unE (unE rfl ku) kr) (ni R))) rfl|some p=>refine st (e1:=[some (.scr ns),some B,some S,some (Yk (some p)),some B,a,none,none]) (ifF (opE rfl rfl ed) rfl) (ret (opE rfl rfl eb))
end
section
open PySem PySem.Spec PyProof.Rows L2 Wd
noncomputable def top(i:Nat):Stmt:=PySem.Challenge.pw_leastbook_k12_most_pages.main.body.getD i (.Pass ⟨0,0,0,0⟩)
abbrev Qd0:Stmt:=top 13
abbrev Qdi:Stmt:=top 15
abbrev Qck:Stmt:=top 16
abbrev QeI:Stmt:=top 17
abbrev Qdg:Stmt:=top 18
abbrev Qdh:Stmt:=top 19
abbrev Qfn:Stmt:=top 20
abbrev QaO:Stmt:=top 21
abbrev Y0:Stmt:=top 22
abbrev Qax:Stmt:=top 23
abbrev V6:Stmt:=top 24
abbrev Qab:Stmt:=top 25
abbrev QaA:Stmt:=top 26
abbrev Qac:Stmt:=top 27
abbrev QaB:Stmt:=top 28
abbrev Qcl:Stmt:=top 29
abbrev Qaa:Stmt:=top 30
abbrev Qaz:Stmt:=top 31
abbrev Y1:Stmt:=top 32
abbrev Qay:Stmt:=top 33
abbrev QhU:Stmt:=top 34
abbrev QbO:Stmt:=top 35
abbrev Qcj:Stmt:=top 36
abbrev Qdm:Stmt:=top 38
abbrev QhV:Stmt:=top 39
abbrev QeL:Stmt:=top 40
abbrev Qd1:Stmt:=top 41
abbrev QeK:Stmt:=top 42
abbrev QcB:Stmt:=top 43
abbrev Qdk:Stmt:=top 44
abbrev Qdl:Stmt:=top 45
abbrev Qem:Stmt:=top 46
abbrev YB:Stmt:=top 47
abbrev Qel:Stmt:=top 48
abbrev QbA:Stmt:=top 49
abbrev Qgk:Stmt:=top 50
abbrev Qgi:Stmt:=top 51
abbrev QeJ:Stmt:=top 52
abbrev Qgh:Stmt:=top 53
abbrev Qen:Stmt:=top 54
abbrev Qc9:Stmt:=top 55
abbrev QbP:Stmt:=top 56
abbrev Vf:Stmt:=top 57
abbrev V7:Stmt:=top 58
abbrev QhW:Stmt:=top 59
abbrev Qgj:Stmt:=top 60
abbrev Qdj:Stmt:=top 61
abbrev QhD:Stmt:=top 62
structure Txt(K:Fg)(mg:Str->Option Value):Prop where
 g_HEIGHT:∃t,mg "HEIGHT"=some (.int 1 t)g_LISTED:∃t,mg "LISTED"=some (.int 3 t)g_WIDTH:∃t,mg "WIDTH"=some (.int 0 t)b_ValueError:mg "ValueError"=none
 b_any:mg "any"=none
 b_bool:mg "bool"=none
 b_enumerate:mg "enumerate"=none
 b_int:mg "int"=none
 b_isinstance:mg "isinstance"=none
 b_len:mg "len"=none
 b_list:mg "list"=none
 b_max:mg "max"=none
 b_min:mg "min"=none
 b_range:mg "range"=none
 b_str:mg "str"=none
 b_sum:mg "sum"=none
 y_Loose:mg "Loose"=some (.ref (Jt K 4))y_NoLabel:mg "NoLabel"=some (.ref (Jt K 5))y_NoRow:mg "NoRow"=some (.ref (Jt K 6))y_NoStyle:mg "NoStyle"=some (.ref (Jt K 0))y_TooHigh:mg "TooHigh"=some (.ref (Jt K 2))y_TooWide:mg "TooWide"=some (.ref (Jt K 1))y_Twice:mg "Twice"=some (.ref (Jt K 3))x0:MkX0 K mg "NoStyle"xt:XT K mg "BookError"xr:XR K
 z:True
section
variable{P:Program}{w:World}{K:Fg}{mg:Str->Option Value}{ae:Heap}
abbrev QaT:Stmt:=(QcQ (top 3)).getD 0 (.Pass ⟨0,0,0,0⟩)
theorem Qlu(h:∃C CB f fd,XDf K mg "TooWide" "TooWide.__init__" 1 QaT C CB f fd):MkX P w K mg ae 1 "TooWide" 1:=XDf.mk' h ⟨rfl,rfl,rfl,by decide+kernel,rfl,by decide+kernel,by decide+kernel⟩ rfl λC CB f fd z ao A ag s H E=>⟨QbB z.xb z.cl rfl z.mb (Q6 (Ji (i:=0) rfl (Or.inl rfl)) (Q6 (Qfg (Ji (i:=1) rfl (Or.inl rfl)) (by decide) (by decide)) ZV)),QcD z.cl (Ji (i:=0) rfl (Or.inl rfl)) (Ji (i:=1) rfl (Or.inl rfl))⟩
abbrev QaU:Stmt:=(QcQ (top 4)).getD 0 (.Pass ⟨0,0,0,0⟩)
theorem Qlv(h:∃C CB f fd,XDf K mg "TooHigh" "TooHigh.__init__" 2 QaU C CB f fd):MkX P w K mg ae 1 "TooHigh" 2:=XDf.mk' h ⟨rfl,rfl,rfl,by decide+kernel,rfl,by decide+kernel,by decide+kernel⟩ rfl λC CB f fd z ao A ag s H E=>⟨QbB z.xb z.cl rfl z.mb (Q6 (Ji (i:=0) rfl (Or.inl rfl)) (Q6 (Qfg (Ji (i:=1) rfl (Or.inl rfl)) (by decide) (by decide)) ZV)),QcD z.cl (Ji (i:=0) rfl (Or.inl rfl)) (Ji (i:=1) rfl (Or.inl rfl))⟩
abbrev QcA:Stmt:=(QcQ (top 5)).getD 0 (.Pass ⟨0,0,0,0⟩)
theorem QoC(h:∃C CB f fd,XDf K mg "Twice" "Twice.__init__" 3 QcA C CB f fd):MkX P w K mg ae 1 "Twice" 3:=XDf.mk' h ⟨rfl,rfl,rfl,by decide+kernel,rfl,by decide+kernel,by decide+kernel⟩ rfl λC CB f fd z ao A ag s H E=>⟨QbB z.xb z.cl rfl z.mb (Q6 (Ji (i:=0) rfl (Or.inl rfl)) (Q6 (Qfg (Ji (i:=1) rfl (Or.inl rfl)) (by decide) (by decide)) ZV)),QcD z.cl (Ji (i:=0) rfl (Or.inl rfl)) (Ji (i:=1) rfl (Or.inl rfl))⟩
abbrev QcC:Stmt:=(QcQ (top 6)).getD 0 (.Pass ⟨0,0,0,0⟩)
theorem QoL(h:∃C CB f fd,XDf K mg "Loose" "Loose.__init__" 4 QcC C CB f fd):MkX P w K mg ae 1 "Loose" 4:=XDf.mk' h ⟨rfl,rfl,rfl,by decide+kernel,rfl,by decide+kernel,by decide+kernel⟩ rfl λC CB f fd z ao A ag s H E=>⟨QbB z.xb z.cl rfl z.mb (Q6 (Ji (i:=0) rfl (Or.inl rfl)) (Q6 (Qfg (Ji (i:=1) rfl (Or.inl rfl)) (by decide) (by decide)) ZV)),QcD z.cl (Ji (i:=0) rfl (Or.inl rfl)) (Ji (i:=1) rfl (Or.inl rfl))⟩
abbrev QaV:Stmt:=(QcQ (top 7)).getD 0 (.Pass ⟨0,0,0,0⟩)
theorem Qlx(h:∃C CB f fd,XDf K mg "NoLabel" "NoLabel.__init__" 5 QaV C CB f fd):MkX P w K mg ae 1 "NoLabel" 5:=XDf.mk' h ⟨rfl,rfl,rfl,by decide+kernel,rfl,by decide+kernel,by decide+kernel⟩ rfl λC CB f fd z ao A ag s H E=>⟨QbB z.xb z.cl rfl z.mb (Q6 (Ji (i:=0) rfl (Or.inl rfl)) (Q6 (Qfg (Ji (i:=1) rfl (Or.inl rfl)) (by decide) (by decide)) ZV)),QcD z.cl (Ji (i:=0) rfl (Or.inl rfl)) (Ji (i:=1) rfl (Or.inl rfl))⟩
abbrev Vd:List Str:=["number"]
abbrev YF:List Str:=["style"]
abbrev Yo:List Str:=["block"]
abbrev VG:List Str:=["item"]
abbrev YD:List Str:=["block"]
abbrev YE:List Str:=["block"]
abbrev QdM:List Str:=["book"]
noncomputable abbrev Qic:List Str:=["book","labels","block"]
abbrev ZK:List Str:=["block","style"]
abbrev JK:List Str:=["book","style"]
abbrev Zi:List Str:=["book","style"]
abbrev Zv:List Str:=["texts","width"]
noncomputable abbrev Yd:List Str:=["block","style","room"]
noncomputable abbrev Qca:List Str:=["block","style","room","beside"]
noncomputable abbrev Zk:List Str:=["item","style","room"]
abbrev J1:List Str:=["block","style"]
abbrev Zl:List Str:=["item","style"]
noncomputable abbrev Yp:List Str:=["label","number","known"]
noncomputable abbrev J0:List Str:=["block","number","style","room","known"]
noncomputable abbrev Zj:List Str:=["item","number","style","room","known"]
noncomputable abbrev Yc:List Str:=["items","number","style","room","known"]
noncomputable abbrev Qah:List Str:=["items","number","style","room","known","words_left","item"]
abbrev Yy:List Str:=["book","known"]
noncomputable abbrev QcV:List Str:=["book","known","number","block","label"]
abbrev QdN:List Str:=["book","style"]
noncomputable abbrev Qmv:List Str:=["book","style","room","known","number","block"]
abbrev ZX:List Str:=["book","style"]
abbrev Yn:List Str:=["book","style"]
noncomputable abbrev YG:List Str:=["_law_script","_law_k"]
noncomputable abbrev QdO:List Str:=["_law_cell","_law_turn"]
noncomputable abbrev Qmw:List Str:=["_law_cell","_law_turn","_law_number"]
abbrev QbG:List Str:=["_law_k"]
noncomputable abbrev QiX:List Str:=["_law_k","_law_some"]
noncomputable abbrev QaW:List Str:=["_law_cell","_law_number"]
noncomputable abbrev Qhj:List Str:=["_law_cell","_law_number","_law_ten","_law_k"]
noncomputable abbrev QbE:List Str:=["_law_number","_law_size","_law_gaps"]
noncomputable abbrev QiW:List Str:=["_law_number","_law_size","_law_gaps","_law_some","_law_found","_law_k","_law_at","_law_sign"]
noncomputable abbrev QcL:List Str:=["_law_cell","_law_k"]
noncomputable abbrev Qew:List Str:=["_law_cell","_law_k","_law_number","_law_kind_here","_law_size","_law_many","_law_text","_law_word","_law_label_here","_law_name"]
noncomputable abbrev V1:List Str:=["_law_atoms","_law_cells"]
noncomputable abbrev QfH:List Str:=["_law_atoms","_law_cells","_law_labels","_law_atom_here","_law_found","_law_k","_law_label_here"]
abbrev V2:List Str:=["_law_atoms"]
noncomputable abbrev QfI:List Str:=["_law_atoms","_law_book","_law_row","_law_atom_here"]
noncomputable abbrev QcI:List Str:=["_law_script","_law_style"]
noncomputable abbrev QgE:List Str:=["_law_script","_law_style","_law_many","_law_ten","_law_k","_law_row"]
noncomputable abbrev QbF:List Str:=["_law_book","_law_room"]
noncomputable abbrev Vc:List Str:=["_law_book","_law_room","_law_wide","_law_high","_law_block","_law_notes","_law_rows"]
noncomputable abbrev QcF:List Str:=["_law_book","_law_listed"]
noncomputable abbrev QgD:List Str:=["_law_book","_law_listed","_law_most_here","_law_block"]
abbrev QbH:List Str:=["_law_script"]
noncomputable abbrev Qdf:List Str:=["_law_script","_law_every","_law_cells","_law_book","_law_listed","_law_edge_here","_law_room","_law_wide","_law_high","_law_width","_law_height","_law_style"]
abbrev QcJ:List Str:=["_law_book"]
noncomputable abbrev QkL:List Str:=["_law_book","_law_found","_law_block","_law_row","_law_item"]
abbrev Qan:List Str:=["_law_many"]
abbrev QbD:List Str:=["_law_book"]
noncomputable abbrev QiV:List Str:=["_law_book","_law_block","_law_item"]
noncomputable abbrev QcG:List Str:=["_law_style","_law_room","_law_turn","_law_number","_law_label_here"]
noncomputable abbrev QkJ:List Str:=["_law_style","_law_room","_law_turn","_law_number","_law_label_here","_law_width","_law_height","_law_odd","_law_listed","_law_over","_law_name","_law_title","_law_rows","_law_word","_law_ahead"]
noncomputable abbrev QcK:List Str:=["_law_book","_law_style","_law_room","_law_draws"]
noncomputable abbrev QgF:List Str:=["_law_book","_law_style","_law_room","_law_draws","_law_width","_law_height","_law_odd","_law_listed","_law_turn","_law_at","_law_marks"]
abbrev QbI:List Str:=["_law_script"]
noncomputable abbrev Qe2:List Str:=["_law_script","_law_book","_law_style","_law_room","_law_draws","_law_k","_law_number"]
noncomputable abbrev ZY:List Str:=["_law_label_here","_law_labels"]
noncomputable abbrev Vg:List Str:=["_law_items","_law_style","_law_room","_law_labels"]
noncomputable abbrev V9:List Str:=["_law_items","_law_style","_law_room","_law_labels","_law_k","_law_item","_law_found","_law_later"]
noncomputable abbrev Zw:List Str:=["_law_block","_law_style","_law_room","_law_labels"]
noncomputable abbrev QdP:List Str:=["_law_book","_law_style"]
noncomputable abbrev Qmx:List Str:=["_law_book","_law_style","_law_room","_law_labels","_law_k","_law_found","_law_item"]
abbrev QcH:List Str:=["_law_error"]
noncomputable abbrev QkK:List Str:=["_law_error","_law_found"]
noncomputable abbrev V0:List Str:=["_law_book","_law_style","_law_some"]
noncomputable abbrev QfG:List Str:=["_law_book","_law_style","_law_some","_law_caught","e"]
abbrev Qpz:List Str:=["_law_script"]
noncomputable abbrev QpS:List Str:=["_law_script","_law_book","_law_style","_law_due_here","_law_handed","_law_k","_law_many","_law_size"]
section
variable(P:Program)(w:World)(K:Fg)(mg:Str->Option Value)(ae:Heap)
abbrev Qhk:=Cal P w K mg ae 1 "figures" Vd (spD K Qb4)
abbrev QfK:=Cal P w K mg ae 1 "is_style" YF (spD K V3)
abbrev Qcs:=Cal P w K mg ae 1 "is_titled" Yo (spD K Vy)
abbrev Qe3:=Cal P w K mg ae 1 "is_set" VG (spD K Yl)
abbrev QfJ:=Cal P w K mg ae 1 "label_of" YD (spD K YH)
abbrev Qbg:=Cal P w K mg ae 1 "items_of" YE (spD K JQ)
abbrev Qmy:=Cal P w K mg ae 2 "refs" QdM (spD K Qbv)
abbrev QeE:=Cal P w K mg ae 2 "pages_for" ZK (spD K YO)
abbrev Qai:=Cal P w K mg ae 3 "pages_at_most" JK (spD K ZC)
abbrev QaH:=Cal P w K mg ae 4 "room_at_most" Zi (spD K Zm)
abbrev QbW:=Cal P w K mg ae 1 "any_longer" Zv (spD K Zy)
abbrev Qcd:=Cal P w K mg ae 2 "is_wide_block" Yd (spD K J2)
abbrev QcY:=Cal P w K mg ae 2 "is_wide_item" Zk (spD K Zo)
abbrev Qce:=Cal P w K mg ae 1 "is_high_block" J1 (spD K Y2)
abbrev QcZ:=Cal P w K mg ae 1 "is_high_item" Zl (spD K Yz)
abbrev Qbh:=Cal P w K mg ae 1 "_law_cell_at" YG (spD K QJ)
abbrev Qcz:=Cal P w K mg ae 1 "_law_mix" QdO (spD K Zr)
abbrev Qi1:=Cal P w K mg ae 1 "_law_label" QbG (spD K Qau)
abbrev Qhl:=Cal P w K mg ae 1 "_law_plates" QaW (spD K Qb5)
abbrev QiZ:=Cal P w K mg ae 1 "_law_signs" QbE (spD K YC)
abbrev QkS:=Cal P w K mg ae 2 "_law_atom" QcL (spD K VM)
abbrev QfM:=Cal P w K mg ae 2 "_law_pointed" V1 (spD K Qbe)
abbrev QfN:=Cal P w K mg ae 1 "_law_grouped" V2 (spD K YI)
abbrev QkP:=Cal P w K mg ae 2 "_law_edge" QcI (spD K QcO)
abbrev Qi0:=Cal P w K mg ae 1 "_law_needs" QbF (spD K QbM)
abbrev Qex:=Cal P w K mg ae 1 "_law_most" QcF (spD K VL)
abbrev Qi2:=Cal P w K mg ae 3 "_law_drawn" QbH (spD K Qav)
abbrev QkQ:=Cal P w K mg ae 1 "_law_copy" QcJ (spD K Qer)
abbrev QkN:=Cal P w K mg ae 1 "_law_long" Qan (spD K ZA)
abbrev QiY:=Cal P w K mg ae 1 "_law_taken" QbD (spD K QbL)
abbrev QkM:=Cal P w K mg ae 2 "_law_more" QcG (spD K Qbj)
abbrev QkR:=Cal P w K mg ae 3 "_law_bent" QcK (spD K Qar)
abbrev Qi3:=Cal P w K mg ae 4 "_law_built" QbI (spD K Qdb)
abbrev Qmz:=Cal P w K mg ae 4 "_law_due" QdP (spD K Qfs)
abbrev QkO:=Cal P w K mg ae 1 "_law_kind" QcH (spD K Qbk)
abbrev QfL:=Cal P w K mg ae 8 "_law_refused" V0 (spD K V4)
end
section
variable(P:Program)(w:World)(K:Fg)(mg:Str->Option Value)(ae:Heap)
abbrev Qcr:=VS P w K mg ae 3 "add_label" Yp (Qf6 K YQ)
abbrev Qcc:=VS P w K mg ae 4 "look_at_block" J0 (Qf6 K ZD)
abbrev QcX:=VS P w K mg ae 4 "look_at_item" Zj (Qf6 K ZU)
abbrev Qcb:=VS P w K mg ae 5 "look_at_items" Yc (Qf6 K Ye)
abbrev QcW:=VS P w K mg ae 3 "look_at_refs" Yy (spX K Zn)
abbrev Qid:=VS P w K mg ae 6 "look" QdN (spX K Y7)
abbrev QbU:=VS P w K mg ae 7 "most_pages" ZX (spX K Zx)
abbrev Qcq:=VS P w K mg ae 7 "most_room" Yn (spX K ZL)
abbrev QbV:=Cal P w K mg ae 1 "_law_label_due" ZY (spR K JA)
abbrev Qec:=Cal P w K mg ae 2 "_law_items_due" Vg (spR K Yw)
abbrev Qed:=Cal P w K mg ae 3 "_law_block_due" Zw (spR K Yx)
end
theorem Qlm:FnScope Vd Vd (Qc Qd0):=by constructor<;>first|rfl|decide+kernel
theorem Qlt(h:Df K mg "figures" Qd0 Vd)(T:Txt K mg):Qhk P w K mg ae:=okD Vd Vd Qd5 0 h Qlm λnd=>λhr=>So (Qm (QK Qw rfl T.b_len boot_len (dr (VX Qb7 rfl T.b_str boot_str (dv 0)))))
theorem QjC:FnScope YF YF (Qc Qdi):=by constructor<;>first|rfl|decide+kernel
theorem QjN(h:Df K mg "is_style" Qdi YF)(T:Txt K mg):QfK P w K mg ae:=okD YF YF Qds 0 h QjC λnd=>λhr=>So (Qm (QdW (dr (QiJ (Qfo hr.units0) (Qfo hr.units0) dq (dr (QI (dv 0) (dr (Yu T.g_WIDTH rfl)))) dq)) (QdU (QiJ (Qfo hr.units0) (Qfo hr.units0) dq (dr (QI (dv 0) (dr (Yu T.g_HEIGHT rfl)))) dq))))
theorem Qi8:FnScope Yo Yo (Qc Qck):=by constructor<;>first|rfl|decide+kernel
theorem Qjc(h:Df K mg "is_titled" Qck Yo)(T:Txt K mg):Qcs P w K mg ae:=okD Yo Yo Qco 0 h Qi8 λnd=>λhr=>So (Qm (Zb QdQ (dx 0) (dr (Qr (Dk Qa (Dk Qa Dz)) lz2)) (by with_unfolding_all rfl)))
theorem QmO:FnScope VG VG (Qc QeI):=by constructor<;>first|rfl|decide+kernel
theorem Qm2(h:Df K mg "is_set" QeI VG)(T:Txt K mg):Qe3 P w K mg ae:=okD VG VG QeX 0 h QmO λnd=>λhr=>So (Qm (Zb QdQ (dx 0) (dr (Qr (Dk Qa (Dk Qa Dz)) lz2)) (by with_unfolding_all rfl)))
theorem QjA:FnScope YD YD (Qc Qdg):=by constructor<;>first|rfl|decide+kernel
theorem QjL(h:Df K mg "label_of" Qdg YD)(T:Txt K mg):QfJ P w K mg ae:=okD YD YD Qdq 0 h QjA λnd=>λhr=>So (Qm (Qle (dE hr (dx 0) (dr Qa)) Qa (QI (dv 0) (dr (Qbw dq)))))
theorem QjB:FnScope YE YE (Qc Qdh):=by constructor<;>first|rfl|decide+kernel
theorem QjM(h:Df K mg "items_of" Qdh YE)(T:Txt K mg):Qbg P w K mg ae:=okD YE YE Qdr 0 h QjB λnd=>λhr=>So (Qm (Qle (dE hr (dx 0) (dr Qa)) (dy 0) (Qq Dz lz0)))
theorem Qp4:FnScope Qic QdM (Qc Qfn):=by constructor<;>first|rfl|decide+kernel
theorem Qqr(h:Df K mg "refs" Qfn QdM)(T:Txt K mg)(au:Qbg P w K mg ae):Qmy P w K mg ae:=okD Qic QdM Qh5 1 h Qp4 (λnd=>λhr=>(by refine Ss (O1:=[1]) ?_ ?_;exact(JR 1 nd (Vx Dz lz0));refine Ss (O1:=[1]) ?_ ?_;refine Jr rfl PassesOwn.never ?_ ?_ ?_;exact(Ja (Qs 0));exact Ql 2 nd;refine So ?_;refine QsC 1 (by decide) ?_;refine dr ?_;refine JZ ?_;refine JT rfl rfl (QX (show Js (Qc Qfn) Qic _ 1 ["item"] []=true by decide+kernel)) (by decide) ?_ ?_ ?_ ?_;exact(dih (Ja (dc au hr (dn 2 Dz))));exact λ_ _ _ _ _ _=>Ql 0 (show List.Nodup (["item"]:List Str)by decide+kernel);exact λ_ _ _ _ _ _=>(Vp (dE hr (dx 0) (dr Qa)));exact λ_ _ _ _ _ _=>(dy 0);exact(YL 1 (So (Qm (Qs 1))))))
theorem Qi7:FnScope ZK ZK (Qc QaO):=by constructor<;>first|rfl|decide+kernel
theorem Qja(h:Df K mg "pages_for" QaO ZK)(T:Txt K mg)(aM:Qe3 P w K mg ae)(aB:Qcs P w K mg ae)(au:Qbg P w K mg ae):QeE P w K mg ae:=okD ZK ZK Qcm 1 h Qi7 (λnd=>λhr=>(by refine Ss (O1:=[]) ?_ ?_;exact(Qk (dE hr (dx 0) (dr Qa)) (So (Qm (Qb Qg dq (dx 0)))) Sn);refine Ss (O1:=[]) ?_ ?_;exact(Qk (PW.pt (ZH (Je (dr (dc aB hr (dn 0 Dz)))) (Q8 (Je (dr (QI (dv 1) (dr (Yu T.g_LISTED rfl)))))))) (So (Qm QH)) Sn);refine So ?_;refine Qm ?_;refine Qb Qg ?_ ?_;exact dq;refine dr ?_;refine Qb Jf ?_ ?_;exact dq;refine dr ?_;refine QK Qw rfl T.b_len boot_len ?_;refine dr ?_;refine JZ ?_;refine JT rfl rfl (QX (show Js (Qc QaO) ZK _ 1 ["item"] []=true by decide+kernel)) (by decide) ?_ ?_ ?_ ?_;exact(dih (Ja (dc au hr (dn 0 Dz))));exact λ_ _ _ _ _ _=>Ql 0 (show List.Nodup (["item"]:List Str)by decide+kernel);exact λ_ _ _ _ _ _=>(Vp (Je (dr (dc aM hr (dn 0 Dz)))));exact λ_ _ _ _ _ _=>Qs 0))
theorem Qe6:FnScope JK JK (Qc Y0):=by constructor<;>first|rfl|decide+kernel
theorem Qe9(h:Df K mg "pages_at_most" Y0 JK)(T:Txt K mg)(ba:QeE P w K mg ae):Qai P w K mg ae:=okD JK JK Qad 2 h Qe6 (λnd=>λhr=>(by refine So ?_;refine Qm ?_;refine Qb Qg ?_ ?_;exact dq;refine dr ?_;refine QK (QnI rfl) rfl T.b_sum boot_sum ?_;refine dr ?_;refine JZ ?_;refine JT rfl rfl (QX (show Js (Qc Y0) JK _ 1 ["block","style"] [1]=true by decide+kernel)) (by decide) ?_ ?_ ?_ ?_;exact(dih (Ja (Qs 0)));exact λ_ _ _ _ _ _=>Ql 0 (show List.Nodup (["block","style"]:List Str)by decide+kernel);exact λ_ _ _ _ _ _=>Zg;exact λ_ _ _ _ _ _=>(dc ba hr (dn 0 (dn 1 Dz)))))
theorem QfO:FnScope Zi Zi (Qc Qax):=by constructor<;>first|rfl|decide+kernel
theorem QfR(h:Df K mg "room_at_most" Qax Zi)(T:Txt K mg)(bz:Qhk P w K mg ae)(aq:Qai P w K mg ae):QaH P w K mg ae:=okD Zi Zi QaD 3 h QfO λnd=>λhr=>So (Qm (dc bz hr (Dl (dc aq hr (dn 0 (dn 1 Dz))) Dz)))
theorem Qhp:FnScope Zv Zv (Qc V6):=by constructor<;>first|rfl|decide+kernel
theorem Qhr(h:Df K mg "any_longer" V6 Zv)(T:Txt K mg):QbW P w K mg ae:=okD Zv Zv V8 0 h Qhp (λnd=>λhr=>(by refine So ?_;refine Qm ?_;refine QK (QnP rfl) rfl T.b_any boot_any ?_;refine dr ?_;refine JZ ?_;refine JT rfl rfl (QX (show Js (Qc V6) Zv _ 1 ["text","width"] [1]=true by decide+kernel)) (by decide) ?_ ?_ ?_ ?_;exact(dih (Ja (Qs 0)));exact λ_ _ _ _ _ _=>Ql 0 (show List.Nodup (["text","width"]:List Str)by decide+kernel);exact λ_ _ _ _ _ _=>Zg;exact λ_ _ _ _ _ _=>(Zb ZG (dr (QK Qw rfl T.b_len boot_len (dv 0))) (dv 1) (QS _))))
theorem Qe7:FnScope Qca Yd (Qc Qab):=by constructor<;>first|rfl|decide+kernel
theorem Qfc(h:Df K mg "is_wide_block" Qab Yd)(T:Txt K mg)(ax:QbW P w K mg ae)(aB:Qcs P w K mg ae):Qcd P w K mg ae:=okD Qca Yd Y3 1 h Qe7 λnd=>λhr=>by refine Ss (O1:=[]) ? _ ? _;exact Qk (Je (dr (dc aB hr (dn 0 Dz)))) (Ss (O1:=[]) (Qo 3 nd (Qle (Je (dr (QI (dv 1) (dr (Yu T.g_LISTED rfl))))) (Qb Qg dq (dv 2)) QH)) (So (Qm (Zb ZG (dr (Qb Qg (dr (QK Qw rfl T.b_len boot_len (dx 0))) (dv 3))) (dr (QI (dv 1) (dr (Yu T.g_WIDTH rfl)))) (QS _))))) Sn;exact So (Qm (QdW (dr (Zb (Vu hr.units) (dx 0) (dr Qa) (QS _))) (QdU (dc ax hr (Du (dy 0) (Du (QI (dv 1) (dr (Yu T.g_WIDTH rfl))) Dz))))))
theorem QfP:FnScope Zk Zk (Qc QaA):=by constructor<;>first|rfl|decide+kernel
theorem QfU(h:Df K mg "is_wide_item" QaA Zk)(T:Txt K mg)(ax:QbW P w K mg ae):QcY P w K mg ae:=okD Zk Zk Vq 1 h QfP λnd=>λhr=>by refine Ss (O1:=[]) ? _ ? _;exact Qk (dE hr (dx 0) (dr Qa)) (So (Qm (dc ax hr (Db (Qb Qg (dr (Qq (Du (dy 0) Dz) lz1)) (dx 0)) (Du (QI (dv 1) (dr (Yu T.g_WIDTH rfl))) Dz))))) Sn;refine So ? _;refine Qm ? _;exact QdW (dr (Zb (Vu hr.units) (dx 0) (dr Qa) (QS _))) (QdU (Zb ZG (dr (Qb Qg (dr (Qb Qg (dr (QK Qw rfl T.b_len boot_len (dx 0))) (dv 2))) (dr (QK Qw rfl T.b_len boot_len (dx 0))))) (dr (QI (dv 1) (dr (Yu T.g_WIDTH rfl)))) (QS _)))
theorem Qe8:FnScope J1 J1 (Qc Qac):=by constructor<;>first|rfl|decide+kernel
theorem Qfd(h:Df K mg "is_high_block" Qac J1)(T:Txt K mg):Qce P w K mg ae:=okD J1 J1 Qag 0 h Qe8 λnd=>λhr=>Ss (O1:=[]) (Qk (dE hr (dx 0) (dr Qa)) (So (Qm (Zb ZG (dr (Qb Qg (dx 0) dq)) (dr (QI (dv 1) (dr (Yu T.g_HEIGHT rfl)))) (QS _)))) Sn) (So (Qm (QdW (dr (Zb (Vu hr.units) (dx 0) (dr Qa) (QS _))) (QdU (Zb ZG (dr (QK Qw rfl T.b_len boot_len (dx 0))) (dr (QI (dv 1) (dr (Yu T.g_HEIGHT rfl)))) (QS _))))))
theorem QfQ:FnScope Zl Zl (Qc QaB):=by constructor<;>first|rfl|decide+kernel
theorem QfV(h:Df K mg "is_high_item" QaB Zl)(T:Txt K mg):QcZ P w K mg ae:=okD Zl Zl QaG 0 h QfQ λnd=>λhr=>So (Qm (QdW (dr (Zb (Vu hr.units) (dx 0) (dr Qa) (QS _))) (QdU (Zb ZG (dr (Qb Qg (dr (QK Qw rfl T.b_len boot_len (dx 0))) dq)) (dr (QI (dv 1) (dr (Yu T.g_HEIGHT rfl)))) (QS _)))))
theorem Qea:FnScope Yp Yp (Qc Qcl):=by constructor<;>first|rfl|decide+kernel
theorem Qjd(h:Df K mg "add_label" Qcl Yp)(T:Txt K mg)(bS:MkX P w K mg ae 1 "Twice" 3):Qcr P w K mg ae:=have nd:=(Qea).nd
 QhF (b:=Qcp) (k:=2) (N:=Yp) (ps:=Yp) (O':=[2,1002]) (OL:=[]) h Qea (by decide) (by decide) (by decide) (by decide) (by decide) λf ao A ag s H E hr=>Ss (O1:=[2,1002]) (Qk (QsA hr.units1 (dv 0) (Jk 2)) (So (VH bS (hr.mono (by decide)) rfl (Qs 1))) Sn) (So (QqU 2 (by decide) hr.units1 (dv 0) Qc4))
theorem QbY:FnScope J0 J0 (Qc Qaa):=by constructor<;>first|rfl|decide+kernel
theorem Qfb(h:Df K mg "look_at_block" Qaa J0)(T:Txt K mg)(aK:MkX P w K mg ae 1 "TooHigh" 2)(aJ:MkX P w K mg ae 1 "TooWide" 1)(aC:Qcr P w K mg ae)(aH:Qce P w K mg ae)(aG:Qcd P w K mg ae)(aU:QfJ P w K mg ae):Qcc P w K mg ae:=have nd:=(QbY).nd
 QhF (b:=Qaf) (k:=3) (N:=J0) (ps:=J0) (O':=[4,1004]) (OL:=[]) h QbY (by decide) (by decide) (by decide) (by decide) (by decide) (λf ao A ag s H E hr=>(by refine Ss (O1:=[4,1004]) ?_ ?_;exact(Qk (Je (dr (dc aG hr (dn 0 (dn 2 (dn 3 Dz)))))) (So (VH aJ (hr.mono (by decide)) rfl (Qs 1))) Sn);refine Ss (O1:=[4,1004]) ?_ ?_;exact(Qk (Je (dr (dc aH hr (dn 0 (dn 2 Dz))))) (So (VH aK (hr.mono (by decide)) rfl (Qs 1))) Sn);refine So ?_;refine Qk ?_ ?_ ?_;exact(dF hr (dr (dc aU hr (dn 0 Dz))) (dr Qa));refine So ?_;refine QaY 4 (by decide) aC (hr.mono (by decide)) rfl ?_;refine QZ ?_ ?_ ?_;exact(dc aU hr (dn 0 Dz));refine QZ ?_ ?_ ?_;exact Qs 1;exact(VY 4);exact JD;exact Qgg;exact Sn))
theorem Qb9:FnScope Zj Zj (Qc Qaz):=by constructor<;>first|rfl|decide+kernel
theorem QfT(h:Df K mg "look_at_item" Qaz Zj)(T:Txt K mg)(aK:MkX P w K mg ae 1 "TooHigh" 2)(aJ:MkX P w K mg ae 1 "TooWide" 1)(aC:Qcr P w K mg ae)(aQ:QcZ P w K mg ae)(aP:QcY P w K mg ae):QcX P w K mg ae:=have nd:=(Qb9).nd
 QhF (b:=QaF) (k:=3) (N:=Zj) (ps:=Zj) (O':=[4,1004]) (OL:=[]) h Qb9 (by decide) (by decide) (by decide) (by decide) (by decide) (λf ao A ag s H E hr=>(by refine Ss (O1:=[4,1004]) ?_ ?_;exact(Qk (Je (dr (dc aP hr (dn 0 (dn 2 (dn 3 Dz)))))) (So (VH aJ (hr.mono (by decide)) rfl (Qs 1))) Sn);refine Ss (O1:=[4,1004]) ?_ ?_;exact(Qk (Je (dr (dc aQ hr (dn 0 (dn 2 Dz))))) (So (VH aK (hr.mono (by decide)) rfl (Qs 1))) Sn);refine So ?_;refine Qk ?_ ?_ ?_;exact(dE hr (dx 0) (dr Qa));refine So ?_;refine QaY 4 (by decide) aC (hr.mono (by decide)) rfl ?_;refine QZ ?_ ?_ ?_;exact(dy 0);refine QZ ?_ ?_ ?_;exact Qs 1;exact(VY 4);exact JD;exact Yv;exact Sn))
theorem QbX:FnScope Qah Yc (Qc Y1):=by constructor<;>first|rfl|decide+kernel
theorem Qfa(h:Df K mg "look_at_items" Y1 Yc)(T:Txt K mg)(bY:MkX P w K mg ae 1 "Loose" 4)(aM:Qe3 P w K mg ae)(aO:QcX P w K mg ae):Qcb P w K mg ae:=have nd:=(QbX).nd
 QhF (b:=Qae) (k:=4) (N:=Qah) (ps:=Yc) (O':=[4,1004]) (OL:=[]) h QbX (by decide) (by decide) (by decide) (by decide) (by decide) (λf ao A ag s H E hr=>(by refine Ss (O1:=[4,1004]) ?_ ?_;refine Qo 5 nd ?_;refine QK Qw rfl T.b_len boot_len ?_;refine dr ?_;refine JZ ?_;refine PE.nox ?_;refine JT rfl rfl (QX (show Js (Qc Y1) Qah _ 1 ["item"] []=true by decide+kernel)) (by decide) ?_ ?_ ?_ ?_;exact(dih (Ja (Qs 0)));exact λ_ _ _ _ _ _=>Ql 0 (show List.Nodup (["item"]:List Str)by decide+kernel);exact λ_ _ _ _ _ _=>(Vp (Je (dr (dc aM hr (dn 0 Dz)))));exact λ_ _ _ _ _ _=>Qs 0;refine So ?_;refine Jr rfl PassesOwn.leaving ?_ ?_ ?_;exact(Ja (Qs 0));exact Ql 6 nd;refine Ss (O1:=[4,1004]) ?_ ?_;refine QaY 4 (by decide) aO (hr.mono (by decide)) rfl ?_;refine QZ ?_ ?_ ?_;exact Qs 6;refine QZ ?_ ?_ ?_;exact Qs 1;refine QZ ?_ ?_ ?_;exact Qs 2;refine QZ ?_ ?_ ?_;exact Qs 3;exact(VY 4);exact JD;exact JD;exact JD;exact JD;exact(So (Qk (Je (dr (dc aM hr (dn 6 Dz)))) (So (QsD 5 nd (by decide) dq QqG)) (So (Qk (dE hr (dv 5) dq) (So (VH bY (hr.mono (by decide)) rfl (Qs 1))) Sn))))))
theorem Qb8:FnScope QcV Yy (Qc Qay):=by constructor<;>first|rfl|decide+kernel
theorem QfS(h:Df K mg "look_at_refs" Qay Yy)(T:Txt K mg)(bB:MkX P w K mg ae 1 "NoLabel" 5)(cg:Qmy P w K mg ae):QcW P w K mg ae:=have nd:=(Qb8).nd
 QkY (b:=QaE) (k:=2) (N:=QcV) (ps:=Yy) (O':=[]) (OL:=[]) h Qb8 (λf ao A ag s H E hr=>(by refine So ?_;refine Jr rfl PassesOwn.leaving ?_ ?_ ?_;exact(Qes rfl T.b_enumerate (Qs 0));exact(Vw rfl (QV (O1:=[]) (Ql 2 nd) (QV (O1:=[]) (Ql 3 nd) YM)) rfl);refine So ?_;refine Jr rfl PassesOwn.leaving ?_ ?_ ?_;refine Ja ?_;refine dc cg hr ?_;refine JS ?_ ?_;exact(Qq (dn 3 Dz) lz1);exact Dz;exact Ql 4 nd;exact(So (Qk (Qns hr.units1 (dv 4) (dv 1)) (So (VH bB (hr.mono (by decide)) rfl (Qs 2))) Sn))))
theorem Qka:FnScope Qmv QdN (Qc QhU):=by constructor<;>first|rfl|decide+kernel
theorem Qqs(h:Df K mg "look" QhU QdN)(T:Txt K mg)(bg:QfK P w K mg ae)(au:Qbg P w K mg ae)(aF:Qcc P w K mg ae)(aE:Qcb P w K mg ae)(aN:QcW P w K mg ae)(ar:QaH P w K mg ae):Qid P w K mg ae:=have nd:=(Qka).nd
 QkY (b:=Qh6) (k:=5) (N:=Qmv) (ps:=QdN) (O':=[]) (OL:=[]) h Qka (λf ao A ag s H E hr=>(by refine Ss (O1:=[]) ?_ ?_;exact(Qk (Qfu (Je (dr (dc bg hr (dn 1 Dz))))) (So (by exact Qnt T.x0 hr rfl)) Sn);refine Ss (O1:=[]) ?_ ?_;exact(Qo 2 nd (dc ar hr (dn 0 (dn 1 Dz))));refine Ss (O1:=[3]) ?_ ?_;exact(JR 3 nd Qq8);refine Ss (O1:=[3]) ?_ ?_;refine Jr rfl PassesOwn.leaving ?_ ?_ ?_;exact(Qes rfl T.b_enumerate (Qs 0));exact(Vw rfl (QV (O1:=[3]) (Ql 4 nd) (QV (O1:=[3]) (Ql 5 nd) YM)) rfl);refine Ss (O1:=[3]) ?_ ?_;refine QaY 3 (by decide) aF (hr.mono (by decide)) rfl ?_;refine QZ ?_ ?_ ?_;exact Qs 5;refine QZ ?_ ?_ ?_;exact Qs 4;refine QZ ?_ ?_ ?_;exact Qs 1;refine QZ ?_ ?_ ?_;exact Qs 2;exact(VY 3);exact JD;exact JD;exact JD;exact JD;refine So ?_;refine QaY 3 (by decide) aE (hr.mono (by decide)) rfl ?_;refine QZ ?_ ?_ ?_;exact(dc au hr (dn 5 Dz));refine QZ ?_ ?_ ?_;exact Qs 4;refine QZ ?_ ?_ ?_;exact Qs 1;refine QZ ?_ ?_ ?_;exact Qs 2;exact(VY 3);exact JD;exact JD;exact JD;exact Qgg;exact(YL 3 (So (QeT aN (hr.mono (by decide)) rfl (dn 0 (dn 3 Dz)))))))
theorem Qdx:FnScope ZX ZX (Qc QbO):=by constructor<;>first|rfl|decide+kernel
theorem Qhq(h:Df K mg "most_pages" QbO ZX)(T:Txt K mg)(bt:Qid P w K mg ae)(aq:Qai P w K mg ae):QbU P w K mg ae:=have nd:=(Qdx).nd
 QkY (b:=QbQ) (k:=6) (N:=ZX) (ps:=ZX) (O':=[]) (OL:=[]) h Qdx λf ao A ag s H E hr=>Ss (O1:=[]) (QeT bt (hr.mono (by decide)) rfl (dn 0 (dn 1 Dz))) (So (Qm (dc aq hr (dn 0 (dn 1 Dz)))))
theorem Qd9:FnScope Yn Yn (Qc Qcj):=by constructor<;>first|rfl|decide+kernel
theorem Qjb(h:Df K mg "most_room" Qcj Yn)(T:Txt K mg)(bt:Qid P w K mg ae)(ar:QaH P w K mg ae):Qcq P w K mg ae:=have nd:=(Qd9).nd
 QkY (b:=Qcn) (k:=6) (N:=Yn) (ps:=Yn) (O':=[]) (OL:=[]) h Qd9 λf ao A ag s H E hr=>Ss (O1:=[]) (QeT bt (hr.mono (by decide)) rfl (dn 0 (dn 1 Dz))) (So (Qm (dc ar hr (dn 0 (dn 1 Dz)))))
theorem QjG:FnScope YG YG (Qc Qdm):=by constructor<;>first|rfl|decide+kernel
theorem QjR(h:Df K mg "_law_cell_at" Qdm YG)(T:Txt K mg):Qbh P w K mg ae:=okD YG YG Qdw 0 h QjG λnd=>λhr=>Ss (O1:=[]) (Qk (Jj QaR (dv 1) (dr (QK Qw rfl T.b_len boot_len (dv 0))) (QS _)) (So (Qm (QI (dv 0) (dv 1)))) Sn) (So (Qm QH))
theorem Qp5:FnScope Qmw QdO (Qc QhV):=by constructor<;>first|rfl|decide+kernel
theorem Qqt(h:Df K mg "_law_mix" QhV QdO)(T:Txt K mg):Qcz P w K mg ae:=okD Qmw QdO Qh7 0 h Qp5 λnd=>λhr=>Ss (O1:=[]) (Qo 2 nd (Qb Qu (dr (Qb Jf (dr (Qb Qg (dr (Qb Qg (dr (Qb Qu (dv 0) dq)) (dr (Qb Jf (dr (Qb Jf (dv 1) (dv 1))) dq)))) dq)) dq)) dq)) (So (Qm (Qb Qu (dr (Qb Qg (dr (Qb Jf (dv 2) (dv 2))) (dr (Qb Jf dq (dv 1))))) dq)))
theorem QmS:FnScope QiX QbG (Qc QeL):=by constructor<;>first|rfl|decide+kernel
theorem Qm6(h:Df K mg "_law_label" QeL QbG)(T:Txt K mg):Qi1 P w K mg ae:=okD QiX QbG QiT 0 h QmS λnd=>λhr=>by refine Ss (O1:=[]) ? _ ? _;exact Qo 1 nd Qa;refine So ? _;refine Qm ? _;exact Qb Qg (dr (Qb Qg (dr (Qb Qg (dr (Zc (dr Qa) ZB (J3 (dr (Qb Qu (dr (Qb Jf (dv 0) dq)) dq))))) (dr (QI (dv 1) (dr (Qb Qu (dr (Qb QR (dv 0) dq)) dq)))))) (dr (QI (dv 1) (dr (Qb Qu (dv 0) dq)))))) (dr (Zc (dr Qa) ZB (J3 (dr (Qb Qu (dr (Qb Jf (dv 0) dq)) dq)))))
theorem Qln:FnScope Qhj QaW (Qc Qd1):=by constructor<;>first|rfl|decide+kernel
theorem Qlw(h:Df K mg "_law_plates" Qd1 QaW)(T:Txt K mg):Qhl P w K mg ae:=okD Qhj QaW Qd6 0 h Qln (λnd=>λhr=>(by refine Ss (O1:=[]) ?_ ?_;exact(Qo 2 nd QH);refine Ss (O1:=[]) ?_ ?_;exact(Jr rfl PassesOwn.never (Yt rfl T.b_range (dr (Qb Qu (dr (Qb QR (dv 1) dq)) dq))) (Ql 3 nd) (So (Qo 2 nd (Qb Jf (dv 2) dq))));refine Ss (O1:=[]) ?_ ?_;exact(Qk (dE hr (dr (Qb Qu (dr (Qb QR (dv 1) dq)) dq)) dq) (So (Qo 2 nd (Qb Qep dq dq))) Sn);refine So ?_;refine Qm ?_;refine QI ?_ ?_;refine dr ?_;refine Qq ?_ ?_;exact(Db (Qb Qg dq (dr (Qb Qu (dr (Qb QR (dv 1) dq)) dq))) (Db (Qb Jm (dr (Qb Jm (dv 2) dq)) (dr (Qb Qu (dr (Qb QR (dv 1) dq)) dq))) (Db (Qb Qg dq (dr (Qb Qu (dv 0) (dr (Qb Qep dq dq))))) Dz)));exact lz3;exact(dr (Qb Qu (dr (Qb QR (dv 1) dq)) dq))))
theorem QmQ:FnScope QiW QbE (Qc QeK):=by constructor<;>first|rfl|decide+kernel
theorem Qm4(h:Df K mg "_law_signs" QeK QbE)(T:Txt K mg):QiZ P w K mg ae:=okD QiW QbE QeY 0 h QmQ (λnd=>λhr=>(by refine Ss (O1:=[]) ?_ ?_;exact(Qo 3 nd Qa);refine Ss (O1:=[]) ?_ ?_;exact(Qo 3 nd (Qb Qg (dv 3) (dr Qa)));refine Ss (O1:=[]) ?_ ?_;exact(Qo 4 nd Qa);refine Ss (O1:=[]) ?_ ?_;refine Jr rfl PassesOwn.never ?_ ?_ ?_;exact(Yt rfl T.b_range (dv 1));exact Ql 5 nd;refine Ss (O1:=[]) ?_ ?_;exact(Qo 6 nd (Qb Qg (dr (Qb Qg (dr (Qb QR (dv 0) dq)) (dr (Qb Jf (dv 5) (dr (Qb Qg dq (dr (Qb Qu (dv 0) dq)))))))) (dr (Qb Jf (dv 5) (dv 5)))));refine Ss (O1:=[]) ?_ ?_;exact(Qo 7 nd (QI (dv 3) (dr (Qb Qu (dv 6) (dr (Qb Qg (dr (Qb Jm (dr (QK Qw rfl T.b_len boot_len (dv 3))) dq)) (dv 2)))))));exact(Ss (O1:=[]) (Qk (PW.pt (ZH (dE hr (dv 2) dq) (Q8 (dE hr (dr (Qb Qu (dr (Qb Qg (dr (Qb QR (dv 0) dq)) (dv 5))) dq)) dq)))) (So (Qo 7 nd Qa)) Sn) (So (Qo 4 nd (Qb Qg (dv 4) (dv 7)))));exact(So (Qm (Qs 4)))))
theorem Qor:FnScope Qew QcL (Qc QcB):=by constructor<;>first|rfl|decide+kernel
theorem QoK(h:Df K mg "_law_atom" QcB QcL)(T:Txt K mg)(bJ:Qi1 P w K mg ae)(av:Qcz P w K mg ae)(bA:Qhl P w K mg ae)(a9:QiZ P w K mg ae):QkS P w K mg ae:=okD Qew QcL QgA 1 h Qor (λnd=>λhr=>(by refine Ss (O1:=[]) ?_ ?_;exact(Qo 2 nd (dc av hr (dn 0 (Db (Qb Qg (dv 1) dq) Dz))));refine Ss (O1:=[]) ?_ ?_;exact(Qo 3 nd (Qb Qu (dv 2) dq));refine Ss (O1:=[]) ?_ ?_;exact(Qo 4 nd (Qb Qg dq (dr (Qb Qu (dr (Qb QR (dv 2) dq)) (dr (QI (dr (Qq (Dk QH (Dk QH Dz)) lz2)) (dr (VX Qa0 rfl T.b_int boot_int (dr (Zb (Vu hr.units) (dr (Qb Qu (dr (Qb QR (dv 2) dq)) dq)) dq (QS _)))))))))));refine Ss (O1:=[]) ?_ ?_;exact(Qo 5 nd (Qb Qg dq (dr (Qb Qu (dr (Qb QR (dv 2) dq)) (dr (QI (dr (Qq (Dk QH (Dk QH Dz)) lz2)) (dr (VX Qa0 rfl T.b_int boot_int (dr (Zb (Vu hr.units) (dr (Qb Qu (dr (Qb QR (dv 2) dq)) dq)) dq (QS _)))))))))));refine Ss (O1:=[]) ?_ ?_;exact(Qo 6 nd (dc a9 hr (Db (Qb QR (dv 2) dq) (dn 4 (Dk QH Dz)))));refine Ss (O1:=[]) ?_ ?_;exact(Qo 7 nd (dc a9 hr (Db (Qb QR (dv 2) dq) (dn 4 (Dk QH Dz)))));refine Ss (O1:=[]) ?_ ?_;exact(Qo 8 nd (dc bJ hr (dn 1 Dz)));refine Ss (O1:=[]) ?_ ?_;exact(Qo 9 nd (Qs 8));refine Ss (O1:=[]) ?_ ?_;exact(Qk (dE hr (dr (Qb Qu (dr (Qb QR (dv 2) dq)) dq)) dq) (So (Qo 9 nd Qa)) Sn);refine Ss (O1:=[]) ?_ ?_;exact(Qk (dE hr (dv 3) dq) (So (Qm (Qr (Dk Qa (Db (Qb Qg (dx 7) (dr (QiI (dv 6)))) (dn 9 Dz))) lz3))) Sn);refine Ss (O1:=[]) ?_ ?_;exact(Qk (dE hr (dv 3) dq) (So (Qm (Qr (Dk Qa (Db (Qb Qg (dx 7) (dr (QiI (dv 6)))) (Db (Qb Jm (dv 5) dq) (dn 9 Dz)))) lz4))) Sn);refine Ss (O1:=[]) ?_ ?_;refine Qk ?_ ?_ ?_;exact(dE hr (dv 3) dq);refine So ?_;refine Qm ?_;refine Qr ?_ ?_;refine Dk ?_ ?_;exact Qa;refine QaP ?_ ?_;refine JZ ?_;refine JT rfl rfl (QX (show Js (Qc QcB) Qew _ 1 ["_law_j","_law_text","_law_size"] [6,4]=true by decide+kernel)) (by decide) ?_ ?_ ?_ ?_;exact(dih (Yt rfl T.b_range (dv 5)));exact λ_ _ _ _ _ _=>Ql 0 (show List.Nodup (["_law_j","_law_text","_law_size"]:List Str)by decide+kernel);exact λ_ _ _ _ _ _=>Zg;exact λ_ _ _ _ _ _=>(Zc (dv 1) ZB (J3 (dr (Vm (J5 rfl) rfl T.b_max boot_max dq (dr (Qb Jm (dv 2) (dv 0)))))));exact(dn 9 Dz);exact lz3;exact Sn;refine Ss (O1:=[]) ?_ ?_;exact(Qk (dE hr (dv 3) dq) (So (Qm (Qr (Dk Qa (Dl (dc bA hr (dn 0 (dn 2 Dz))) (dn 9 Dz))) lz3))) Sn);refine Ss (O1:=[]) ?_ ?_;exact(Qk (dE hr (dv 3) dq) (So (Qm (Qr (Dk Qa (Dk Qa (Dk Qa Dz))) lz3))) Sn);refine Ss (O1:=[]) ?_ ?_;exact(Qk (Jj QaR (dv 3) dq (QS _)) (So (Qm (Qr (Dk Qa (dn 8 Dz)) lz2))) Sn);refine Ss (O1:=[]) ?_ ?_;exact(Qk (dE hr (dv 3) dq) (So (Qm (Qr (Dk Qa (Du (Zc (dr (Qb Jf (dv 7) dq)) ZB (J3 (dr (Qb Qg dq (dr (Qb Qu (dr (Qb QR (dv 2) dq)) dq)))))) Dz)) lz2))) Sn);refine Ss (O1:=[]) ?_ ?_;refine Qk ?_ ?_ ?_;exact(Jj QaR (dv 3) dq (QS _));refine So ?_;refine Qm ?_;refine Qr ?_ ?_;refine Dk ?_ ?_;exact Qa;exact(Dk Qa (Du (Zc (dv 7) ZB (J3 (dr (Qb Qu (dr (Qb QR (dv 2) dq)) dq)))) (Dl (dc a9 hr (Db (Qb QR (dv 2) dq) (Db (Qb Qu (dr (Qb QR (dv 2) dq)) dq) (Dk QH Dz)))) Dz)));exact lz4;exact Sn;refine Ss (O1:=[]) ?_ ?_;refine Qk ?_ ?_ ?_;exact(dE hr (dv 3) dq);refine So ?_;refine Qm ?_;refine Qr ?_ ?_;refine Dk ?_ ?_;exact Qa;refine Qbm ?_ ?_;exact Qs 7;refine QaP ?_ ?_;refine JZ ?_;refine JT rfl rfl (QX (show Js (Qc QcB) Qew _ 1 ["_law_j","_law_text"] [6]=true by decide+kernel)) (by decide) ?_ ?_ ?_ ?_;exact(dih (Yt rfl T.b_range (dv 5)));exact λ_ _ _ _ _ _=>Ql 0 (show List.Nodup (["_law_j","_law_text"]:List Str)by decide+kernel);exact λ_ _ _ _ _ _=>Zg;exact λ_ _ _ _ _ _=>(Zc (dv 1) (J3 (dv 0)) ZB);exact Dz;exact lz3;exact Sn;refine So ?_;refine Qm ?_;refine Qr ?_ ?_;refine Dk ?_ ?_;exact Qa;refine Qbm ?_ ?_;exact Qs 7;refine JS ?_ ?_;exact(Qq Dz lz0);exact Dz;exact lz3))
theorem QjE:FnScope QfH V1 (Qc Qdk):=by constructor<;>first|rfl|decide+kernel
theorem QjP(h:Df K mg "_law_pointed" Qdk V1)(T:Txt K mg)(av:Qcz P w K mg ae):QfM P w K mg ae:=okD QfH V1 Qdu 1 h QjE (λnd=>λhr=>(by refine Ss (O1:=[2]) ?_ ?_;exact(JR 2 nd (Vx Dz lz0));refine Ss (O1:=[2]) ?_ ?_;refine Jr rfl PassesOwn.never ?_ ?_ ?_;exact(Ja (Qs 0));exact Ql 3 nd;refine So ?_;refine Qk ?_ ?_ ?_;exact(dE hr (dx 3) (dr Qa));exact(So (Zs 2 (by decide) (dy 3)));refine So ?_;exact(Qk (PW.pt (ZH (Jj Qd3 (dx 3) (dr (Qq (Dk Qa (Dk Qa (Dk Qa (Dk Qa Dz)))) lz4)) (by with_unfolding_all rfl)) (Q8 (dF hr (dr (QI (dv 3) (dr (Qbw dq)))) (dr Qa))))) (So (Zs 2 (by decide) (QI (dv 3) (dr (Qbw dq))))) Sn);refine Ss (O1:=[2,4]) ?_ ?_;exact(JR 4 nd (Vx Dz lz0));refine Ss (O1:=[2,4]) ?_ ?_;refine Jr rfl PassesOwn.never ?_ ?_ ?_;exact(Qes rfl T.b_enumerate (Qs 0));exact(Vw rfl (QV (O1:=[2,4]) (Ql 5 nd) (QV (O1:=[2,4]) (Ql 3 nd) YM)) rfl);refine So ?_;refine Qk ?_ ?_ ?_;exact(PW.pt (ZH (dE hr (dx 3) (dr Qa)) (Q8 (dE hr (Jk 2) (dr (Qq Dz lz0))))));refine So ?_;refine Zs 4 (by decide) ?_;refine Qr ?_ ?_;refine Dk ?_ ?_;exact Qa;refine Dk ?_ ?_;exact Qa;refine JS ?_ ?_;exact(Qq Dz lz0);exact Dz;exact lz3;refine So ?_;refine Qk ?_ ?_ ?_;exact(dE hr (dx 3) (dr Qa));exact(Ss (O1:=[2,4]) (Qo 6 nd (QI (Jk 2) (dr (Qb Qu (dr (dc av hr (Du (QI (dv 1) (dv 5)) (Db (Qb Qg (dv 5) dq) Dz)))) (dr (QK Qw rfl T.b_len boot_len (Jk 2))))))) (So (Zs 4 (by decide) (Qr (Dk Qa (dn 6 (Du (dy 3) (Du (dy 3) Dz)))) lz4))));exact(So (Zs 4 (by decide) (Qs 3)));exact(YL 4 (So (Qm (Qs 4))))))
theorem QjF:FnScope QfI V2 (Qc Qdl):=by constructor<;>first|rfl|decide+kernel
theorem QjQ(h:Df K mg "_law_grouped" Qdl V2)(T:Txt K mg):QfN P w K mg ae:=okD QfI V2 Qdv 0 h QjF (λnd=>λhr=>(by refine Ss (O1:=[1]) ?_ ?_;exact(JR 1 nd (Vx Dz lz0));refine Ss (O1:=[1,2]) ?_ ?_;exact(JR 2 nd (Vx Dz lz0));refine Ss (O1:=[1,2]) ?_ ?_;refine Jr rfl PassesOwn.never ?_ ?_ ?_;refine Ja ?_;refine Qb Qg ?_ ?_;exact(dv 0);refine dr ?_;refine Qq ?_ ?_;refine Dt ?_ ?_;exact(Qr (Dk Qa (Dk Qa (Dk Qa Dz))) lz3);exact Dz;exact lz1;exact Ql 3 nd;refine Ss (O1:=[1,2]) ?_ ?_;exact(Qk (Jj QdQ (dx 3) (dr (Qq (Dk Qa (Dk Qa (Dk Qa (Dk Qa Dz)))) lz4)) (by with_unfolding_all rfl)) (Ss (O1:=[1,2]) (Zs 2 (by decide) (Qs 3)) (So QqV)) Sn);refine Ss (O1:=[1,2]) ?_ ?_;refine Qk ?_ ?_ ?_;exact(PW.pt (ZH (dF hr (Jk 2) (dr (Qq Dz lz0))) (Q8 (Jj QdQ (dr (QI (dr (QI (Jk 2) (dr (Qbw dq)))) dq)) (dr (Qq (Dk Qa (Dk Qa Dz)) lz2)) (by with_unfolding_all rfl)))));refine So ?_;refine Zs 2 (by decide) ?_;refine Qr ?_ ?_;refine Dk ?_ ?_;exact Qa;refine Dk ?_ ?_;exact Qa;refine JS ?_ ?_;exact(Qq Dz lz0);exact Dz;exact lz3;exact Sn;exact(Ss (O1:=[1]) (Qk (PW.pt (Z7 (dF hr (Jk 2) (dr (Qq Dz lz0))) (Q8 (dE hr (dx 3) (dr Qa))))) (YL 2 (So (Zs 1 (by decide) (Qr (Dk Qa (dn 2 Dz)) lz2)))) (QiF 2 [1,2] Sn)) (Ss (O1:=[1,2]) (JR 2 nd (Vx Dz lz0)) (So (Qk (Jj Qd3 (dx 3) (dr (Qq (Dk Qa (Dk Qa Dz)) lz2)) (by with_unfolding_all rfl)) (So (Zs 1 (by decide) (Qs 3))) Sn))));exact(YL 1 (So (Qm (Qs 1))))))
theorem Qoo:FnScope QgE QcI (Qc Qem):=by constructor<;>first|rfl|decide+kernel
theorem QoH(h:Df K mg "_law_edge" Qem QcI)(T:Txt K mg)(ah:Qbh P w K mg ae)(av:Qcz P w K mg ae):QkP P w K mg ae:=okD QgE QcI Qgx 1 h Qoo (λnd=>λhr=>(by refine Ss (O1:=[]) ?_ ?_;exact(Qk (PW.pt (Z7 (Je (dx 1)) (Q8 (dF hr (dr (Qb Qu (dr (dc ah hr (dn 0 (Dk QH Dz)))) dq)) dq)))) (So (Qm (Qq Dz lz0))) Sn);refine Ss (O1:=[]) ?_ ?_;exact(Qo 2 nd (Qb Qg dq (dr (Qb Qu (dr (dc av hr (Dl (dc ah hr (dn 0 (Dk QH Dz))) (Dk QH Dz)))) dq))));refine Ss (O1:=[]) ?_ ?_;exact(Qo 3 nd QH);refine Ss (O1:=[]) ?_ ?_;exact(Jr rfl PassesOwn.never (Yt rfl T.b_range (dv 2)) (Ql 4 nd) (So (Qo 3 nd (Qb Jf (dv 3) dq))));refine Ss (O1:=[]) ?_ ?_;refine Qo 5 nd ?_;refine Qq ?_ ?_;refine Dt ?_ ?_;refine Qr ?_ ?_;refine Dk ?_ ?_;exact Qa;refine Db ?_ ?_;exact(Qb Jf (dr Qa) (dr (Vm (J5 rfl) rfl T.b_max boot_max dq (dr (Qb Jm (dr (Qb Jm (dx 1) dq)) (dv 2))))));refine JS ?_ ?_;exact(Qq Dz lz0);exact Dz;exact lz3;refine Dt ?_ ?_;exact(Qr (Dk Qa (Dk Qa Dz)) lz2);refine Dt ?_ ?_;exact(Qr (Dk Qa (Dk Qa (Dk Qa (Dk Qa Dz)))) lz4);exact Dz;exact lz3;refine So ?_;refine Qm ?_;refine Qq ?_ ?_;refine Dt ?_ ?_;exact(Qr (Dk Qa (Db (Qb Jm (dv 3) dq) (Dk Qa Dz))) lz3);refine Dt ?_ ?_;refine Qr ?_ ?_;refine Dk ?_ ?_;exact Qa;refine QaP ?_ ?_;refine JZ ?_;refine JT rfl rfl (QX (show Js (Qc Qem) QgE _ 1 ["_law_k"] []=true by decide+kernel)) (by decide) ?_ ?_ ?_ ?_;exact(dih (Yt rfl T.b_range (dr (Qb Jm (dx 1) dq))));exact λ_ _ _ _ _ _=>Ql 0 (show List.Nodup (["_law_k"]:List Str)by decide+kernel);exact λ_ _ _ _ _ _=>Zg;exact λ_ _ _ _ _ _=>Qa;exact(Dk Qa Dz);exact lz3;refine Dt ?_ ?_;exact(Qr (Dk Qa (dn 5 Dz)) lz2);exact Dz;exact lz3))
theorem QmR:FnScope Vc QbF (Qc YB):=by constructor<;>first|rfl|decide+kernel
theorem Qm5(h:Df K mg "_law_needs" YB QbF)(T:Txt K mg):Qi0 P w K mg ae:=okD Vc QbF QeZ 0 h QmR (λnd=>λhr=>(by refine Ss (O1:=[]) ?_ ?_;exact(Qo 2 nd QH);refine Ss (O1:=[]) ?_ ?_;exact(Qo 3 nd QH);refine Ss (O1:=[]) ?_ ?_;refine Jr rfl PassesOwn.never ?_ ?_ ?_;exact(Ja (Qs 0));exact Ql 4 nd;refine Ss (O1:=[]) ?_ ?_;exact(Qk (PW.pt (Z7 (dE hr (dx 4) (dr Qa)) (Q8 (dE hr (dx 4) (dr Qa))))) (So (Qo 2 nd (Vm (J5 rfl) rfl T.b_max boot_max (dv 2) (dr (Qb Qg (dr (Qb Qg (dr (QK Qw rfl T.b_len boot_len (dx 4))) dq)) (dv 1)))))) Sn);refine Ss (O1:=[]) ?_ ?_;exact(Qk (dE hr (dx 4) (dr Qa)) (So (Qo 3 nd (Vm (J5 rfl) rfl T.b_max boot_max (dv 3) (dr (Qb Qg (dx 4) dq))))) Sn);refine Ss (O1:=[]) ?_ ?_;refine Qk ?_ ?_ ?_;exact(dE hr (dx 4) (dr Qa));refine Ss (O1:=[]) ?_ ?_;exact(Qo 3 nd (Vm (J5 rfl) rfl T.b_max boot_max (dv 3) (dr (QK Qw rfl T.b_len boot_len (dx 4)))));refine So ?_;refine Qo 2 nd ?_;refine QK (Ve rfl) rfl T.b_max boot_max ?_;refine dr ?_;refine Qb Qg ?_ ?_;exact(dr (Qq (dn 2 Dz) lz1));refine dr ?_;refine JZ ?_;refine JT rfl rfl (QX (show Js (Qc YB) Vc _ 1 ["_law_row"] []=true by decide+kernel)) (by decide) ?_ ?_ ?_ ?_;exact(dih (Ja (dy 4)));exact λ_ _ _ _ _ _=>Ql 0 (show List.Nodup (["_law_row"]:List Str)by decide+kernel);exact λ_ _ _ _ _ _=>Zg;exact λ_ _ _ _ _ _=>(QK Qw rfl T.b_len boot_len (dv 0));exact Sn;refine So ?_;refine Qk ?_ ?_ ?_;exact(dE hr (dx 4) (dr Qa));refine Ss (O1:=[]) ?_ ?_;refine Qo 2 nd ?_;refine QK (Ve rfl) rfl T.b_max boot_max ?_;refine dr ?_;refine Qb Qg ?_ ?_;exact(dr (Qq (dn 2 Dz) lz1));refine dr ?_;refine JZ ?_;refine JT rfl rfl (QX (show Js (Qc YB) Vc _ 1 ["_law_item","_law_room"] [1]=true by decide+kernel)) (by decide) ?_ ?_ ?_ ?_;exact(dih (Ja (dy 4)));exact λ_ _ _ _ _ _=>Ql 0 (show List.Nodup (["_law_item","_law_room"]:List Str)by decide+kernel);exact λ_ _ _ _ _ _=>(Vp (dE hr (dx 0) (dr Qa)));exact λ_ _ _ _ _ _=>(Qb Qg (dr (Qb Qg (dr (QK Qw rfl T.b_len boot_len (dx 0))) (dv 1))) (dr (QK Qw rfl T.b_len boot_len (dx 0))));refine Ss (O1:=[]) ?_ ?_;refine Qo 2 nd ?_;refine QK (Ve rfl) rfl T.b_max boot_max ?_;refine dr ?_;refine Qb Qg ?_ ?_;exact(dr (Qq (dn 2 Dz) lz1));refine dr ?_;refine JZ ?_;refine JT rfl rfl (QX (show Js (Qc YB) Vc _ 1 ["_law_item"] []=true by decide+kernel)) (by decide) ?_ ?_ ?_ ?_;exact(dih (Ja (dy 4)));exact λ_ _ _ _ _ _=>Ql 0 (show List.Nodup (["_law_item"]:List Str)by decide+kernel);exact λ_ _ _ _ _ _=>(Vp (dE hr (dx 0) (dr Qa)));exact λ_ _ _ _ _ _=>(QK Qw rfl T.b_len boot_len (dx 0));refine Ss (O1:=[5]) ?_ ?_;refine V5 5 nd rfl rfl (QX (show Js (Qc YB) Vc _ 1 ["_law_item"] []=true by decide+kernel)) (by decide) ?_ ?_ ?_ ?_;exact(dih (Ja (dy 4)));exact λ_ _ _ _ _ _=>Ql 0 (show List.Nodup (["_law_item"]:List Str)by decide+kernel);exact λ_ _ _ _ _ _=>(Vp (dE hr (dx 0) (dr Qa)));exact λ_ _ _ _ _ _=>(dy 0);refine Ss (O1:=[5]) ?_ ?_;refine Qo 3 nd ?_;refine QK (Ve rfl) rfl T.b_max boot_max ?_;refine dr ?_;refine Qb Qg ?_ ?_;exact(dr (Qq (dn 3 Dz) lz1));refine dr ?_;refine JZ ?_;refine JT rfl rfl (QX (show Js (Qc YB) Vc _ 1 ["_law_rows"] []=true by decide+kernel)) (by decide) ?_ ?_ ?_ ?_;exact QsF 5;exact λ_ _ _ _ _ _=>Ql 0 (show List.Nodup (["_law_rows"]:List Str)by decide+kernel);exact λ_ _ _ _ _ _=>Zg;exact λ_ _ _ _ _ _=>(Qb Qg dq (dr (QK Qw rfl T.b_len boot_len (dv 0))));refine YL 5 ?_;refine So ?_;refine Jr rfl PassesOwn.never ?_ ?_ ?_;exact(Ja (Qs 5));exact Ql 6 nd;refine So ?_;refine Qo 2 nd ?_;refine QK (Ve rfl) rfl T.b_max boot_max ?_;refine dr ?_;refine Qb Qg ?_ ?_;exact(dr (Qq (dn 2 Dz) lz1));refine dr ?_;refine JZ ?_;refine JT rfl rfl (QX (show Js (Qc YB) Vc _ 1 ["_law_row"] []=true by decide+kernel)) (by decide) ?_ ?_ ?_ ?_;exact(dih (Ja (Qs 6)));exact λ_ _ _ _ _ _=>Ql 0 (show List.Nodup (["_law_row"]:List Str)by decide+kernel);exact λ_ _ _ _ _ _=>Zg;exact λ_ _ _ _ _ _=>(QK Qw rfl T.b_len boot_len (dv 0));exact Sn;exact(So (Qm (Qr (dn 2 (dn 3 Dz)) lz2)))))
theorem Qok:FnScope QgD QcF (Qc Qel):=by constructor<;>first|rfl|decide+kernel
theorem QoD(h:Df K mg "_law_most" Qel QcF)(T:Txt K mg):Qex P w K mg ae:=okD QgD QcF Qgu 0 h Qok (λnd=>λhr=>(by refine Ss (O1:=[]) ?_ ?_;exact(Qo 2 nd QH);refine Ss (O1:=[]) ?_ ?_;refine Jr rfl PassesOwn.never ?_ ?_ ?_;exact(Ja (Qs 0));exact Ql 3 nd;refine Ss (O1:=[]) ?_ ?_;exact(Qo 2 nd (Qb Qg (dv 2) dq));refine Ss (O1:=[]) ?_ ?_;exact(Qk (PW.pt (ZH (Je (dv 1)) (Q8 (PW.pt (Z7 (dE hr (dx 3) (dr Qa)) (Q8 (dE hr (dx 3) (dr Qa)))))))) (So (Qo 2 nd (Qb Qg (dv 2) dq))) Sn);refine Ss (O1:=[]) ?_ ?_;exact(Qk (dE hr (dx 3) (dr Qa)) (So (Qo 2 nd (Qb Qg (dv 2) (dx 3)))) Sn);refine So ?_;refine Qk ?_ ?_ ?_;exact(dE hr (dx 3) (dr Qa));refine So ?_;refine Qo 2 nd ?_;refine Qb Qg ?_ ?_;exact(dv 2);refine dr ?_;refine Qb Jf ?_ ?_;exact dq;refine dr ?_;refine QK Qw rfl T.b_len boot_len ?_;refine dr ?_;refine JZ ?_;refine JT rfl rfl (QX (show Js (Qc Qel) QgD _ 1 ["_law_item"] []=true by decide+kernel)) (by decide) ?_ ?_ ?_ ?_;exact(dih (Ja (dy 3)));exact λ_ _ _ _ _ _=>Ql 0 (show List.Nodup (["_law_item"]:List Str)by decide+kernel);exact λ_ _ _ _ _ _=>(Vp (PW.pt (Z7 (dE hr (dx 0) (dr Qa)) (Q8 (dE hr (dx 0) (dr Qa))))));exact λ_ _ _ _ _ _=>Qs 0;exact Sn;exact(So (Qm (Qs 2)))))
theorem QmT:FnScope Qdf QbH (Qc QbA):=by constructor<;>first|rfl|decide+kernel
theorem Qm7(h:Df K mg "_law_drawn" QbA QbH)(T:Txt K mg)(bX:QkS P w K mg ae)(ah:Qbh P w K mg ae)(bE:QkP P w K mg ae)(bo:QfN P w K mg ae)(av:Qcz P w K mg ae)(aI:Qex P w K mg ae)(bI:Qi0 P w K mg ae)(bj:QfM P w K mg ae):Qi2 P w K mg ae:=okD Qdf QbH Qe0 2 h QmT (λnd=>λhr=>(by refine Ss (O1:=[]) ?_ ?_;exact(Qo 1 nd (Qb Qg (dr (Zc (dv 0) ZB (J3 dq))) (dr (Qq (Dk QH Dz) lz1))));refine Ss (O1:=[2]) ?_ ?_;refine V5 2 nd rfl rfl (QX (show Js (Qc QbA) Qdf _ 1 ["_law_k","_law_every"] [1]=true by decide+kernel)) (by decide) ?_ ?_ ?_ ?_;exact(dih (Yt rfl T.b_range (dr (Qb Qu (dr (dc av hr (Dl (dc ah hr (dn 0 (Dk QH Dz))) (Dk QH Dz)))) dq))));exact λ_ _ _ _ _ _=>Ql 0 (show List.Nodup (["_law_k","_law_every"]:List Str)by decide+kernel);exact λ_ _ _ _ _ _=>Zg;exact λ_ _ _ _ _ _=>(QI (dv 1) (dr (Qb Qu (dv 0) (dr (QK Qw rfl T.b_len boot_len (dv 1))))));refine YL 2 ?_;refine Ss (O1:=[]) ?_ ?_;refine Qo 3 nd ?_;refine dc bo hr ?_;refine Dl ?_ ?_;refine dc bj hr ?_;refine QaP ?_ ?_;refine JZ ?_;refine JT rfl rfl (QX (show Js (Qc QbA) Qdf _ 2 ["_law_k","_law_cell"] []=true by decide+kernel)) (by decide) ?_ ?_ ?_ ?_;exact(dih (Qes rfl T.b_enumerate (Qs 2)));exact λ_ _ _ _ _ _=>(Vw rfl (QV (O1:=[]) (Ql 0 (show List.Nodup (["_law_k","_law_cell"]:List Str)by decide+kernel)) (QV (O1:=[]) (Ql 1 (show List.Nodup (["_law_k","_law_cell"]:List Str)by decide+kernel)) YM)) rfl);exact λ_ _ _ _ _ _=>Zg;exact λ_ _ _ _ _ _=>(dc bX hr (dn 1 (dn 0 Dz)));exact(dn 2 Dz);exact Dz;refine Ss (O1:=[]) ?_ ?_;exact(Qo 4 nd (Zb (Vu hr.units) (dr (Qb Qu (dr (dc ah hr (dn 0 (Dk QH Dz)))) dq)) dq (QS _)));refine Ss (O1:=[]) ?_ ?_;refine Qo 5 nd ?_;refine dc bE hr ?_;refine Qbm ?_ ?_;exact Qs 0;refine Dt ?_ ?_;exact(Qr (Dk QH (Dk QH (Dk Qc4 (dn 4 Dz)))) lz4);exact Dz;refine Ss (O1:=[]) ?_ ?_;exact(Qo 6 nd (QK Qw rfl T.b_len boot_len (dr (VX Qb7 rfl T.b_str boot_str (dr (dc aI hr (Db (Qb Qg (dv 5) (dv 3)) (dn 4 Dz))))))));refine Ss (O1:=[]) ?_ ?_;exact(Qcx (dc bI hr (Db (Qb Qg (dv 3) (dv 5)) (dn 6 Dz))) (Vw rfl (QV (O1:=[]) (Ql 7 nd) (QV (O1:=[]) (Ql 8 nd) YM)) rfl));refine Ss (O1:=[]) ?_ ?_;exact(Qo 7 nd (Vm (J5 rfl) rfl T.b_max boot_max (dv 7) (dr (Qb Jf (dr (Qb Qg (dv 6) dq)) (dr (VX Qa0 rfl T.b_int boot_int (dr (Zb (Qme hr.units) (dv 5) (dr (Qq Dz lz0)) (QS _)))))))));refine Ss (O1:=[]) ?_ ?_;exact(Qo 9 nd (Vm (J5 rfl) rfl T.b_max boot_max (dv 7) (dr (Qb Qg dq (dr (Qb Qu (dr (dc av hr (Dl (dc ah hr (dn 0 (Dk QH Dz))) (Dk QH Dz)))) dq))))));refine Ss (O1:=[]) ?_ ?_;exact(Qo 10 nd (Vm (J5 rfl) rfl T.b_max boot_max (dv 8) (dr (Qb Qg dq (dr (Qb Qu (dr (dc av hr (Dl (dc ah hr (dn 0 (Dk QH Dz))) (Dk QH Dz)))) dq))))));refine Ss (O1:=[]) ?_ ?_;exact(Qk (dE hr (dr (Qb Qu (dr (dc ah hr (dn 0 (Dk QH Dz)))) dq)) dq) (So (Qo 10 nd (Vm (J5 rfl) rfl T.b_max boot_max (dv 8) (dr (Qb Qg dq (dr (Qb Qu (dr (dc av hr (Dl (dc ah hr (dn 0 (Dk QH Dz))) (Dk QH Dz)))) dq))))))) Sn);exact(Ss (O1:=[]) (Qo 11 nd (Qr (dn 9 (dn 10 (QlJ (Zb (Vu hr.units) (dr (Qb Qu (dr (dc ah hr (dn 0 (Dk QH Dz)))) dq)) dq (QS _)) (dn 4 Dz)))) lz4)) (So (Qm (Qr (Db (Qb Qg (dr (dc bE hr (dn 0 (dn 11 Dz)))) (dv 3)) (dn 11 (dn 6 Dz))) lz3))))))
theorem Qop:FnScope QkL QcJ (Qc Qgk):=by constructor<;>first|rfl|decide+kernel
theorem QoI(h:Df K mg "_law_copy" Qgk QcJ)(T:Txt K mg):QkQ P w K mg ae:=okD QkL QcJ Qgy 0 h Qop (λnd=>λhr=>(by refine Ss (O1:=[1]) ?_ ?_;exact(JR 1 nd (Vx Dz lz0));refine Ss (O1:=[1]) ?_ ?_;refine Jr rfl PassesOwn.never ?_ ?_ ?_;exact(Ja (Qs 0));exact Ql 2 nd;refine So ?_;refine Qk ?_ ?_ ?_;exact(dE hr (dx 2) (dr Qa));refine Ss (O1:=[1,3]) ?_ ?_;exact(JR 3 nd (Vx Dz lz0));refine Ss (O1:=[1,3]) ?_ ?_;exact(Jr rfl PassesOwn.never (Ja (dy 2)) (Ql 4 nd) (So (Qk (dE hr (dx 4) (dr Qa)) (So (Zs 3 (by decide) (Qr (Dk Qa (Du (dy 4) (Dl (JZ (QkB rfl T.b_list boot_list (dx 4))) Dz))) lz3))) (So (Zs 3 (by decide) (Qs 4))))));exact(YL 3 (So (Zs 1 (by decide) (Qr (Dk Qa (dn 3 Dz)) lz2))));exact(So (Qk (dE hr (dx 2) (dr Qa)) (So (Zs 1 (by decide) (Qr (Dk Qa (Dl (JZ (QkB rfl T.b_list boot_list (dx 2))) (Du (dy 2) Dz))) lz3))) (So (Zs 1 (by decide) (Qs 2)))));exact(YL 1 (So (Qm (Qs 1))))))
theorem Qom:FnScope Qan Qan (Qc Qgi):=by constructor<;>first|rfl|decide+kernel
theorem QoF(h:Df K mg "_law_long" Qgi Qan)(T:Txt K mg):QkN P w K mg ae:=okD Qan Qan Qgw 0 h Qom λnd=>λhr=>So (Qm (Qb Jf (dr Qa) (dr (Vm (J5 rfl) rfl T.b_max boot_max dq (dr (Vm (QnJ rfl) rfl T.b_min boot_min (dv 0) dq))))))
theorem QmP:FnScope QiV QbD (Qc QeJ):=by constructor<;>first|rfl|decide+kernel
theorem Qm3(h:Df K mg "_law_taken" QeJ QbD)(T:Txt K mg):QiY P w K mg ae:=okD QiV QbD QiS 0 h QmP λnd=>λhr=>by refine Ss (O1:=[]) ? _ ? _;refine Jr rfl PassesOwn.never ? _ ? _ ? _;exact Ja (Qs 0);exact Ql 1 nd;exact Ss (O1:=[]) (Qk (PW.pt (ZH (dF hr (dx 1) (dr Qa)) (Q8 (dF hr (dr (QI (dv 1) (dr (Qbw dq)))) (dr Qa))))) (So (Qm (QI (dv 1) (dr (Qbw dq))))) Sn) (So (Qk (dE hr (dx 1) (dr Qa)) (So (Jr rfl PassesOwn.never (Ja (dy 1)) (Ql 2 nd) (So (Qk (dE hr (dx 2) (dr Qa)) (So (Qm (dy 2))) Sn)))) Sn));exact So (Qm Qa)
theorem Qol:FnScope QkJ QcG (Qc Qgh):=by constructor<;>first|rfl|decide+kernel
theorem QoE(h:Df K mg "_law_more" Qgh QcG)(T:Txt K mg)(aD:QkN P w K mg ae):QkM P w K mg ae:=okD QkJ QcG Qgv 1 h Qol (λnd=>λhr=>(by refine Ss (O1:=[]) ?_ ?_;exact(Qcx (Qs 0) (Vw rfl (QV (O1:=[]) (Ql 5 nd) (QV (O1:=[]) (Ql 6 nd) (QV (O1:=[]) (Ql 7 nd) (QV (O1:=[]) (Ql 8 nd) YM)))) rfl));refine Ss (O1:=[]) ?_ ?_;exact(Qo 9 nd (Qb Qu (dv 3) dq));refine Ss (O1:=[]) ?_ ?_;exact(Qo 10 nd (QI (dr (Qq (Dk Qa (dn 4 Dz)) lz2)) (dr (Qb Qu (dr (Qb QR (dv 3) dq)) dq))));refine Ss (O1:=[]) ?_ ?_;refine Qk ?_ ?_ ?_;exact(dE hr (dv 2) dq);refine Ss (O1:=[]) ?_ ?_;exact(Qo 11 nd (dc aD hr (Dl (Vm (J5 rfl) rfl T.b_max boot_max dq (dr (Qb Qg (dr (Qb Jm (dv 5) (dr (Qb Jf (dr (VX Qa0 rfl T.b_int boot_int (dv 8))) (dr (Qb Qg dq (dv 1))))))) (dv 9)))) Dz)));refine So ?_;refine Qm ?_;refine QI ?_ ?_;refine dr ?_;refine Qq ?_ ?_;refine Dt ?_ ?_;exact(Qr (Dk Qa (dn 11 (dn 10 Dz))) lz3);refine Dt ?_ ?_;exact(Qr (Dk Qa (dn 11 (Dk QH (dn 10 Dz)))) lz4);exact Dz;exact lz2;exact(dr (Qb Qu (dr (Qb QR (dv 3) dq)) dq));exact Sn;refine Ss (O1:=[]) ?_ ?_;exact(Qk (dE hr (dv 2) dq) (So (Qm (Qr (Dk Qa (Dk Qa (Db (Qb Qg (dr (Qb Jm (dv 6) dq)) (dv 9)) (dn 10 Dz)))) lz4))) Sn);refine Ss (O1:=[]) ?_ ?_;refine Qk ?_ ?_ ?_;exact(dE hr (dv 2) dq);refine So ?_;refine Qm ?_;refine Qr ?_ ?_;exact(Dk Qa (Db (Qb Qg (dr (Qb Jf (dr (Qq (Dk Qa Dz) lz1)) (dr (Qb Qg (dr (Qb Jm (dv 6) dq)) (dv 9))))) (dr (Qq (Dl (dc aD hr (Db (Qb Qu (dr (Qb QR (dv 3) dq)) dq) Dz)) Dz) lz1))) (dn 10 Dz)));exact lz3;exact Sn;refine Ss (O1:=[]) ?_ ?_;refine Qk ?_ ?_ ?_;exact(dE hr (dv 2) dq);refine Ss (O1:=[]) ?_ ?_;refine Qo 12 nd ?_;refine QI ?_ ?_;refine dr ?_;refine Qq ?_ ?_;refine JS ?_ ?_;exact(Qq Dz lz0);refine JS ?_ ?_;exact(Qq (Dk Qa (Dl (dc aD hr (Db (Qb Qg (dv 5) (dv 9)) Dz)) Dz)) lz2);exact Dz;exact lz2;exact(dr (Qb Qu (dr (Qb QR (dv 3) dq)) dq));refine Ss (O1:=[]) ?_ ?_;exact(Qo 13 nd (QI (dr (Qq (Dl (dc aD hr (Db (Qb Qg (dv 5) (dv 9)) Dz)) (Dk Qa Dz)) lz2)) (dr (Qb Qu (dr (Qb QR (dv 3) dq)) dq))));refine So ?_;refine Qm ?_;refine Qr ?_ ?_;refine Dk ?_ ?_;exact Qa;refine JS ?_ ?_;refine Qq ?_ ?_;refine Dt ?_ ?_;exact(Qr (Dk Qa (dn 13 (dn 12 Dz))) lz3);exact Dz;exact lz1;exact Dz;exact lz2;exact Sn;refine Ss (O1:=[]) ?_ ?_;refine Qk ?_ ?_ ?_;exact(dE hr (dv 2) dq);refine So ?_;refine Qm ?_;refine Qr ?_ ?_;refine Dk ?_ ?_;exact Qa;refine JS ?_ ?_;refine Qq ?_ ?_;refine Dt ?_ ?_;exact(Qr (Dk Qa (Dk Qa (Db (Qb Qg (dr (Qb Jf (dr (Qq (Dk Qa Dz) lz1)) (dr (Qb Qg (dr (Qb Jm (dv 6) dq)) (dv 9))))) (dr (Qq (Dk Qa Dz) lz1))) Dz))) lz3);exact Dz;exact lz1;exact Dz;exact lz2;exact Sn;refine Ss (O1:=[]) ?_ ?_;refine Qk ?_ ?_ ?_;exact(dE hr (dv 2) dq);refine Ss (O1:=[]) ?_ ?_;exact(Qo 14 nd (dc aD hr (Db (Qb Qu (dr (Qb QR (dv 3) dq)) (dr (Vm (J5 rfl) rfl T.b_max boot_max dq (dr (Qb Jm (dv 5) (dv 1)))))) Dz)));refine So ?_;refine Qm ?_;refine Qr ?_ ?_;refine Dk ?_ ?_;exact Qa;refine JS ?_ ?_;refine Qq ?_ ?_;refine Dt ?_ ?_;exact(Qr (Dk Qa (Dk Qa Dz)) lz2);refine Dt ?_ ?_;exact(Qr (Dk Qa (Dk Qa (dn 14 (Dl (dc aD hr (Db (Qb Qg (dr (Qb Jm (dr (Qb Jm (dv 5) (dv 1))) (dr (QK Qw rfl T.b_len boot_len (dv 14))))) (dv 9)) Dz)) Dz)))) lz4);exact Dz;exact lz2;exact Dz;exact lz2;exact Sn;refine Ss (O1:=[]) ?_ ?_;refine Qk ?_ ?_ ?_;exact(dE hr (dv 2) dq);refine So ?_;refine Qm ?_;refine Qr ?_ ?_;refine Dk ?_ ?_;exact Qa;refine JS ?_ ?_;exact(Qq (Dk Qa (Dl (dc aD hr (Db (Qb Qg (dv 5) (dv 9)) Dz)) Dz)) lz2);exact(Dk Qa Dz);exact lz3;exact Sn;refine Ss (O1:=[]) ?_ ?_;refine Qk ?_ ?_ ?_;exact(dE hr (dv 2) dq);refine So ?_;refine Qm ?_;refine Qr ?_ ?_;refine Dk ?_ ?_;exact Qa;refine JS ?_ ?_;refine Qq ?_ ?_;refine Dt ?_ ?_;refine Qr ?_ ?_;refine Dk ?_ ?_;exact Qa;refine Dk ?_ ?_;exact Qa;refine JS ?_ ?_;exact(Qq Dz lz0);exact Dz;exact lz3;refine Du ?_ ?_;refine QI ?_ ?_;refine dr ?_;refine Qq ?_ ?_;refine Dt ?_ ?_;exact(Qr (Dk Qa (Dk Qa Dz)) lz2);refine Dt ?_ ?_;exact(Qr (Dk Qa (Dk Qa Dz)) lz2);refine Dt ?_ ?_;exact(Qr (Dk Qa (dn 4 Dz)) lz2);exact Dz;exact lz3;exact(dr (Qb Qu (dr (Qb QR (dv 3) dq)) dq));exact Dz;exact lz2;exact Dz;exact lz2;exact Sn;refine So ?_;refine Qm ?_;refine Qr ?_ ?_;refine Dk ?_ ?_;exact Qa;refine JS ?_ ?_;refine Qq ?_ ?_;refine Dt ?_ ?_;exact(Qr (Dk Qa (Dl (dc aD hr (Db (Qb Qg (dv 5) (dv 9)) Dz)) Dz)) lz2);refine Dt ?_ ?_;refine Qr ?_ ?_;refine Dk ?_ ?_;exact Qa;refine Dk ?_ ?_;exact Qa;refine JS ?_ ?_;exact(Qq Dz lz0);exact Dz;exact lz3;exact Dz;exact lz2;exact Dz;exact lz2))
theorem Qoq:FnScope QgF QcK (Qc Qen):=by constructor<;>first|rfl|decide+kernel
theorem QoJ(h:Df K mg "_law_bent" Qen QcK)(T:Txt K mg)(bT:QkM P w K mg ae)(bH:QiY P w K mg ae):QkR P w K mg ae:=okD QgF QcK Qgz 2 h Qoq (λnd=>λhr=>(by refine Ss (O1:=[]) ?_ ?_;exact(Qcx (Qs 1) (Vw rfl (QV (O1:=[]) (Ql 4 nd) (QV (O1:=[]) (Ql 5 nd) (QV (O1:=[]) (Ql 6 nd) (QV (O1:=[]) (Ql 7 nd) YM)))) rfl));refine Ss (O1:=[]) ?_ ?_;exact(Qo 8 nd (Qb Qu (dx 3) dq));refine Ss (O1:=[]) ?_ ?_;exact(Qo 9 nd (Qb Qu (dx 3) (dr (Qb Qg (dr (QK Qw rfl T.b_len boot_len (dv 0))) dq))));refine Ss (O1:=[]) ?_ ?_;refine Qk ?_ ?_ ?_;exact(PW.pt (Z7 (Jj QaR (dv 8) dq (QS _)) (Q8 (dE hr (dv 8) dq))));refine So ?_;refine Qm ?_;refine Qr ?_ ?_;refine Db ?_ ?_;exact(Qb Qg (dr (Qb Qg (dr (Zc (dv 0) ZB (J3 (dv 9)))) (dr (Qq (Dl (dc bT hr (dn 1 (dn 2 (dn 8 (Du (dy 3) (Dl (dc bH hr (dn 0 Dz)) Dz)))))) Dz) lz1)))) (dr (Zc (dv 0) (J3 (dv 9)) ZB)));exact(dn 1 Dz);exact lz2;exact Sn;refine Ss (O1:=[]) ?_ ?_;refine Qk ?_ ?_ ?_;exact(dE hr (dv 8) dq);refine So ?_;refine Qm ?_;refine Qr ?_ ?_;refine Qbm ?_ ?_;exact Qs 0;refine Dt ?_ ?_;exact(Qr (Db (Qb Jm (dr (Qb Jm (dv 4) dq)) (dr (Qb Qu (dx 3) dq))) (dn 5 (dn 6 (dn 7 Dz)))) lz4);exact Dz;exact lz2;exact Sn;refine Ss (O1:=[]) ?_ ?_;refine Qk ?_ ?_ ?_;exact(dE hr (dv 8) dq);refine So ?_;refine Qm ?_;refine Qr ?_ ?_;refine Qbm ?_ ?_;exact Qs 0;refine Dt ?_ ?_;exact(Qr (dn 4 (Db (Qb Jm (dv 5) dq) (dn 6 (dn 7 Dz)))) lz4);exact Dz;exact lz2;exact Sn;refine Ss (O1:=[]) ?_ ?_;refine Qk ?_ ?_ ?_;exact(PW.pt (ZH (dE hr (dv 8) dq) (Q8 (dE hr (dr (Qb Qu (dx 3) dq)) dq))));refine So ?_;refine Qm ?_;refine Qr ?_ ?_;refine Db ?_ ?_;refine Qb Qg ?_ ?_;refine dr ?_;refine Qb Qg ?_ ?_;exact(dr (Zc (dv 0) ZB (J3 (dv 9))));refine dr ?_;refine Qq ?_ ?_;refine Dt ?_ ?_;refine Qr ?_ ?_;refine Dk ?_ ?_;exact Qa;refine JS ?_ ?_;refine Qq ?_ ?_;refine Dt ?_ ?_;exact(Qr (Dk Qa (Dk Qa (Dk Qa (Dk Qa Dz)))) lz4);exact Dz;exact lz1;exact Dz;exact lz2;exact Dz;exact lz1;exact(dr (Zc (dv 0) (J3 (dv 9)) ZB));exact(dn 1 Dz);exact lz2;exact Sn;refine Ss (O1:=[]) ?_ ?_;refine Qk ?_ ?_ ?_;exact(PW.pt (ZH (dE hr (dv 8) dq) (Q8 (Jj ZG (dr (QK Qw rfl T.b_len boot_len (dv 0))) dq (QS _)))));refine Ss (O1:=[]) ?_ ?_;exact(Qo 9 nd (Qb Qu (dv 9) (dr (QK Qw rfl T.b_len boot_len (dv 0)))));refine So ?_;refine Qm ?_;refine Qr ?_ ?_;refine Db ?_ ?_;refine Qb Qg ?_ ?_;refine dr ?_;refine Qb Qg ?_ ?_;exact(dr (Zc (dv 0) ZB (J3 (dv 9))));refine dr ?_;refine Qq ?_ ?_;refine Dt ?_ ?_;exact(Qr (Dk Qa (Dk QH (Dk Qa Dz))) lz3);refine Dt ?_ ?_;exact(Qr (Dk Qa (Dk QH (Dk Qa Dz))) lz3);exact Dz;exact lz2;exact(dr (Zc (dv 0) (J3 (dv 9)) ZB));exact(dn 1 Dz);exact lz2;exact Sn;refine Ss (O1:=[]) ?_ ?_;refine Qk ?_ ?_ ?_;exact(PW.pt (ZH (Jj QaR (dv 9) (dr (QK Qw rfl T.b_len boot_len (dv 0))) (QS _)) (Q8 (dE hr (dr (QI (dr (QI (dv 0) (dv 9))) dq)) (dr Qa)))));refine Ss (O1:=[10]) ?_ ?_;refine V5 10 nd rfl rfl (QX (show Js (Qc Qen) QgF _ 1 ["_law_item"] []=true by decide+kernel)) (by decide) ?_ ?_ ?_ ?_;exact(dih (Ja (QI (dr (QI (dv 0) (dv 9))) dq)));exact λ_ _ _ _ _ _=>Ql 0 (show List.Nodup (["_law_item"]:List Str)by decide+kernel);exact λ_ _ _ _ _ _=>(Vp (dE hr (dx 0) (dr Qa)));exact λ_ _ _ _ _ _=>Qs 0;refine So ?_;refine Qm ?_;refine Qr ?_ ?_;refine Db ?_ ?_;refine Qb Qg ?_ ?_;exact(dv 0);refine dr ?_;refine Qq ?_ ?_;refine Dt ?_ ?_;refine Qr ?_ ?_;refine Dk ?_ ?_;exact Qa;refine Db ?_ ?_;refine Qb Qg ?_ ?_;exact Jk 10;refine dr ?_;refine Qq ?_ ?_;refine Dt ?_ ?_;refine Qr ?_ ?_;refine Dk ?_ ?_;exact Qa;refine Dk ?_ ?_;exact Qa;refine JS ?_ ?_;exact(Qq Dz lz0);exact Dz;exact lz3;exact Dz;exact lz1;exact Dz;exact lz2;exact Dz;exact lz1;exact(dn 1 Dz);exact lz2;exact Sn;exact(Ss (O1:=[]) (Qk (Jj QaR (dv 9) (dr (QK Qw rfl T.b_len boot_len (dv 0))) (QS _)) (So (Qm (Qr (Db (Qb Qg (dv 0) (dr (Qq (Du (QI (dv 0) (dv 9)) Dz) lz1))) (dn 1 Dz)) lz2))) Sn) (So (Qm (Qr (dn 0 (dn 1 Dz)) lz2))))))
theorem QmU:FnScope Qe2 QbI (Qc Qc9):=by constructor<;>first|rfl|decide+kernel
theorem Qm8(h:Df K mg "_law_built" Qc9 QbI)(T:Txt K mg)(bW:QkR P w K mg ae)(ah:Qbh P w K mg ae)(bK:Qi2 P w K mg ae)(av:Qcz P w K mg ae):Qi3 P w K mg ae:=okD Qe2 QbI Qde 3 h QmU (λnd=>λhr=>(by refine Ss (O1:=[]) ?_ ?_;exact(Qcx (dc bK hr (dn 0 Dz)) (Vw rfl (QV (O1:=[]) (Ql 1 nd) (QV (O1:=[]) (Ql 2 nd) (QV (O1:=[]) (Ql 3 nd) YM))) rfl));refine Ss (O1:=[4]) ?_ ?_;refine V5 4 nd rfl rfl (QX (show Js (Qc Qc9) Qe2 _ 1 ["_law_k","_law_script"] [0]=true by decide+kernel)) (by decide) ?_ ?_ ?_ ?_;exact(dih (Yt rfl T.b_range dq));exact λ_ _ _ _ _ _=>Ql 0 (show List.Nodup (["_law_k","_law_script"]:List Str)by decide+kernel);exact λ_ _ _ _ _ _=>Zg;exact λ_ _ _ _ _ _=>(dc av hr (Dl (dc ah hr (dn 1 (Dk QH Dz))) (Db (Qb Qg dq (dv 0)) Dz)));refine Ss (O1:=[4]) ?_ ?_;refine Jr rfl PassesOwn.never ?_ ?_ ?_;exact(Yt rfl T.b_range (dr (Qb Qu (dr (QI (Jk 4) dq)) dq)));exact Ql 5 nd;refine So ?_;exact(Qcx (dc bW hr (dn 1 (dn 2 (dn 3 (Du (Zc (Jk 4) (J3 (dr (Qb Jf dq (dv 5)))) (J3 (dr (Qb Qg (dr (Qb Jf dq (dv 5))) dq)))) Dz))))) (Vw rfl (QV (O1:=[4]) (Ql 1 nd) (QV (O1:=[4]) (Ql 2 nd) YM)) rfl));refine Ss (O1:=[4]) ?_ ?_;refine Qk ?_ ?_ ?_;exact(dE hr (dr (Qb Qu (dr (QI (Jk 4) dq)) dq)) dq);refine Ss (O1:=[4]) ?_ ?_;refine QqT ?_ ?_ ?_ ?_ ?_ ?_ ?_;exact nd;refine Qq ?_ ?_;refine Dk ?_ ?_;exact QH;refine Dk ?_ ?_;exact QH;refine Dk ?_ ?_;exact QH;refine Dk ?_ ?_;exact QH;refine Dk ?_ ?_;exact QH;exact(Dk QH (Db (Qb Qu (dr (dc ah hr (dn 0 (Dk QH Dz)))) (dr (Qb Qep dq dq))) (Db (Qb Jm dq (dr (Qb Qu (dr (dc ah hr (dn 0 (Dk QH Dz)))) (dr (Qb Qep dq dq))))) Dz)));exact(Qcu (n:=8) (by refine Jc ?_;refine Jc ?_;refine Jc ?_;refine Jc ?_;refine Jc ?_;refine Jc ?_;refine Jc ?_;refine Jc ?_;exact Qat) (by decide));rfl;(first|exact Or.inl rfl|exact Or.inr rfl);rfl;(first|exact Or.inl rfl|exact Or.inr rfl);decide;refine Ss (O1:=[4]) ?_ ?_;exact(Qo 6 nd (QI (dv 6) (dr (Qb Qu (dr (Qb QR (dr (QI (Jk 4) dq)) dq)) dq))));refine So ?_;refine Qo 2 nd ?_;refine QI ?_ ?_;refine dr ?_;refine Qq ?_ ?_;refine Dt ?_ ?_;exact(Qr (dn 6 (Du (dy 2) (Dk Qc4 (Du (dy 2) Dz)))) lz4);refine Dt ?_ ?_;exact(Qr (Du (dy 2) (dn 6 (Dk Qc4 (Du (dy 2) Dz)))) lz4);exact Dz;exact lz2;exact(dr (Qb Qu (dr (Qb QR (dr (QI (Jk 4) dq)) dq)) dq));exact Sn;exact(So (Qm (Qr (dn 1 (dn 2 Dz)) lz2)))))
theorem Qdy:FnScope ZY ZY (Qc QbP):=by constructor<;>first|rfl|decide+kernel
theorem Qhs(h:Df K mg "_law_label_due" QbP ZY)(T:Txt K mg):QbV P w K mg ae:=have nd:=(Qdy).nd
 Qn2 (b:=QbR) (k:=0) (N:=ZY) (ps:=ZY) (O':=[]) (OL:=[]) h Qdy (by decide) (by decide) (by decide) λf ao A ag s H E hr=>Ss (O1:=[1,1001]) (Qk (PW.pt (ZH (dF hr (dv 0) (dr Qa)) (Q8 (Jj QdQ (dv 0) (Jk 1) (by with_unfolding_all rfl))))) (So (Z2 1 Qa)) Sn) (Ss (O1:=[1,1001]) (Zs 1 (by decide) (Qs 0)) (So (Z2 1 Qa)))
theorem Qdz:FnScope V9 Vg (Qc Vf):=by constructor<;>first|rfl|decide+kernel
theorem Qht(h:Df K mg "_law_items_due" Vf Vg)(T:Txt K mg)(az:QbV P w K mg ae):Qec P w K mg ae:=have nd:=(Qdz).nd
 Qn2 (b:=QbS) (k:=1) (N:=V9) (ps:=Vg) (O':=[]) (OL:=[]) h Qdz (by decide) (by decide) (by decide) (λf ao A ag s H E hr=>(by refine Ss (O1:=[3,1003]) ?_ ?_;refine Jr rfl PassesOwn.never ?_ ?_ ?_;exact(Yt rfl T.b_range (dr (QK Qw rfl T.b_len boot_len (dv 0))));exact Ql 4 nd;refine QiF 7 [3,7,1003] ?_;refine Ss (O1:=[3,1003]) ?_ ?_;exact(Qo 5 nd (QI (dv 0) (dv 4)));refine Ss (O1:=[3,1003]) ?_ ?_;exact(Qo 6 nd Qa);refine Ss (O1:=[3,1003]) ?_ ?_;refine Qk ?_ ?_ ?_;exact(dE hr (dx 5) (dr Qa));refine Ss (O1:=[3,1003]) ?_ ?_;refine Qk ?_ ?_ ?_;refine Jj ZG ?_ ?_ (QS _);refine dr ?_;refine QK (Ve rfl) rfl T.b_max boot_max ?_;refine dr ?_;refine JZ ?_;refine JT rfl rfl (QX (show Js (Qc Vf) V9 _ 1 ["_law_row"] []=true by decide+kernel)) (by decide) ?_ ?_ ?_ ?_;exact(dih (Ja (Qb Qg (dr (Qq (Du (dy 5) Dz) lz1)) (dx 5))));exact λ_ _ _ _ _ _=>Ql 0 (show List.Nodup (["_law_row"]:List Str)by decide+kernel);exact λ_ _ _ _ _ _=>Zg;exact λ_ _ _ _ _ _=>(QK Qw rfl T.b_len boot_len (dv 0));exact(dx 1);exact(So (Z2 3 Qa));exact Sn;exact(So (Qk (Jj ZG (dr (Qb Qg (dr (QK Qw rfl T.b_len boot_len (dx 5))) dq)) (dx 1) (QS _)) (So (Z2 3 Qa)) Sn));exact Sn;refine Ss (O1:=[3,1003]) ?_ ?_;refine Qk ?_ ?_ ?_;refine PW.pt ?_;exact(ZH (dE hr (dx 5) (dr Qa)) (Q8 (Jj ZG (dr (Qb Qg (dr (Qb Qg (dr (QK Qw rfl T.b_len boot_len (dx 5))) (dv 2))) (dr (QK Qw rfl T.b_len boot_len (dx 5))))) (dx 1) (QS _))));exact(So (Z2 3 Qa));exact Sn;refine Ss (O1:=[3,1003]) ?_ ?_;refine Qk ?_ ?_ ?_;exact(dE hr (dx 5) (dr Qa));refine So ?_;refine Qkz 3 (by decide) az (hr.mono (by decide)) rfl ?_ ?_;refine QZ ?_ ?_ ?_;exact(dy 5);exact(VY 3);exact Yv;exact Ql 6 nd;exact Sn;refine Ss (O1:=[3,1003]) ?_ ?_;exact(Qk (dF hr (dv 6) (dr Qa)) (So (Z2 3 (Qs 6))) Sn);refine Ss (O1:=[3,7,1003]) ?_ ?_;refine V5 7 nd rfl rfl (QX (show Js (Qc Vf) V9 _ 1 ["_law_one"] []=true by decide+kernel)) (by decide) ?_ ?_ ?_ ?_;exact(dih (Ja (Zc (dv 0) (J3 (dv 4)) ZB)));exact λ_ _ _ _ _ _=>Ql 0 (show List.Nodup (["_law_one"]:List Str)by decide+kernel);exact λ_ _ _ _ _ _=>(Vp (PW.pt (Z7 (dE hr (dx 0) (dr Qa)) (Q8 (dE hr (dx 0) (dr Qa))))));exact λ_ _ _ _ _ _=>Qs 0;exact(So (Qk (dE hr (Jk 7) (dr (Qq Dz lz0))) (So (Z2 3 Qa)) Sn));exact(So (Z2 3 Qa))))
theorem QdA:FnScope Zw Zw (Qc V7):=by constructor<;>first|rfl|decide+kernel
theorem Qhu(h:Df K mg "_law_block_due" V7 Zw)(T:Txt K mg)(aW:Qec P w K mg ae)(az:QbV P w K mg ae):Qed P w K mg ae:=have nd:=(QdA).nd
 Qn2 (b:=QbT) (k:=2) (N:=Zw) (ps:=Zw) (O':=[]) (OL:=[]) h QdA (by decide) (by decide) (by decide) (λf ao A ag s H E hr=>(by refine Ss (O1:=[3,1003]) ?_ ?_;refine Qk ?_ ?_ ?_;exact(dE hr (dx 0) (dr Qa));refine So ?_;refine Qky 3 (by decide) aW (hr.mono (by decide)) rfl ?_;refine QZ ?_ ?_ ?_;exact(dy 0);refine QZ ?_ ?_ ?_;exact Qs 1;refine QZ ?_ ?_ ?_;exact Qs 2;exact(VY 3);exact JD;exact JD;exact Yv;exact Sn;refine Ss (O1:=[3,1003]) ?_ ?_;refine Qk ?_ ?_ ?_;exact(PW.pt (Z7 (dE hr (dx 0) (dr Qa)) (Q8 (dE hr (dx 0) (dr Qa)))));exact(Ss (O1:=[3,1003]) (Qk (Jj ZG (dr (QK Qw rfl T.b_len boot_len (dx 0))) (dr (Qb Jm (dx 1) (dr (Qb Jf (dr (VX Qa0 rfl T.b_int boot_int (dx 1))) (dr (Qb Qg dq (dv 2))))))) (QS _)) (So (Z2 3 Qa)) Sn) (So (Qk (PW.pt (ZH (dE hr (dx 0) (dr Qa)) (Q8 (Jj ZG (dr (Qb Qg (dx 0) dq)) (dx 1) (QS _))))) (So (Z2 3 Qa)) Sn)));exact Sn;refine Ss (O1:=[3,1003]) ?_ ?_;refine Qk ?_ ?_ ?_;exact(dE hr (dx 0) (dr Qa));refine Ss (O1:=[3,1003]) ?_ ?_;refine Qk ?_ ?_ ?_;refine Jj ZG ?_ ?_ (QS _);refine dr ?_;refine QK (Ve rfl) rfl T.b_max boot_max ?_;refine dr ?_;refine JZ ?_;refine JT rfl rfl (QX (show Js (Qc V7) Zw _ 1 ["_law_row"] []=true by decide+kernel)) (by decide) ?_ ?_ ?_ ?_;exact(dih (Ja (dy 0)));exact λ_ _ _ _ _ _=>Ql 0 (show List.Nodup (["_law_row"]:List Str)by decide+kernel);exact λ_ _ _ _ _ _=>Zg;exact λ_ _ _ _ _ _=>(QK Qw rfl T.b_len boot_len (dv 0));exact(dx 1);exact(So (Z2 3 Qa));exact Sn;exact(So (Qk (Jj ZG (dr (QK Qw rfl T.b_len boot_len (dx 0))) (dx 1) (QS _)) (So (Z2 3 Qa)) Sn));exact Sn;refine So ?_;refine Qky 3 (by decide) az (hr.mono (by decide)) rfl ?_;refine QZ ?_ ?_ ?_;exact(QI (dv 0) (dr (Qbw dq)));exact(VY 3);exact Yv))
theorem Qp6:FnScope Qmx QdP (Qc QhW):=by constructor<;>first|rfl|decide+kernel
theorem Qqu(h:Df K mg "_law_due" QhW QdP)(T:Txt K mg)(aX:Qed P w K mg ae)(aI:Qex P w K mg ae):Qmz P w K mg ae:=okD Qmx QdP Qh8 3 h Qp6 (λnd=>λhr=>(by refine Ss (O1:=[]) ?_ ?_;exact(Qk (PW.pt (Z7 (Jj QaR (dx 1) dq (QS _)) (Z7 (Jj ZG (dx 1) dq (QS _)) (Z7 (Jj QaR (dx 1) dq (QS _)) (Q8 (Jj ZG (dx 1) dq (QS _))))))) (So (Qm (Qq (Dk Qa (Dk Qh4 Dz)) lz2))) Sn);refine Ss (O1:=[]) ?_ ?_;exact(Qo 2 nd (QK Qw rfl T.b_len boot_len (dr (VX Qb7 rfl T.b_str boot_str (dr (dc aI hr (dn 0 (Du (dy 1) Dz))))))));refine Ss (O1:=[3]) ?_ ?_;exact(JR 3 nd (Vx Dz lz0));refine Ss (O1:=[3]) ?_ ?_;refine Jr rfl PassesOwn.never ?_ ?_ ?_;exact(Yt rfl T.b_range (dr (QK Qw rfl T.b_len boot_len (dv 0))));exact Ql 4 nd;refine Ss (O1:=[3]) ?_ ?_;refine Qkz 3 (by decide) aX (hr.mono (by decide)) rfl ?_ ?_;refine QZ ?_ ?_ ?_;exact(QI (dv 0) (dv 4));refine QZ ?_ ?_ ?_;exact Qs 1;refine QZ ?_ ?_ ?_;exact Qs 2;exact(VY 3);exact JD;exact JD;exact Yv;exact Ql 5 nd;exact(So (Qk (dF hr (dv 5) (dr Qa)) (So (Qm (Qq (dn 5 (dn 4 Dz)) lz2))) Sn));refine Ss (O1:=[3]) ?_ ?_;refine Jr rfl PassesOwn.never ?_ ?_ ?_;exact(Yt rfl T.b_range (dr (QK Qw rfl T.b_len boot_len (dv 0))));exact Ql 4 nd;refine So ?_;refine Qk ?_ ?_ ?_;exact(dE hr (dr (QI (dr (QI (dv 0) (dv 4))) dq)) (dr Qa));refine So ?_;exact(Jr rfl PassesOwn.never (Ja (QI (dr (QI (dv 0) (dv 4))) dq)) (Ql 6 nd) (So (Qk (PW.pt (ZH (dE hr (dx 6) (dr Qa)) (Q8 (Jj Qd3 (dx 6) (Jk 3) (by with_unfolding_all rfl))))) (So (Qm (Qq (Dk Qa (dn 4 Dz)) lz2))) Sn)));exact Sn;exact(So (Qm (Qq Dz lz0)))))
theorem Qon:FnScope QkK QcH (Qc Qgj):=by constructor<;>first|rfl|decide+kernel
theorem QoG(h:Df K mg "_law_kind" Qgj QcH)(T:Txt K mg):QkO P w K mg ae:=okD QkK QcH Qev 0 h Qon (λnd=>λhr=>(by refine Ss (O1:=[1]) ?_ ?_;exact(JR 1 nd (Vx Dz lz0));refine Ss (O1:=[1]) ?_ ?_;exact(Qk (Je (dr (VI (c:=0) T.xr (by decide) T.y_NoStyle rfl T.b_isinstance boot_isinstance rfl (dv 0)))) (So (JR 1 nd (Qcy (Jk 1) (dr (Qq (Dk Qa (Dk Qh4 Dz)) lz2))))) Sn);refine Ss (O1:=[1]) ?_ ?_;exact(Qk (Je (dr (VI (c:=1) T.xr (by decide) T.y_TooWide rfl T.b_isinstance boot_isinstance rfl (dv 0)))) (So (JR 1 nd (Qcy (Jk 1) (dr (Qq (Dk Qa (Vh (QdV T.xr (dv 0)) Dz)) lz2))))) Sn);refine Ss (O1:=[1]) ?_ ?_;exact(Qk (Je (dr (VI (c:=2) T.xr (by decide) T.y_TooHigh rfl T.b_isinstance boot_isinstance rfl (dv 0)))) (So (JR 1 nd (Qcy (Jk 1) (dr (Qq (Dk Qa (Vh (QdV T.xr (dv 0)) Dz)) lz2))))) Sn);refine Ss (O1:=[1]) ?_ ?_;exact(Qk (Je (dr (VI (c:=3) T.xr (by decide) T.y_Twice rfl T.b_isinstance boot_isinstance rfl (dv 0)))) (So (JR 1 nd (Qcy (Jk 1) (dr (Qq (Dk Qa (Vh (QdV T.xr (dv 0)) Dz)) lz2))))) Sn);refine Ss (O1:=[1]) ?_ ?_;exact(Qk (Je (dr (VI (c:=4) T.xr (by decide) T.y_Loose rfl T.b_isinstance boot_isinstance rfl (dv 0)))) (So (JR 1 nd (Qcy (Jk 1) (dr (Qq (Dk Qa (Vh (QdV T.xr (dv 0)) Dz)) lz2))))) Sn);refine Ss (O1:=[1]) ?_ ?_;exact(Qk (Je (dr (VI (c:=5) T.xr (by decide) T.y_NoLabel rfl T.b_isinstance boot_isinstance rfl (dv 0)))) (So (JR 1 nd (Qcy (Jk 1) (dr (Qq (Dk Qa (Vh (QdV T.xr (dv 0)) Dz)) lz2))))) Sn);refine Ss (O1:=[1]) ?_ ?_;exact(Qk (PW.pt (Z7 (Je (dr (VI (c:=6) T.xr (by decide) T.y_NoRow rfl T.b_isinstance boot_isinstance rfl (dv 0)))) (Q8 (PW.pt (ZH (QqS (dv 0)) (Q8 (Qfu (Je (dr (Qpg T.xr rfl T.b_isinstance boot_isinstance rfl T.b_ValueError (dv 0))))))))))) (So (Zs 1 (by decide) Qa)) Sn);exact(Ss (O1:=[1]) (Qk (PW.pt (ZH (dE hr (dr (QK Qw rfl T.b_len boot_len (Jk 1))) dq) (Q8 (Je (dr (QcP (QeQ _) rfl T.b_isinstance boot_isinstance rfl T.b_bool boot_bool (dr (QI (Jk 1) dq)))))))) (So (Zs 1 (by decide) Qa)) Sn) (YL 1 (So (Qm (Qs 1)))))))
theorem QjD:FnScope QfG V0 (Qc Qdj):=by constructor<;>first|rfl|decide+kernel
theorem QjO(h:Df K mg "_law_refused" Qdj V0)(T:Txt K mg)(bU:QkO P w K mg ae)(aw:QbU P w K mg ae)(aA:Qcq P w K mg ae):QfL P w K mg ae:=okD QfG V0 Qdt 7 h QjD λnd=>λhr=>by refine Ss (O1:=[]) ? _ ? _;exact Qo 3 nd Qh4;refine Ss (O1:=[]) ? _ ? _;refine QsB 3 4 nd T.xt rfl ? _;refine Qs3 ? _ ? _ ? _;exactλE=>dE hr (dv 2) dq;refine Qkd aw (hr.mono (by decide)) rfl ? _;exactλE=>dn 0 (dn 1 Dz);refine Qkd aA (hr.mono (by decide)) rfl ? _;exactλE=>dn 0 (dn 1 Dz);exact So (Qm (dc bU hr (dn 3 Dz)))
theorem sc_law:FnScope QpS Qpz (Qc QhD):=by constructor<;>first|rfl|decide+kernel
theorem Qr9{f:Addr}{fd:FuncData}(h:Fun K "law" "law" QhD f fd)(T:Txt K mg)(bL:Qi3 P w K mg ae)(bV:QkQ P w K mg ae)(cj:Qmz P w K mg ae)(aI:Qex P w K mg ae)(aV:QfL P w K mg ae)(aw:QbU P w K mg ae)(aA:Qcq P w K mg ae):FnOk P w K mg ae CX0 9 f fd ["_law_script"] (spD K Qej):=have nd:=sc_law.nd
 okF (b:=Qlg) (k:=8) (N:=QpS) (ps:=Qpz) (O':=[]) (OL:=[]) h sc_law λao A ag s H E hr=>(by refine Ss (O1:=[]) ?_ ?_;exact(Qcx (dc bL hr (dn 0 Dz)) (Vw rfl (QV (O1:=[]) (Ql 1 nd) (QV (O1:=[]) (Ql 2 nd) YM)) rfl));refine Ss (O1:=[]) ?_ ?_;exact(Qo 3 nd (dc cj hr (dn 1 (dn 2 Dz))));refine Ss (O1:=[]) ?_ ?_;exact(Qo 4 nd (dc bV hr (dn 1 Dz)));refine Ss (O1:=[]) ?_ ?_;refine Jr rfl PassesOwn.never ?_ ?_ ?_;exact(Yt rfl T.b_range dq);exact Ql 5 nd;refine So ?_;refine Qk ?_ ?_ ?_;refine PW.pt ?_;exact(Z7 (dF hr (dr (dc aV hr (dn 4 (dn 2 (dn 5 Dz))))) (dv 3)) (Q8 (dF hr (dr (dc aV hr (dn 4 (dn 2 (Db (Qb Jm dq (dv 5)) Dz))))) (dv 3))));exact(So (Qm Qc4));exact Sn;refine Ss (O1:=[]) ?_ ?_;refine Qk ?_ ?_ ?_;exact(dE hr (dv 3) (dr (Qq Dz lz0)));refine Ss (O1:=[]) ?_ ?_;exact(Qo 6 nd (QiK aw (hr.mono (by decide)) rfl (dn 4 (dn 2 Dz))));refine Ss (O1:=[]) ?_ ?_;exact(Qo 7 nd (QiK aA (hr.mono (by decide)) rfl (dn 4 (dn 2 Dz))));refine Ss (O1:=[]) ?_ ?_;refine Qk ?_ ?_ ?_;refine PW.pt ?_;refine Z7 ?_ ?_;exact(Je (dr (QcP (QeQ _) rfl T.b_isinstance boot_isinstance rfl T.b_bool boot_bool (dv 6))));exact(Z7 (Je (dr (QcP (QeQ _) rfl T.b_isinstance boot_isinstance rfl T.b_bool boot_bool (dv 7)))) (Z7 (Qfu (Je (dr (QcP (Qkn _) rfl T.b_isinstance boot_isinstance rfl T.b_int boot_int (dv 6))))) (Q8 (Qfu (Je (dr (QcP (Qkn _) rfl T.b_isinstance boot_isinstance rfl T.b_int boot_int (dv 7))))))));exact(So (Qm Qc4));exact Sn;refine So ?_;exact(Qk (PW.pt (Z7 (dF hr (dv 6) (dr (dc aI hr (dn 1 (Du (dy 2) Dz))))) (Q8 (dF hr (dv 7) (dr (QK Qw rfl T.b_len boot_len (dr (VX Qb7 rfl T.b_str boot_str (dv 6))))))))) (So (Qm Qc4)) Sn);exact Sn;exact(So (Qm (Zb (Vu hr.units) (dv 4) (dv 1) (QS _)))))
end
end
open PySem PySem.Spec PyProof.Rows L2 Wd
theorem walk{l:W.OpenLaw}{q:Program}{loose:List Str}{XP:(Str->Option Value)->Heap->Prop}{YP:World->Heap->Prop}{d:DefRec}{K:Params->W.Frag}(hn:l.most=some 63)(fN:d.params.defaults=[])(hY:∀(w:World)(h:Heap),YP w h->(K w.params).In h)(F:∀(w:World)(mg:Str->Option Value)(fa:Addr)(h:Heap),(K w.params).In h->h.Ns mainGlobals mg->mg d.name=some (.ref fa)->∃fd:FuncData,(∀(s:Shared)(u:Value),BindsTo s fd ⟨[u],[]⟩ [("_law_script",u)])/\∀ae:Heap,(K w.params).In ae->ae.Ns mainGlobals mg->FnOk l.prog w (K w.params) mg ae CX0 9 fa fd ["_law_script"] (spD (K w.params) Qej)):W.WalkO q loose XP YP l.row.toRowW d [] λf vs=>PySem.call f vs:=L2.walk_of (n:=63) (k:=9) (x:="_law_script") (CX:=λ_=>CX0) (sp:=λw=>spD (K w.params) Qej) hn (by decide) fN ⟨rfl,by decide,by decide⟩ hY F (λw H a ns _ _ hS=>Qsf (K w.params) Qej Qo0 H a ns hS) λ_ _ _ _ _ z=>z
end My
namespace Hd
open PySem PySem.W PySem.Calls PyProof.Rows My L2
theorem Qii{tb:String->Option Builtin}{p:Program}{w:World}{n₀:Nat}{ann:Option Value}:∀{n:Nat}{s s':Shared}{t:Thread}{f:Flow}{c:Code}{q:Pos},segRun tb p w n₀ ann 0 n s t=some (f,s',c,q)->topRun tb p w n₀ ann n s t=some s'
 |0,_,_,_,_,_,_,h=>by cases h|n+1,s,s',t,f,c,q,h=>by
  unfold segRun at h;unfold topRun;have hz:(endAt 0 t).isSome=through t:=by
   obtain⟨cur,code,pos,st⟩:=t;cases st with
   |nil=>cases cur with|pure x=>cases x<;>rfl|_=>rfl
   |cons a b=>rfl
  cases he:endAt 0 t with
  |some g=>rw[he]at h hz;rw[<-hz];cases h;rfl|none=>rw[he]at h hz;rw[<-hz];cases hk:stepOk n₀ ann t with|false=>rw[hk]at h;cases h|true=>rw[hk]at h;cases hs:step (denote tb) p w s t with|halt o s₂=>rw[hs]at h;cases h|go s₂ t₂=>rw[hs]at h;exact Qii h
noncomputable def T0(P:Params):BT:=(boot_heap P).objs.toList.foldl (λx o=>(x.1.ins x.2 o,x.2+1)) (BT.nil,0)|>.1
noncomputable def st0 (w:World) (os:OsState):SharedT:=⟨T0 w.params,11,{},Array.mk [],boot_drawn,boot_toks,os⟩
theorem Qj7(w:World)(os:OsState):(st0 w os).abs=⟨boot_heap w.params,Array.mk [],boot_drawn,boot_toks,os⟩:=by kernel_rfl
noncomputable def runs(p:Program)(M:Nat)(w:World)(os:OsState):Option Shared:=(segRunT treeTable p w 11 (some (.ref 6)) 0 M (st0 w os) (topStub p)).map λr=>r.2.1.abs
noncomputable def chk(p:Program)(w:World)(s:Shared):Bool:=staticsOk (importedModules p.main.body) (boot_heap w.params) s.heap&&namesBound p s.heap&&gensDone s&&laidKept (boot_heap w.params) s.heap
theorem left{p q:Program}{loose:List Str}{Xt:Shared->Bool}{α:Type}{Yf:Shared->α}{Ya:World->α}{N:Nat}{g0:Bool}{M:Nat}(e:opening p=plainProg p.main.scope.names)(f:∀s,fenceModules? p s=some s)(hN:Nat.ble 600 N=true)(le:Nat.ble M N=true)(size:∀w:World,((boot_heap w.params).isNs mainGlobals,(boot_heap w.params).objs.size,(boot_heap w.params).nsMap mainGlobals "__annotations__")=(true,11,some (.ref 6)))(ra:∀(w:World)(os:OsState),(runs p M w os).map (chk p w)=some true)(rb:∀(w:World)(os:OsState),(runs p M w os).map (openSeen q loose (importedModules p.main.body) Xt g0)=some (openGood q loose))(rc:∀(w:World)(os:OsState),(runs p M w os).map Yf=some (Ya w)):LeftO p q loose Xt Yf Ya N g0:=λw=>by
 obtain⟨u,e1,e2⟩:=Option.map_eq_some_iff.mp (boot_open e hN f w);obtain⟨v,r1,l1⟩:=Option.map_eq_some_iff.mp (ra w u.os);obtain⟨⟨_,v',_⟩,r2,r3⟩:=Option.map_eq_some_iff.mp r1;have l2:=rb w u.os;have l3:=rc w u.os;rw[r1]at l2 l3;have hu:u=(st0 w u.os).abs:=by
  rw[Qj7];cases u;cases e2;rfl
 have go:=topRun_mono (N-M) _ _ _ _ (Qii (segRun_of r2));rw[Nat.add_sub_of_le (Nat.le_of_ble_eq_true le)]at go;have t:topFrom treeTable p w N u=some v:=by
  have z:=size w;simp only[Prod.mk.injEq]at z;rw[hu];unfold topFrom;rw[Qj7]at go⊢;simp only[z.1,z.2.1,z.2.2,go];simp only[<-r3]at l1⊢;unfold chk at l1;simp[l1]
 simp only[openEnds,e1,bind_some,t,map_some];rw[Option.some.inj l2,Option.some.inj l3]
noncomputable abbrev p:=PySem.Challenge.pw_leastbook_k12_most_pages
noncomputable section
noncomputable def Qn3(s:Stmt):Str:=match s with|.FunctionDef n _ _ _ _ _ _ _ _ _=>n|_=>""
def Qs6(s:Stmt):Pos:=match s with|.FunctionDef _ _ _ _ _ _ _ _ _ p=>p|_=>⟨0,0,0,0⟩
noncomputable abbrev m0:Value:=.str "leastbook.places" 373
noncomputable abbrev m1:Value:=.str "leastbook.books" 388
noncomputable abbrev m2:Value:=.str "law_leastbook_k12_most_pages" 568
def tb:List (Nat×Nat×Nat×Nat×Nat×Value):=[(13,160,381,385,1)].map (λx=>(x.1,x.2.1,x.2.2.1,x.2.2.2.1,x.2.2.2.2,m0))++[(15,167,390,394,1),(16,174,397,401,1),(17,181,404,408,1),(18,188,411,415,1),(19,195,418,422,1),(20,200,425,428,0),(21,205,431,434,0),(22,210,437,440,0),(23,217,443,448,1),(24,222,451,454,0),(25,229,457,464,1),(26,236,467,473,1),(27,243,476,481,1),(28,250,484,489,1),(29,257,492,498,1),(30,264,501,509,1),(31,271,512,520,1),(32,276,523,526,0),(33,283,529,537,1),(34,290,540,549,1),(35,297,552,557,1),(36,304,560,565,1)].map (λx=>(x.1,x.2.1,x.2.2.1,x.2.2.2.1,x.2.2.2.2,m1))++[(38,311,570,575,1),(39,318,578,584,1),(40,325,587,592,1),(41,332,595,602,1),(42,339,605,616,1),(43,344,619,622,0),(44,351,625,635,1),(45,358,638,645,1),(46,363,648,651,0),(47,368,654,657,0),(48,373,660,663,0),(49,378,666,669,0),(50,385,672,680,1),(51,392,683,687,1),(52,399,690,696,1),(53,406,699,717,1),(54,411,720,723,0),(55,416,726,729,0),(56,423,732,737,1),(57,428,740,743,0),(58,433,746,749,0),(59,440,752,762,1),(60,447,765,770,1),(61,454,773,781,1),(62,461,784,795,1)].map (λx=>(x.1,x.2.1,x.2.2.1,x.2.2.2.1,x.2.2.2.2,m2))
noncomputable def en(P:Params)(x:Str)(t:Nat)(v:Value):DictEntry:=⟨PyData.keyHash P x,.str x t,v⟩
def ns(P:Params):List DictEntry:=([en P "__name__" 165 (.str "law_leastbook_k12_most_pages" 568),en P "__doc__" 166 (.none),en P "__package__" 167 (.none),en P "__loader__" 168 (.builtin "__main__.__loader__#opaque"),en P "__spec__" 169 (.none),en P "__annotations__" 170 (.ref 6),en P "__builtins__" 171 (.ref 4),en P "__file__" 173 (.str "/claim/cut.py" 172),en P "__cached__" 174 (.none),en P "BookError" 206 (.ref 24),en P "NoStyle" 222 (.ref 37),en P "TooWide" 247 (.ref 56),en P "TooHigh" 272 (.ref 75),en P "Twice" 297 (.ref 94),en P "Loose" 322 (.ref 113),en P "NoLabel" 347 (.ref 132),en P "NoRow" 372 (.ref 151),en P "WIDTH" 376 (.int 0 375),en P "HEIGHT" 378 (.int 1 377),en P "LISTED" 380 (.int 3 379)])++(((tb.drop 0).take 48).map λr=>en P (Qn3 (top r.1)) (r.2.2.2.1+2) (.ref r.2.1))
def ob(r:Nat×Nat×Nat×Nat×Nat×Value):List (Nat×Obj):=let(i,f,t,u,b,m):=r
 let s:=top i
 let x:=Qn3 s
 let l:Value:=.int (Qs6 s).line 0
 let c:Str:="/claim/cut.py"
 let n:Value:=.int 0 0
 [(f-1,⟨.type "code",none,.fields #[.str x t,.str x (t+1),.str c (t+2),l,.int (JE s).args.length 0,n,n,.int 3 0,.ref (if b=1 then f-6 else f-4),.bool true,.int 181 0,.ref (if b=1 then f-5 else f-3),.none,if b=1 then .ref (f-4)else .none,if b=1 then .ref (f-3)else .none,.ref (f-2),.int u 0,l,.str c (u+1)],#[]⟩),(f,⟨.type "function",none,.func (fnOf x x (JE s) (QY s) (Qc s) .none .none .none m none (.ref (f-1)) .none),#[]⟩)]
def xk(P:Params):List (Nat×Obj):=[(2,⟨.none,none,.dict #[] 0,#[]⟩),(24,⟨.type "type",none,.cls {name:="BookError",bases:=[.type "ValueError"],mro:=[.ref 24,.type "ValueError",.type "Exception",.type "BaseException",.type "object"],ns:=23,qualname:="BookError",hasDict:=true,slotNames:=[],subclasses:=[.ref 37,.ref 56,.ref 75,.ref 94,.ref 113,.ref 132,.ref 151],abstract:=false,collection:=none,hasDel:=false},#[some (.ref 15),none,some (.str "BookError" 189),some (.str "BookError" 197),some (.builtin "ValueError.__new__"),some (.bool true)]⟩),(23,⟨.type "dict",none,.dict #[en P "__module__" 196 (.str "leastbook.errors" 187),en P "__firstlineno__" 200 (.int 2 199),en P "__static_attributes__" 201 (.ref 22),en P "__weakref__" 203 (.ref 25),en P "__doc__" 204 (.none)] 3,#[]⟩),(37,⟨.type "type",none,.cls {name:="NoStyle",bases:=[.ref 24],mro:=[.ref 37,.ref 24,.type "ValueError",.type "Exception",.type "BaseException",.type "object"],ns:=36,qualname:="NoStyle",hasDict:=true,slotNames:=[],subclasses:=[],abstract:=false,collection:=none,hasDel:=false},#[some (.ref 28),none,some (.str "NoStyle" 207),some (.str "NoStyle" 215),some (.builtin "ValueError.__new__"),some (.bool true)]⟩),(36,⟨.type "dict",none,.dict #[en P "__module__" 214 (.str "leastbook.errors" 187),en P "__firstlineno__" 218 (.int 4 217),en P "__static_attributes__" 219 (.ref 35),en P "__doc__" 220 (.none)] 2,#[]⟩),(56,⟨.type "type",none,.cls {name:="TooWide",bases:=[.ref 24],mro:=[.ref 56,.ref 24,.type "ValueError",.type "Exception",.type "BaseException",.type "object"],ns:=55,qualname:="TooWide",hasDict:=true,slotNames:=[],subclasses:=[],abstract:=false,collection:=none,hasDel:=false},#[some (.ref 40),none,some (.str "TooWide" 223),some (.str "TooWide" 231),some (.builtin "ValueError.__new__"),some (.bool true)]⟩),(55,⟨.type "dict",none,.dict #[en P "__module__" 230 (.str "leastbook.errors" 187),en P "__firstlineno__" 234 (.int 6 233),en P "__init__" 242 (.ref 53),en P "__static_attributes__" 244 (.ref 54),en P "__doc__" 245 (.none)] 2,#[]⟩),(53,⟨.type "function",none,.func (fnOf "__init__" "TooWide.__init__" (JE QaT) (QY QaT) (Qc QaT) .none .none .none (.str "leastbook.errors" 187) none (.ref 52) .none),#[]⟩),(52,⟨.type "code",none,.fields #[.str "__init__" 235,.str "TooWide.__init__" 236,.str "/claim/cut.py" 237,.int 8 0,.int 2 0,.int 0 0,.int 0 0,.int 3 0,.ref 47,.bool true,.int 181 0,.ref 48,.none,.ref 49,.ref 50,.ref 51,.int 240 0,.int 8 0,.str "/claim/cut.py" 241],#[]⟩),(75,⟨.type "type",none,.cls {name:="TooHigh",bases:=[.ref 24],mro:=[.ref 75,.ref 24,.type "ValueError",.type "Exception",.type "BaseException",.type "object"],ns:=74,qualname:="TooHigh",hasDict:=true,slotNames:=[],subclasses:=[],abstract:=false,collection:=none,hasDel:=false},#[some (.ref 59),none,some (.str "TooHigh" 248),some (.str "TooHigh" 256),some (.builtin "ValueError.__new__"),some (.bool true)]⟩),(74,⟨.type "dict",none,.dict #[en P "__module__" 255 (.str "leastbook.errors" 187),en P "__firstlineno__" 259 (.int 11 258),en P "__init__" 267 (.ref 72),en P "__static_attributes__" 269 (.ref 73),en P "__doc__" 270 (.none)] 2,#[]⟩),(72,⟨.type "function",none,.func (fnOf "__init__" "TooHigh.__init__" (JE QaU) (QY QaU) (Qc QaU) .none .none .none (.str "leastbook.errors" 187) none (.ref 71) .none),#[]⟩),(71,⟨.type "code",none,.fields #[.str "__init__" 260,.str "TooHigh.__init__" 261,.str "/claim/cut.py" 262,.int 13 0,.int 2 0,.int 0 0,.int 0 0,.int 3 0,.ref 66,.bool true,.int 181 0,.ref 67,.none,.ref 68,.ref 69,.ref 70,.int 265 0,.int 13 0,.str "/claim/cut.py" 266],#[]⟩),(94,⟨.type "type",none,.cls {name:="Twice",bases:=[.ref 24],mro:=[.ref 94,.ref 24,.type "ValueError",.type "Exception",.type "BaseException",.type "object"],ns:=93,qualname:="Twice",hasDict:=true,slotNames:=[],subclasses:=[],abstract:=false,collection:=none,hasDel:=false},#[some (.ref 78),none,some (.str "Twice" 273),some (.str "Twice" 281),some (.builtin "ValueError.__new__"),some (.bool true)]⟩),(93,⟨.type "dict",none,.dict #[en P "__module__" 280 (.str "leastbook.errors" 187),en P "__firstlineno__" 284 (.int 16 283),en P "__init__" 292 (.ref 91),en P "__static_attributes__" 294 (.ref 92),en P "__doc__" 295 (.none)] 2,#[]⟩),(91,⟨.type "function",none,.func (fnOf "__init__" "Twice.__init__" (JE QcA) (QY QcA) (Qc QcA) .none .none .none (.str "leastbook.errors" 187) none (.ref 90) .none),#[]⟩),(90,⟨.type "code",none,.fields #[.str "__init__" 285,.str "Twice.__init__" 286,.str "/claim/cut.py" 287,.int 18 0,.int 2 0,.int 0 0,.int 0 0,.int 3 0,.ref 85,.bool true,.int 181 0,.ref 86,.none,.ref 87,.ref 88,.ref 89,.int 290 0,.int 18 0,.str "/claim/cut.py" 291],#[]⟩),(113,⟨.type "type",none,.cls {name:="Loose",bases:=[.ref 24],mro:=[.ref 113,.ref 24,.type "ValueError",.type "Exception",.type "BaseException",.type "object"],ns:=112,qualname:="Loose",hasDict:=true,slotNames:=[],subclasses:=[],abstract:=false,collection:=none,hasDel:=false},#[some (.ref 97),none,some (.str "Loose" 298),some (.str "Loose" 306),some (.builtin "ValueError.__new__"),some (.bool true)]⟩),(112,⟨.type "dict",none,.dict #[en P "__module__" 305 (.str "leastbook.errors" 187),en P "__firstlineno__" 309 (.int 21 308),en P "__init__" 317 (.ref 110),en P "__static_attributes__" 319 (.ref 111),en P "__doc__" 320 (.none)] 2,#[]⟩),(110,⟨.type "function",none,.func (fnOf "__init__" "Loose.__init__" (JE QcC) (QY QcC) (Qc QcC) .none .none .none (.str "leastbook.errors" 187) none (.ref 109) .none),#[]⟩),(109,⟨.type "code",none,.fields #[.str "__init__" 310,.str "Loose.__init__" 311,.str "/claim/cut.py" 312,.int 23 0,.int 2 0,.int 0 0,.int 0 0,.int 3 0,.ref 104,.bool true,.int 181 0,.ref 105,.none,.ref 106,.ref 107,.ref 108,.int 315 0,.int 23 0,.str "/claim/cut.py" 316],#[]⟩),(132,⟨.type "type",none,.cls {name:="NoLabel",bases:=[.ref 24],mro:=[.ref 132,.ref 24,.type "ValueError",.type "Exception",.type "BaseException",.type "object"],ns:=131,qualname:="NoLabel",hasDict:=true,slotNames:=[],subclasses:=[],abstract:=false,collection:=none,hasDel:=false},#[some (.ref 116),none,some (.str "NoLabel" 323),some (.str "NoLabel" 331),some (.builtin "ValueError.__new__"),some (.bool true)]⟩),(131,⟨.type "dict",none,.dict #[en P "__module__" 330 (.str "leastbook.errors" 187),en P "__firstlineno__" 334 (.int 26 333),en P "__init__" 342 (.ref 129),en P "__static_attributes__" 344 (.ref 130),en P "__doc__" 345 (.none)] 2,#[]⟩),(129,⟨.type "function",none,.func (fnOf "__init__" "NoLabel.__init__" (JE QaV) (QY QaV) (Qc QaV) .none .none .none (.str "leastbook.errors" 187) none (.ref 128) .none),#[]⟩),(128,⟨.type "code",none,.fields #[.str "__init__" 335,.str "NoLabel.__init__" 336,.str "/claim/cut.py" 337,.int 28 0,.int 2 0,.int 0 0,.int 0 0,.int 3 0,.ref 123,.bool true,.int 181 0,.ref 124,.none,.ref 125,.ref 126,.ref 127,.int 340 0,.int 28 0,.str "/claim/cut.py" 341],#[]⟩),(151,⟨.type "type",none,.cls {name:="NoRow",bases:=[.ref 24],mro:=[.ref 151,.ref 24,.type "ValueError",.type "Exception",.type "BaseException",.type "object"],ns:=150,qualname:="NoRow",hasDict:=true,slotNames:=[],subclasses:=[],abstract:=false,collection:=none,hasDel:=false},#[some (.ref 135),none,some (.str "NoRow" 348),some (.str "NoRow" 356),some (.builtin "ValueError.__new__"),some (.bool true)]⟩),(150,⟨.type "dict",none,.dict #[en P "__module__" 355 (.str "leastbook.errors" 187),en P "__firstlineno__" 359 (.int 31 358),en P "__init__" 367 (.ref 148),en P "__static_attributes__" 369 (.ref 149),en P "__doc__" 370 (.none)] 2,#[]⟩)]
def K(P:Params):List (Nat×Obj):=(3,⟨.type "dict",none,.dict (ns P).toArray 68,#[]⟩)::(xk P++tb.flatMap ob)
noncomputable def as:List Nat:=3::([2,24,23,37,36,56,55,53,52,75,74,72,71,94,93,91,90,113,112,110,109,132,131,129,128,151,150]++tb.flatMap (λr=>[r.2.1-1,r.2.1]))
theorem QtB(P:Params):as=(K P).map (·.1):=by kernel_rfl
noncomputable abbrev rw_:=PySem.Challenge.rw_leastbook_k12_most_pages.row
def vw:Program:=view p [62]
def ls:List Str:=(["BookError","NoStyle","TooWide","TooHigh","Twice","Loose","NoLabel","NoRow","WIDTH","HEIGHT","LISTED"]:List Str)++tb.dropLast.map λr=>Qn3 (top r.1)
def Xt(s:Shared):Bool:=xlAt vw [] s&&recOk (RowW.records rw_.toRowW) s
abbrev rn:=Hd.runs p 6772
def ha(w:World)(os:OsState):=(rn w os).map (Hd.chk p w)
def hb(w:World)(os:OsState):=(rn w os).map (openSeen vw ls (importedModules p.main.body) Xt true)
def hc(w:World)(os:OsState):=(rn w os).map λs=>as.map s.heap.get?
def wb:=some (openGood vw ls)
def wc(w:World):=some ((K w.params).map λp=>some p.2)
theorem ha_r:ha=ha:=rfl
theorem hb_r:hb=hb:=rfl
theorem hc_r:hc=hc:=rfl
theorem wb_r:wb=wb:=rfl
theorem wc_r:wc=wc:=rfl
end
section
variable{P:Params}{h:Heap}{mg:Str->Option Value}{x:Str}{st:Stmt}{ps:List Str}{y:Str}{fa:Addr}
abbrev fx(P:Params)(x:Str)(f:Nat):=(nsIn (K P) mainGlobals x,List.lookup f (K P),codeIn (K P) (.ref (f-1)) x,keepIn (K P) (.ref f))
abbrev fw(x:Str)(st:Stmt)(f:Nat)(m:Value):Option (Option Value)×Option Obj×Bool×Bool:=(some (some (.ref f)),some ⟨.type "function",none,.func (fnOf x x (JE st) (QY st) (Qc st) .none .none .none m none (.ref (f-1)) .none),#[]⟩,true,true)
theorem dk(f:Nat)(m:Value)(X:Frag.In (K P) h)(G:h.Ns mainGlobals mg)(hb:∀(kV doc pm:Value)(an:Option Addr)(ao ct:Value)(us:List Value),us.length=ps.length->bindArgs (fnOf x x (JE st) (QY st) (Qc st) .none kV doc pm an ao ct) ⟨us,[]⟩=pure (ps.zip us):=by intro _ _ _ _ _ _ us hl;rcases us with _|⟨_,_|⟨_,_|⟨_,_|⟨_,_|⟨_,_|⟨_,_⟩⟩⟩⟩⟩⟩<;>first|(exfalso;simp at hl;done)|rfl)(e:fx P x f=fw x st f m:=by kernel_rfl):Wd.Df (K P) mg x st ps:=by
 obtain⟨a,l,c,k⟩:_/\_/\_/\_:=by simpa only[Prod.mk.injEq]using e
 exact Wd.df_mk X G hb a l c k
theorem gk{i:Int}(t:Nat)(X:Frag.In (K P) h)(G:h.Ns mainGlobals mg)(a:nsIn (K P) mainGlobals x=some (some (.int i t)):=by kernel_rfl):∃t,mg x=some (.int i t):=Wd.gint_mk X G a ⟨_,rfl⟩
variable(X:Frag.In (K P) h)(G:h.Ns mainGlobals mg)
include X G
theorem Qnv:Wd.Df (K P) mg "figures" Qd0 Vd:=dk 160 m0 X G
theorem QlM:Wd.Df (K P) mg "is_style" Qdi YF:=dk 167 m1 X G
theorem Qj0:Wd.Df (K P) mg "is_titled" Qck Yo:=dk 174 m1 X G
theorem Qpi:Wd.Df (K P) mg "is_set" QeI VG:=dk 181 m1 X G
theorem QlK:Wd.Df (K P) mg "label_of" Qdg YD:=dk 188 m1 X G
theorem QlL:Wd.Df (K P) mg "items_of" Qdh YE:=dk 195 m1 X G
theorem QsH:Wd.Df (K P) mg "refs" Qfn QdM:=dk 200 m1 X G
theorem QjY:Wd.Df (K P) mg "pages_for" QaO ZK:=dk 205 m1 X G
theorem QfX:Wd.Df (K P) mg "pages_at_most" Y0 JK:=dk 210 m1 X G
theorem QgH:Wd.Df (K P) mg "room_at_most" Qax Zi:=dk 217 m1 X G
theorem Qjl:Wd.Df (K P) mg "any_longer" V6 Zv:=dk 222 m1 X G
theorem Qf0:Wd.Df (K P) mg "is_wide_block" Qab Yd:=dk 229 m1 X G
theorem QgK:Wd.Df (K P) mg "is_wide_item" QaA Zk:=dk 236 m1 X G
theorem Qf1:Wd.Df (K P) mg "is_high_block" Qac J1:=dk 243 m1 X G
theorem QgL:Wd.Df (K P) mg "is_high_item" QaB Zl:=dk 250 m1 X G
theorem Qj1:Wd.Df (K P) mg "add_label" Qcl Yp:=dk 257 m1 X G
theorem QfZ:Wd.Df (K P) mg "look_at_block" Qaa J0:=dk 264 m1 X G
theorem QgJ:Wd.Df (K P) mg "look_at_item" Qaz Zj:=dk 271 m1 X G
theorem QfY:Wd.Df (K P) mg "look_at_items" Y1 Yc:=dk 276 m1 X G
theorem QgI:Wd.Df (K P) mg "look_at_refs" Qay Yy:=dk 283 m1 X G
theorem QsI:Wd.Df (K P) mg "look" QhU QdN:=dk 290 m1 X G
theorem Qjk:Wd.Df (K P) mg "most_pages" QbO ZX:=dk 297 m1 X G
theorem QjZ:Wd.Df (K P) mg "most_room" Qcj Yn:=dk 304 m1 X G
theorem QlQ:Wd.Df (K P) mg "_law_cell_at" Qdm YG:=dk 311 m2 X G
theorem QsJ:Wd.Df (K P) mg "_law_mix" QhV QdO:=dk 318 m2 X G
theorem Qpm:Wd.Df (K P) mg "_law_label" QeL QbG:=dk 325 m2 X G
theorem Qnw:Wd.Df (K P) mg "_law_plates" Qd1 QaW:=dk 332 m2 X G
theorem Qpk:Wd.Df (K P) mg "_law_signs" QeK QbE:=dk 339 m2 X G
theorem Qq6:Wd.Df (K P) mg "_law_atom" QcB QcL:=dk 344 m2 X G
theorem QlO:Wd.Df (K P) mg "_law_pointed" Qdk V1:=dk 351 m2 X G
theorem QlP:Wd.Df (K P) mg "_law_grouped" Qdl V2:=dk 358 m2 X G
theorem Qq3:Wd.Df (K P) mg "_law_edge" Qem QcI:=dk 363 m2 X G
theorem Qpl:Wd.Df (K P) mg "_law_needs" YB QbF:=dk 368 m2 X G
theorem QqZ:Wd.Df (K P) mg "_law_most" Qel QcF:=dk 373 m2 X G
theorem Qpn:Wd.Df (K P) mg "_law_drawn" QbA QbH:=dk 378 m2 X G
theorem Qq4:Wd.Df (K P) mg "_law_copy" Qgk QcJ:=dk 385 m2 X G
theorem Qq1:Wd.Df (K P) mg "_law_long" Qgi Qan:=dk 392 m2 X G
theorem Qpj:Wd.Df (K P) mg "_law_taken" QeJ QbD:=dk 399 m2 X G
theorem Qq0:Wd.Df (K P) mg "_law_more" Qgh QcG:=dk 406 m2 X G
theorem Qq5:Wd.Df (K P) mg "_law_bent" Qen QcK:=dk 411 m2 X G
theorem Qpo:Wd.Df (K P) mg "_law_built" Qc9 QbI:=dk 416 m2 X G
theorem Qjm:Wd.Df (K P) mg "_law_label_due" QbP ZY:=dk 423 m2 X G
theorem Qjn:Wd.Df (K P) mg "_law_items_due" Vf Vg:=dk 428 m2 X G
theorem Qjo:Wd.Df (K P) mg "_law_block_due" V7 Zw:=dk 433 m2 X G
theorem QsK:Wd.Df (K P) mg "_law_due" QhW QdP:=dk 440 m2 X G
theorem Qq2:Wd.Df (K P) mg "_law_kind" Qgj QcH:=dk 447 m2 X G
theorem QlN:Wd.Df (K P) mg "_law_refused" Qdj V0:=dk 454 m2 X G
theorem Qtv(hm:mg "law"=some (.ref fa)):∃fd,(∀(s:Shared)(u:Value),BindsTo s fd ⟨[u],[]⟩ [("_law_script",u)])/\L2.Fun (K P) "law" "law" QhD fa fd:=by
 have e:fx P "law" 461=fw "law" QhD 461 m2:=by kernel_rfl
 obtain⟨a,l,c,k⟩:_/\_/\_/\_:=by simpa only[Prod.mk.injEq]using e
 exact Wd.law_mk X G hm (λ_ _ _ _ _ _ u=>rfl) a l c k
theorem QmE:∃C CB f fd,Wd.XDf (K P) mg "TooWide" "TooWide.__init__" 1 QaT C CB f fd:=Wd.XDf.of (C:=56) (CB:=24) (f:=53) (oc:=.type "function") (od:=none) (kV:=.none) (dc:=.none) (pm:=.str "leastbook.errors" 187) (an:=none) (cd:=.ref 52) (ct:=.none) (osl:=#[]) X G (λus hl=>match us,hl with|[_,_],_=>rfl) (by kernel_rfl) (by kernel_rfl) (by kernel_rfl)
theorem QmF:∃C CB f fd,Wd.XDf (K P) mg "TooHigh" "TooHigh.__init__" 2 QaU C CB f fd:=Wd.XDf.of (C:=75) (CB:=24) (f:=72) (oc:=.type "function") (od:=none) (kV:=.none) (dc:=.none) (pm:=.str "leastbook.errors" 187) (an:=none) (cd:=.ref 71) (ct:=.none) (osl:=#[]) X G (λus hl=>match us,hl with|[_,_],_=>rfl) (by kernel_rfl) (by kernel_rfl) (by kernel_rfl)
theorem QpU:∃C CB f fd,Wd.XDf (K P) mg "Twice" "Twice.__init__" 3 QcA C CB f fd:=Wd.XDf.of (C:=94) (CB:=24) (f:=91) (oc:=.type "function") (od:=none) (kV:=.none) (dc:=.none) (pm:=.str "leastbook.errors" 187) (an:=none) (cd:=.ref 90) (ct:=.none) (osl:=#[]) X G (λus hl=>match us,hl with|[_,_],_=>rfl) (by kernel_rfl) (by kernel_rfl) (by kernel_rfl)
theorem QpV:∃C CB f fd,Wd.XDf (K P) mg "Loose" "Loose.__init__" 4 QcC C CB f fd:=Wd.XDf.of (C:=113) (CB:=24) (f:=110) (oc:=.type "function") (od:=none) (kV:=.none) (dc:=.none) (pm:=.str "leastbook.errors" 187) (an:=none) (cd:=.ref 109) (ct:=.none) (osl:=#[]) X G (λus hl=>match us,hl with|[_,_],_=>rfl) (by kernel_rfl) (by kernel_rfl) (by kernel_rfl)
theorem QmG:∃C CB f fd,Wd.XDf (K P) mg "NoLabel" "NoLabel.__init__" 5 QaV C CB f fd:=Wd.XDf.of (C:=132) (CB:=24) (f:=129) (oc:=.type "function") (od:=none) (kV:=.none) (dc:=.none) (pm:=.str "leastbook.errors" 187) (an:=none) (cd:=.ref 128) (ct:=.none) (osl:=#[]) X G (λus hl=>match us,hl with|[_,_],_=>rfl) (by kernel_rfl) (by kernel_rfl) (by kernel_rfl)
theorem txt:Txt (K P) mg:=⟨gk 377 X G,gk 379 X G,gk 375 X G,mg_none_of X G (by kernel_rfl),mg_none_of X G (by kernel_rfl),mg_none_of X G (by kernel_rfl),mg_none_of X G (by kernel_rfl),mg_none_of X G (by kernel_rfl),mg_none_of X G (by kernel_rfl),mg_none_of X G (by kernel_rfl),mg_none_of X G (by kernel_rfl),mg_none_of X G (by kernel_rfl),mg_none_of X G (by kernel_rfl),mg_none_of X G (by kernel_rfl),mg_none_of X G (by kernel_rfl),mg_none_of X G (by kernel_rfl),mg_of X G (by kernel_rfl),mg_of X G (by kernel_rfl),mg_of X G (by kernel_rfl),mg_of X G (by kernel_rfl),mg_of X G (by kernel_rfl),mg_of X G (by kernel_rfl),mg_of X G (by kernel_rfl),Wd.MkX0.of (C:=37) (CB:=24) X G (by kernel_rfl),Wd.xt_of (CB:=24) (mg_of X G (by kernel_rfl)) (by kernel_rfl),Wd.xr_of (by kernel_rfl),trivial⟩
end
end Hd
open PySem PySem.W PyProof.Rows
name_quick haQ for Hd.ha by Hd.ha_r
name_quick hbQ for Hd.hb by Hd.hb_r
name_quick hcQ for Hd.hc by Hd.hc_r
name_quick wbQ for Hd.wb by Hd.wb_r
name_quick wcQ for Hd.wc by Hd.wc_r
namespace Hd
theorem oa(w:World)(os:OsState):Fast.haQ w os=some true:=by kernel_rfl
theorem oz(w:World)(os:OsState):Fast.hbQ w os=Fast.wbQ:=by kernel_rfl
theorem oc(w:World)(os:OsState):Fast.hcQ w os=Fast.wcQ w:=by kernel_rfl
theorem pa(w:World)(os:OsState):ha w os=some true:=by rw[Fast.haQ_eq];exact oa w os
theorem pb(w:World)(os:OsState):hb w os=wb:=by rw[Fast.hbQ_eq,Fast.wbQ_eq];exact oz w os
theorem pc(w:World)(os:OsState):hc w os=wc w:=by rw[Fast.hcQ_eq,Fast.wcQ_eq];exact oc w os
theorem hl:LeftO p vw ls Xt (λs=>as.map s.heap.get?) (λw=>(K w.params).map λp=>some p.2) 6772:=left (M:=6772) (by kernel_rfl) (λs=>by kernel_rfl) rfl rfl (λw=>by kernel_rfl) pa pb pc
end Hd
open Hd My
set_option maxRecDepth 100000 in set_option maxHeartbeats 0 in
theorem PySem.Challenge.cw_leastbook_k12_most_pages_holds : PySem.Challenge.rw_leastbook_k12_most_pages.Holds := by
 w_on;o_law;refine holds_open (q:=vw) (loose:=ls) (Xt:=Hd.Xt) (XP:=XL vw []) (YP:=InK K) hl (InK.of QtB) InK.keeps (λs e=>xl_of s (Bool.and_eq_true_iff.mp e).1) XL.keeps rfl rfl rfl (λs e=>recFacts_of (Bool.and_eq_true_iff.mp e).2) rfl ‹_› (by decide+kernel) ⟨rfl,rfl,rfl,rfl,rfl,by decide+kernel⟩ ?hw ?hc;case hw=>w_witness2
 refine My.walk (l:=PySem.Challenge.rw_leastbook_k12_most_pages) rfl rfl (λw h Y=>Y) ?F;intro w mg fa h X G fK;have T:=txt X G;obtain⟨fd,hb,F⟩:=Qtv X G fK;refine⟨fd,hb,λb kb nb=>?_⟩;have aJ:=Qlu (P:=p) (w:=w) (ae:=b) (QmE X G);have aK:=Qlv (P:=p) (w:=w) (ae:=b) (QmF X G);have bS:=QoC (P:=p) (w:=w) (ae:=b) (QpU X G);have bY:=QoL (P:=p) (w:=w) (ae:=b) (QpV X G);have bB:=Qlx (P:=p) (w:=w) (ae:=b) (QmG X G);have bz:=Qlt (P:=p) (w:=w) (ae:=b) (Qnv X G) T;have bg:=QjN (P:=p) (w:=w) (ae:=b) (QlM X G) T;have aB:=Qjc (P:=p) (w:=w) (ae:=b) (Qj0 X G) T;have aM:=Qm2 (P:=p) (w:=w) (ae:=b) (Qpi X G) T;have aU:=QjL (P:=p) (w:=w) (ae:=b) (QlK X G) T;have au:=QjM (P:=p) (w:=w) (ae:=b) (QlL X G) T;have cg:=Qqr (P:=p) (w:=w) (ae:=b) (QsH X G) T au;have ba:=Qja (P:=p) (w:=w) (ae:=b) (QjY X G) T aM aB au;have aq:=Qe9 (P:=p) (w:=w) (ae:=b) (QfX X G) T ba;have ar:=QfR (P:=p) (w:=w) (ae:=b) (QgH X G) T bz aq;have ax:=Qhr (P:=p) (w:=w) (ae:=b) (Qjl X G) T;have aG:=Qfc (P:=p) (w:=w) (ae:=b) (Qf0 X G) T ax aB;have aP:=QfU (P:=p) (w:=w) (ae:=b) (QgK X G) T ax;have aH:=Qfd (P:=p) (w:=w) (ae:=b) (Qf1 X G) T;have aQ:=QfV (P:=p) (w:=w) (ae:=b) (QgL X G) T;have aC:=Qjd (P:=p) (w:=w) (ae:=b) (Qj1 X G) T bS;have aF:=Qfb (P:=p) (w:=w) (ae:=b) (QfZ X G) T aK aJ aC aH aG aU;have aO:=QfT (P:=p) (w:=w) (ae:=b) (QgJ X G) T aK aJ aC aQ aP;have aE:=Qfa (P:=p) (w:=w) (ae:=b) (QfY X G) T bY aM aO;have aN:=QfS (P:=p) (w:=w) (ae:=b) (QgI X G) T bB cg;have bt:=Qqs (P:=p) (w:=w) (ae:=b) (QsI X G) T bg au aF aE aN ar;have aw:=Qhq (P:=p) (w:=w) (ae:=b) (Qjk X G) T bt aq;have aA:=Qjb (P:=p) (w:=w) (ae:=b) (QjZ X G) T bt ar;have ah:=QjR (P:=p) (w:=w) (ae:=b) (QlQ X G) T;have av:=Qqt (P:=p) (w:=w) (ae:=b) (QsJ X G) T;have bJ:=Qm6 (P:=p) (w:=w) (ae:=b) (Qpm X G) T;have bA:=Qlw (P:=p) (w:=w) (ae:=b) (Qnw X G) T;have a9:=Qm4 (P:=p) (w:=w) (ae:=b) (Qpk X G) T;have bX:=QoK (P:=p) (w:=w) (ae:=b) (Qq6 X G) T bJ av bA a9;have bj:=QjP (P:=p) (w:=w) (ae:=b) (QlO X G) T av;have bo:=QjQ (P:=p) (w:=w) (ae:=b) (QlP X G) T;have bE:=QoH (P:=p) (w:=w) (ae:=b) (Qq3 X G) T ah av;have bI:=Qm5 (P:=p) (w:=w) (ae:=b) (Qpl X G) T;have aI:=QoD (P:=p) (w:=w) (ae:=b) (QqZ X G) T;have bK:=Qm7 (P:=p) (w:=w) (ae:=b) (Qpn X G) T bX ah bE bo av aI bI bj;have bV:=QoI (P:=p) (w:=w) (ae:=b) (Qq4 X G) T;have aD:=QoF (P:=p) (w:=w) (ae:=b) (Qq1 X G) T;have bH:=Qm3 (P:=p) (w:=w) (ae:=b) (Qpj X G) T;have bT:=QoE (P:=p) (w:=w) (ae:=b) (Qq0 X G) T aD;have bW:=QoJ (P:=p) (w:=w) (ae:=b) (Qq5 X G) T bT bH;have bL:=Qm8 (P:=p) (w:=w) (ae:=b) (Qpo X G) T bW ah bK av;have az:=Qhs (P:=p) (w:=w) (ae:=b) (Qjm X G) T;have aW:=Qht (P:=p) (w:=w) (ae:=b) (Qjn X G) T az;have aX:=Qhu (P:=p) (w:=w) (ae:=b) (Qjo X G) T aW az;have cj:=Qqu (P:=p) (w:=w) (ae:=b) (QsK X G) T aX aI;have bU:=QoG (P:=p) (w:=w) (ae:=b) (Qq2 X G) T;have aV:=QjO (P:=p) (w:=w) (ae:=b) (QlN X G) T bU aw aA;exact Qr9 F T bL bV cj aI aV aw aA
#print axioms PySem.Challenge.cw_leastbook_k12_most_pages_holds
