import PyProof.Rows.All
import Wide.All
import OpenK.AllK
import Wide.FinOn
import Lean
import PyProof.EqAt
import PyProof.EqKinds
import PyProof.TupleCall
import PyProof.NeKinds
import PyProof.ZipIter
import KE.KDictList
import KE.KItemsList
import KE.KSortTup
import KE.KDictLaws
import PySem.Challenge.RW_leastbook_k26_keys_and_pages
set_option maxHeartbeats 4000000
set_option Elab.async false
set_option linter.all false
set_option maxRecDepth 100000
open List(filterMap_cons mem_cons_self mem_cons_of_mem mem_append_left getElem?_set_ne mem_append_right append_nil of_mem_zip length_take getElem?_append_right getElem?_replicate getElem?_append_left getElem?_map take_sublist mem_of_getElem? length_append length_map length_replicate size_toArray length_drop map_nil map_cons all_cons any_cons replicate_succ flatten_cons append_assoc foldl_cons nil_append find?_cons length_cons length_nil getElem?_eq_getElem zip_cons_cons mem_append mem_cons getElem?_set length_set getElem?_eq_none drop_zero drop_eq_getElem_cons drop_eq_nil_of_le getElem?_cons_succ lookup_cons map_congr_left length_range take_length getD_eq_getElem?_getD getElem_mem getElem_of_mem length_zip not_mem_nil pairwise_map map_map nodup_append nodup_nil map_append foldl_append flatMap_cons take_succ_eq_append_getElem flatMap_append take_append_drop length_filter_le getElem?_cons_zero filter_append filter_cons sum_cons take_zero getLast?_concat)
open Nat(lt_of_lt_of_le lt_irrefl ne_of_lt le_trans le_of_lt ne_of_gt le_refl le_of_eq zero_le min_self succ_le_succ lt_or_ge le_succ lt_succ_of_lt le_succ_of_le le_add_right lt_of_le_of_lt)
open Int(le_antisymm emod_nonneg emod_lt_of_pos add_le_add_right add_le_add lt_trans lt_succ lt_or_eq_of_le add_lt_add_right)
open Array(length_toList)
open Bool(and_eq_true)
open Option(getD_none isSome_map map_some join_some bind_some)
noncomputable section
namespace L2
open PySem PySem.Spec PyProof.Rows
abbrev Key:=Sum Int Str
noncomputable def Qef:Key->Value->Bool|.inl k,v=>Value.isInt k v|.inr x,v=>Value.isStrOf x v
noncomputable def QxN(w:World):Key->Int|.inl k=>hashInt k|.inr x=>hashStr w x
theorem Zu:∀{k:Key}{v:Value},Qef k v=true->(∃i t,k=Sum.inl i/\v=Value.int i t)\/∃x t,k=Sum.inr x/\v=Value.str x t|.inl i,v,h=>by obtain⟨t,e⟩:=Value.isInt_shape (k:=i) (v:=v) h;exact .inl ⟨i,t,rfl,e⟩|.inr x,v,h=>by obtain⟨t,e⟩:=Value.isStrOf_shape (x:=x) (v:=v) h;exact .inr ⟨x,t,rfl,e⟩
theorem Qq9(i:Int)(t:Tok):Qef (.inl i) (.int i t)=true:=by simp[Qef,Value.isInt]
theorem Qq8(x:Str)(t:Tok):Qef (.inr x) (.str x t)=true:=by simp[Qef,Value.isStrOf]
theorem Qwj(a b:Int):decide ((Sum.inl a:Key)=Sum.inl b)=(a==b):=by
 by_cases e:a=b;·subst e;simp
 ·have h:¬(Sum.inl a:Key)=Sum.inl b:=λq=>e (Sum.inl.inj q);rw[decide_eq_false h];exact(beq_eq_false_iff_ne.mpr e).symm
theorem Qwg(a b:Str):decide ((Sum.inr a:Key)=Sum.inr b)=decide (a=b):=by
 by_cases e:a=b;·subst e;simp
 ·have h:¬(Sum.inr a:Key)=Sum.inr b:=λq=>e (Sum.inr.inj q);rw[decide_eq_false h,decide_eq_false e]
theorem Qwi(a:Int)(b:Str):decide ((Sum.inl a:Key)=Sum.inr b)=false:=decide_eq_false λq=>nomatch q
theorem Qwh(a:Str)(b:Int):decide ((Sum.inr a:Key)=Sum.inl b)=false:=decide_eq_false λq=>nomatch q
def Zr(prog:Program)(w:World):PySem.KeyKind prog w Key where
 is:=Qef
 hash:=QxN w
 inj:=λv a b ha hb=>by
  rcases Zu ha with⟨i,t,rfl,rfl⟩|⟨x,t,rfl,rfl⟩
  ·rcases Zu hb with⟨j,u,rfl,e⟩|⟨y,u,rfl,e⟩;·injection e with e1 _;rw[e1]
   ·exact nomatch e
  ·rcases Zu hb with⟨j,u,rfl,e⟩|⟨y,u,rfl,e⟩;·exact nomatch e
   ·injection e with e1 _;rw[e1]
 byValue:=λk v h=>by rcases Zu h with⟨i,t,rfl,rfl⟩|⟨x,t,rfl,rfl⟩<;>rfl
 pyHash:=λhv h=>by
  rcases Zu hv with⟨i,t,rfl,rfl⟩|⟨x,t,rfl,rfl⟩;·exact wpAny_pyHash_int h
  ·exact wpAny_pyHash_str h
 eqBool:=λhu hv h=>by
  rcases Zu hu with⟨i,t,rfl,rfl⟩|⟨x,t,rfl,rfl⟩
  ·rcases Zu hv with⟨j,u,rfl,rfl⟩|⟨y,u,rfl,rfl⟩;·rw[Qwj]at h;exact wpAny_eqBool_int h
   ·rw[Qwi]at h;exact SeqAt.EqAt.int_str i t y u _ _ _ _ h
  ·rcases Zu hv with⟨j,u,rfl,rfl⟩|⟨y,u,rfl,rfl⟩;·rw[Qwh]at h;exact SeqAt.EqAt.str_int x t j u _ _ _ _ h
   ·rw[Qwg]at h;exact wpAny_eqBool_str h
 «strs»:=λk x t v h=>by
  rcases Zu h with⟨i,u,rfl,e⟩|⟨y,u,rfl,e⟩;·exact nomatch e
  ·injection e with e1 _;subst e1;cases v<;>rfl
theorem Qm8(prog:Program)(w:World)(i:Int)(t:Tok):(Zr prog w).is (.inl i) (.int i t)=true:=Qq9 i t
theorem Qm7(prog:Program)(w:World)(x:Str)(t:Tok):(Zr prog w).is (.inr x) (.str x t)=true:=Qq8 x t
inductive V where|non|bl(b:Bool)|int(i:Int)|str(x:Str)|byt(b:Array UInt8)|flt(b:UInt64)|ref(a:Addr)|ty(n:String)deriving DecidableEq
noncomputable def RelV:V->Value->Prop|.non,u=>u=Value.none|.bl b,u=>u=Value.bool b|.int i,u=>∃t,u=Value.int i t|.str x,u=>∃t,u=Value.str x t|.byt b,u=>∃t,u=Value.bytes b t|.flt b,u=>∃t,u=Value.float b t|.ref a,u=>u=Value.ref a|.ty n,u=>u=Value.type n
abbrev Vals:List V->List Value->Prop:=Paired RelV
theorem Vals.length{xs:List V}{us:List Value}(r:Vals xs us):xs.length=us.length:=Paired.length r
theorem Vals.get:∀{xs:List V}{us:List Value}{i:Nat}{x:V},Vals xs us->xs[i]?=some x->∃u,us[i]?=some u/\RelV x u|_,_,_,_,.nil,e=>by simp at e|_,_,0,_,.cons r _,e=>by simp at e;subst e;exact⟨_,rfl,r⟩|_,_,i+1,x,.cons _ t,e=>by obtain⟨u,h1,h2⟩:=Vals.get (i:=i) (x:=x) t (by simpa using e);exact⟨u,by simpa using h1,h2⟩
theorem Vals.set{x:V}{u:Value}(r:RelV x u):∀{xs:List V}{us:List Value}(i:Nat),Vals xs us->Vals (xs.set i x) (us.set i u)|_,_,_,.nil=>.nil|_,_,0,.cons _ t=>.cons r t|_,_,i+1,.cons q t=>.cons q (Vals.set r i t)
theorem Vals.append:∀{xs ys:List V}{us ws:List Value},Vals xs us->Vals ys ws->Vals (xs++ys) (us++ws)|_,_,_,_,.nil,s=>s|_,_,_,_,.cons r t,s=>.cons r (Vals.append t s)
theorem Vals.take:∀{xs:List V}{us:List Value}(n:Nat),Vals xs us->Vals (xs.take n) (us.take n)|_,_,0,_=>.nil|_,_,_+1,.nil=>.nil|_,_,n+1,.cons r t=>.cons r (Vals.take n t)
theorem Vals.drop:∀{xs:List V}{us:List Value}(n:Nat),Vals xs us->Vals (xs.drop n) (us.drop n)|_,_,0,r=>r|_,_,_+1,.nil=>.nil|_,_,n+1,.cons _ t=>Vals.drop n t
def RelO:Option V->Option Value->Prop|some v,some u=>RelV v u|none,none=>True|_,_=>False
def KV{κ:Type}:List (κ×V)->List (κ×Value)->Prop:=Paired λ(p:κ×V)(q:κ×Value)=>p.1=q.1/\RelV p.2 q.2
noncomputable def kV:Key->V|.inl i=>.int i|.inr x=>.str x
inductive HO where|lst(xs:List V)|tup(xs:List V)|dK(ah:List (Key×V))|dT(ah:List (List Key×V))|set(S:Int->Bool)(n:Nat)|ins(C dx:Addr)(fs:List (Str×V))|own(x:Addr)|xd(fs:List (Str×V))|met(f x:Addr)|rng(lo hi:Int)|frz(o:Obj)(u:HO)|tbl(ps:Array Value)|ext(φ:Heap->Prop)
abbrev Hp:=Addr->Option HO
noncomputable def upd(H:Hp)(a:Addr)(o:HO):Hp:=λb=>if b=a then some o else H b
theorem QJ{H:Hp}{a:Addr}{o:HO}:upd H a o a=some o:=by unfold upd;rw[if_pos rfl]
theorem Qn{H:Hp}{a b:Addr}{o:HO}(h:b≠a):upd H a o b=H b:=by unfold upd;rw[if_neg h]
theorem Qw2{H:Hp}{a b:Addr}{o u:HO}(h:H a=some o)(h':H b=some u)(d:o≠u):a≠b:=by intro e;subst e;rw[h]at h';exact d (Option.some.inj h')
theorem J6{H:Hp}{a b:Addr}{o:HO}(h:H a=some o)(h':H b=none):a≠b:=by intro e;subst e;rw[h]at h';cases h'
section
variable(P:Program)(w:World)
def ObjOk(H:Hp)(h:Heap)(a:Addr):HO->Prop|.lst xs=>xs.length<=sizeLine/\∃(its:List Value)(n:Nat),Vals xs its/\h.get? a=some {cls:=.type "list",data:=.seq its.toArray n}|.tup xs=>xs.length<=sizeLine/\∃its:List Value,Vals xs its/\IsTup h a its.toArray|.dK ah=>ah.length<=sizeLine/\(a==sysModules)=false/\∃vs,KV ah vs/\h.DictOf (Zr P w) a vs|.dT ah=>ah.length<=sizeLine/\(a==sysModules)=false/\∃xs:List (List Key×Addr×Value),Paired (λ(p:List Key×V)(q:List Key×Addr×Value)=>p.1=q.1/\H q.2.1=some (.tup (p.1.map kV))/\RelV p.2 q.2.2) ah xs/\∃o es ep,h.get? a=some o/\o.ExactDict/\o.data=.dict es ep/\es.toList=xs.map (entryOfKey (tupleKind (Zr P w)))/\(xs.map (·.1)).Nodup|.set S n=>h.SetOf (intKind P w) a S n|.ins C dx fs=>H dx=some (.own a)/\fs.length<=1000/\dx≠a/\h.get? a=some (W.instObj C dx)/\∃mA,h.Ns1 dx mA/\(∀f,RelO (fs.lookup f) (mA f))/\PySem.Within mA (fs.map (·.1))|.own _=>∃o,h.get? a=some o|.xd fs=>∃mA,h.Ns1 a mA/\∀f,RelO (fs.lookup f) (mA f)|.rng lo hi=>∃t u v,h.get? a=some {cls:=.type "range",data:=.fields #[.int lo t,.int hi u,.int 1 v]}|.frz o u=>h.get? a=some o/\ObjOk H h a u|.tbl ps=>h.get? a=some {cls:=.none,data:=.fields ps}|.met f x=>h.get? a=some (W.methodObj (.ref f) (.ref x))|.ext φ=>φ h/\(∃o,h.get? a=some o)/\∀h1 h2:Heap,φ h1->(∀o,h1.get? a=some o->h2.get? a=some o)->φ h2
def HOk(H:Hp)(h:Heap):Prop:=∀a o,H a=some o->ObjOk P w H h a o
end
section
variable{P:Program}{w:World}{H H':Hp}{h h':Heap}{a:Addr}{o:HO}
theorem ObjOk.lt(x:ObjOk P w H h a o):a<h.objs.size:=by cases o with|lst xs=>obtain⟨_,_,_,_,e⟩:=x;exact Heap.lt_size e|tup xs=>obtain⟨_,_,_,p⟩:=x;exact p.lt|dK ah=>obtain⟨_,_,_,_,o,_,_,e,_⟩:=x;exact Heap.lt_size e|dT ah=>obtain⟨_,_,_,_,o,_,_,e,_⟩:=x;exact Heap.lt_size e|set S n=>obtain⟨o,_,_,_,e,_⟩:=x;exact Heap.lt_size e|ins C dx fs=>obtain⟨_,_,_,e,_⟩:=x;exact Heap.lt_size e|own y=>obtain⟨_,e⟩:=x;exact Heap.lt_size e|xd fs=>obtain⟨_,⟨_,_,_,e,_⟩,_⟩:=x;exact Heap.lt_size e|rng lo hi=>obtain⟨_,_,_,e⟩:=x;exact Heap.lt_size e|frz ob u=>obtain⟨e,_⟩:=x;exact Heap.lt_size e|tbl ps=>exact Heap.lt_size (show h.get? a=some _ from x)|met f y=>exact Heap.lt_size (show h.get? a=some _ from x)|ext φ=>obtain⟨_,⟨_,e⟩,_⟩:=x;exact Heap.lt_size e
theorem Paired.mapP{α β:Type}{F G:α->β->Prop}:∀{l₁:List α}{l₂:List β},Paired F l₁ l₂->(∀a b,F a b->G a b)->Paired G l₁ l₂|_,_,.nil,_=>.nil|_,_,.cons r t,f=>.cons (f _ _ r) (Paired.mapP t f)
theorem ObjOk.stay(x:ObjOk P w H h a o)(k:∀b u,(b=a\/H b=some (.own a))->h.get? b=some u->h'.get? b=some u)(ho:∀b,H b=some (.own a)->H' b=some (.own a))(ht:∀b xs,H b=some (.tup xs)->H' b=some (.tup xs)):ObjOk P w H' h' a o:=by induction o with|lst xs=>obtain⟨z,its,n,r,e⟩:=x;exact⟨z,its,n,r,k _ _ (.inl rfl) e⟩|tup xs=>obtain⟨z,its,r,ob,e,c⟩:=x;exact⟨z,its,r,ob,k _ _ (.inl rfl) e,c⟩|dK ah=>obtain⟨z,y,vs,r,ob,es,ep,e,c⟩:=x;exact⟨z,y,vs,r,ob,es,ep,k _ _ (.inl rfl) e,c⟩|dT ah=>obtain⟨z,y,xs,r,ob,es,ep,e,c⟩:=x;exact⟨z,y,xs,Paired.mapP r λp q z=>⟨z.1,ht _ _ z.2.1,z.2.2⟩,ob,es,ep,k _ _ (.inl rfl) e,c⟩|set S n=>obtain⟨ob,es,ep,t,e,c⟩:=x;exact⟨ob,es,ep,t,k _ _ (.inl rfl) e,c⟩|ins C dx fs=>obtain⟨d,z,ne,e,mA,⟨od,es,ep,e2,c⟩,r⟩:=x;exact⟨ho _ d,z,ne,k _ _ (.inl rfl) e,mA,⟨od,es,ep,k _ _ (.inr d) e2,c⟩,r⟩|own y=>obtain⟨ob,e⟩:=x;exact⟨ob,k _ _ (.inl rfl) e⟩|xd fs=>obtain⟨mA,⟨od,es,ep,e,c⟩,r⟩:=x;exact⟨mA,⟨od,es,ep,k _ _ (.inl rfl) e,c⟩,r⟩|rng lo hi=>obtain⟨t,u,v,e⟩:=x;exact⟨t,u,v,k _ _ (.inl rfl) e⟩|frz ob u ih=>obtain⟨e,q⟩:=x;exact⟨k _ _ (.inl rfl) e,ih q⟩|tbl ps=>have e:h.get? a=some {cls:=.none,data:=.fields ps}:=x;show h'.get? a=some {cls:=.none,data:=.fields ps};exact k a _ (.inl rfl) e|met f y=>have e:h.get? a=some (W.methodObj (.ref f) (.ref y)):=x;show h'.get? a=some (W.methodObj (.ref f) (.ref y));exact k a _ (.inl rfl) e|ext φ=>obtain⟨p,⟨o,e⟩,st⟩:=x;exact⟨st _ _ p λo q=>k _ _ (.inl rfl) q,⟨o,k _ _ (.inl rfl) e⟩,st⟩
theorem HOk.lt(x:HOk P w H h)(e:H a=some o):a<h.objs.size:=(x a o e).lt
theorem HOk.fresh(x:HOk P w H h)(e:h.objs.size<=a):H a=none:=by cases q:H a with|none=>rfl|some u=>exact absurd (lt_of_lt_of_le (x.lt q) e) (lt_irrefl _)
theorem HOk.kept(x:HOk P w H h)(k:∀b u,h.get? b=some u->h'.get? b=some u):HOk P w H h':=λa o e=>(x a o e).stay (λb u _ q=>k b u q) (λ_ q=>q) λ_ _ q=>q
theorem HOk.laid(x:HOk P w H h)(k:∀b u,h.get? b=some u->h'.get? b=some u)(hp:h.objs.size<=a)(new:ObjOk P w (upd H a o) h' a o):HOk P w (upd H a o) h':=λb u e=>by
 have hn:=x.fresh hp;by_cases hb:b=a;·subst hb;rw[QJ]at e;cases e;exact new
 ·rw[Qn hb]at e;exact(x b u e).stay (λc v _ q=>k c v q) (λc q=>by rw[Qn (J6 q hn)];exact q) λc xs q=>by rw[Qn (J6 q hn)];exact q
end
def Rd(H:Hp)(a:Addr)(u:HO):Prop:=H a=some u\/∃o,H a=some (.frz o u)
theorem Rd.of{H:Hp}{a:Addr}{u:HO}(h:H a=some u):Rd H a u:=.inl h
theorem Rd.ok{P:Program}{w:World}{H:Hp}{h:Heap}{a:Addr}{u:HO}(r:Rd H a u)(x:HOk P w H h):ObjOk P w H h a u:=by
 rcases r with r|⟨o,r⟩;·exact x a u r
 ·obtain⟨_,q⟩:=x a _ r;exact q
noncomputable def Mut:Option HO->Prop|some (.lst _)=>True|some (.dK _)=>True|some (.dT _)=>True|some (.set _ _)=>True|some (.ins _ _ _)=>True|some (.ext _)=>True|_=>False
section
variable{P:Program}{w:World}{H:Hp}{h h':Heap}{x e:Addr}{o':HO}
theorem HOk.write(ok:HOk P w H h)(mu:Mut (H x))(he:e=x\/H e=some (.own x))(k:∀b u,b≠e->h.get? b=some u->h'.get? b=some u)(e9:∃u,h'.get? e=some u)(new:ObjOk P w (upd H x o') h' x o'):HOk P w (upd H x o') h':=λb u q=>by
 have fS:∀c y,H c=some (.own y)->c≠x:=λc y r z=>by subst z;rw[r]at mu;exact mu
 have iN:∀c xs,H c=some (.tup xs)->c≠x:=λc xs r z=>by subst z;rw[r]at mu;exact mu
 by_cases hb:b=x;·subst hb;rw[QJ]at q;cases q;exact new
 ·rw[Qn hb]at q;by_cases d8:b=e
  ·have q':H b=some (.own x):=by
    rcases he with z|z;·exact absurd (d8.trans z) hb
    ·rw[d8];exact z
   rw[q]at q';cases q';obtain⟨v,hv⟩:=e9;exact⟨v,by rw[d8];exact hv⟩
  ·refine(ok b u q).stay (λc v hc r=>k c v ?_ r) (λc r=>by rw[Qn (fS c b r)];exact r) λc xs r=>by rw[Qn (iN c xs r)];exact r
   rcases hc with rfl|hc;·exact d8
   ·rintro rfl;rcases he with z|z;·exact fS c b hc z
    ·rw[hc]at z;cases z;exact hb rfl
end
structure Un(fs ex:List Addr)(H H':Hp)(h h':Heap):Prop where
 keep:∀b o,h.get? b=some o->H b=none->b∉fs->b∉ex->h'.get? b=some o
 slot:∀b o,h.get? b=some o->H b=none->b∈fs->b∉ex->∃sl,h'.get? b=some {o with slots:=sl}free:∀b o,h.get? b=some o->H b=none->b∉ex->H' b=none
 there:∀b o,h.get? b=some o->b∉ex->∃o',h'.get? b=some o'
 tups:∀b xs,H b=some (.tup xs)->H' b=some (.tup xs)frzs:∀b o u,H b=some (.frz o u)->H' b=some (.frz o u)tbls:∀b ps,H b=some (.tbl ps)->∃more,H' b=some (.tbl (ps++more))
section
variable{fs lR ex ex':List Addr}{H H1 H2:Hp}{h h1 h2 h':Heap}{a x e:Addr}{o:HO}
theorem Un.any(u:Un fs ex H H1 h h1){b:Addr}{ob:Obj}(q:h.get? b=some ob)(n:H b=none)(hx:b∉ex):∃sl,h1.get? b=some {ob with slots:=sl}:=by
 by_cases hb:b∈fs;·exact u.slot b ob q n hb hx
 ·exact⟨ob.slots,u.keep b ob q n hb hx⟩
theorem Un.kept(k:∀b u,h.get? b=some u->h'.get? b=some u):Un fs ex H H h h':=⟨λb ob q _ _ _=>k b ob q,λb ob q _ _ _=>⟨ob.slots,k b ob q⟩,λ_ _ _ n _=>n,λb ob q _=>⟨ob,k b ob q⟩,λ_ _ q=>q,λ_ _ _ q=>q,λ_ ps q=>⟨#[],by rw[q];simp⟩⟩
theorem Un.refl:Un fs ex H H h h:=Un.kept λ_ _ q=>q
theorem Un.laid(k:∀b u,h.get? b=some u->h'.get? b=some u)(hp:h.objs.size<=a)(hn:H a=none):Un fs ex H (upd H a o) h h' where
 keep:=λb u q _ _ _=>k b u q
 slot:=λb u q _ _ _=>⟨u.slots,k b u q⟩
 free:=λb u q n _=>by rw[Qn (ne_of_lt (lt_of_lt_of_le (Heap.lt_size q) hp))];exact n
 there:=λb u q _=>⟨u,k b u q⟩
 tups:=λb xs q=>by rw[Qn (J6 q hn)];exact q
 frzs:=λb u xs q=>by rw[Qn (J6 q hn)];exact q
 tbls:=λb ps q=>⟨#[],by rw[Qn (J6 q hn),q];simp⟩
theorem Un.write(mu:Mut (H x))(he:e=x\/H e=some (.own x))(k:∀b u,b≠e->h.get? b=some u->h'.get? b=some u)(e9:∃u,h'.get? e=some u):Un fs ex H (upd H x o) h h':=by
 have hx:∀b,H b=none->b≠x:=λb n z=>by subst z;rw[n]at mu;exact mu
 have hb:∀b,H b=none->b≠e:=λb n z=>by
  subst z;rcases he with r|r;·exact hx b n r
  ·rw[n]at r;cases r
 have hm:∀b u,H b=some u->¬Mut (some u)->b≠x:=λb u q nm z=>by subst z;rw[q]at mu;exact nm mu
 refine⟨λb u q n _ _=>k b u (hb b n) q,λb u q n _ _=>⟨u.slots,k b u (hb b n) q⟩,λb u q n _=>by rw[Qn (hx b n)];exact n,λb u q _=>?_,λb xs q=>by rw[Qn (hm b _ q λz=>z)];exact q,λb u xs q=>by rw[Qn (hm b _ q λz=>z)];exact q,λb ps q=>⟨#[],by rw[Qn (hm b _ q λz=>z),q];simp⟩⟩;by_cases d8:b=e;·subst d8;exact e9
 ·exact⟨u,k b u d8 q⟩
end
noncomputable def trk(h:Heap)(H:Hp):List Addr:=(List.range h.objs.size).filter λa=>(H a).isSome
def Qd9(h:Heap)(H:Hp):Heap:=W.hideAll h (trk h H)
theorem Qrc(h:Heap)(H:Hp):(Qd9 h H).objs.size=h.objs.size:=W.hideAll_size _ _
theorem QsO{h:Heap}{H:Hp}{b:Addr}{o:Obj}(e:h.get? b=some o)(n:H b=none):(Qd9 h H).get? b=some o:=W.hideAll_get _ e λhm=>by have q:(H b).isSome=true:=(List.mem_filter.mp hm).2;rw[n]at q;simp at q
theorem Qud{h:Heap}{H:Hp}{b:Addr}{o:Obj}(e:(Qd9 h H).get? b=some o):h.get? b=some o/\H b=none:=by have e':h.get? b=some o:=W.of_hideAll (trk h H) e;refine⟨e',?_⟩;cases q:H b with|none=>rfl|some x=>have hm:b∈trk h H:=List.mem_filter.mpr ⟨List.mem_range.mpr (Heap.lt_size e'),by simp[q]⟩;have z:(Qd9 h H).get? b=none:=W.hideAll_none (trk h H) hm;rw[z]at e;cases e
noncomputable def Qu7(g h:Heap)(L:Addr):List (Addr×Obj):=(List.range h.objs.size).filterMap λa=>if a=L\/(g.get? a).isSome=true then none else(h.get? a).map λo=>(a,o)
def Jq(g h:Heap)(L d:Addr):List (Addr×Obj):=(Qu7 g h L).filter λp=>decide (p.1≠d)
structure Mod(K:W.Frag)(mg:Str->Option Value)(ab:Heap):Prop where
 kin:K.In ab
 glob:ab.Ns mainGlobals mg
 blt:∃mb,ab.Ns builtinsNs mb/\∀x:Str,x≠"__name__"->mb x=bootBuiltins x
 nolimit:ab.NoLimit
structure Cx where
 prog:Program
 w:World
 K:W.Frag
 mg:Str->Option Value
 ab:Heap
 A:Around
 N:List Str
 s₀:Shared
 H₀:Hp
 env:Env
 ag:List Env
 stack:List Env
 ex:List Addr
 fn:Str->Bool
 calm:Bool
 pn:List (Addr×Obj)xe:Value->Shared->Prop
noncomputable def frs(l:List Env):List Addr:=l.filterMap (·.frame)
abbrev Cx.fs(X:Cx):List Addr:=frs X.ag
def Vis(sc:Scope)(x:Str):Prop:=sc.names.lookup x=some .local\/sc.names.lookup x=some .cell\/sc.names.lookup x=some .free
def Loc(sc:Scope)(x:Str):Prop:=sc.names.lookup x=some .local\/sc.names.lookup x=some .cell
def QxU(env:Env)(h:Heap)(m:Str->Option Value)(x:Str)(u:Value):Prop:=env.kindOf x=some .local/\m x=some u\/(env.kindOf x=some .cell\/env.kindOf x=some .free)/\∃c,env.cells.lookup x=some c/\h.IsCell c (some u)
structure Cx.Ok(X:Cx):Prop where
 mod:Mod X.K X.mg X.ab
 kind:X.env.scope.kind=.function
 glob:X.env.globals=mainGlobals
 blt:X.env.builtins=builtinsNs
 above:X.s₀.heap.objs.size<=X.env.locals
 inj:∀x y c,X.env.cells.lookup x=some c->X.env.cells.lookup y=some c->x=y
 has:∀x,X.env.kindOf x=some .cell\/X.env.kindOf x=some .free->∃c,X.env.cells.lookup x=some c
 cab:∀x c,X.fn x=true->X.env.cells.lookup x=some c->X.s₀.heap.objs.size<=c
 hd:X.calm=true->X.A.handled=none
 frames:X.A.frames=some X.stack
 stk:X.stack=X.ag\/(X.stack=X.env::X.ag/\X.env.frame=some X.env.locals)exf:∀b∈X.ex,b≠X.env.locals/\∀x c,X.env.cells.lookup x=some c->c≠b
 bs:∀b o,X.ab.get? b=some o->X.s₀.heap.get? b=some o/\X.H₀ b=none
 bsz:X.ab.objs.size<=X.s₀.heap.objs.size
 noex:∀b o,X.ab.get? b=some o->b∉X.ex
 exfs:∀b∈X.ex,b∉X.fs
 funs:X.s₀.heap.FunFrames X.ab X.ag
 frf:∀b∈X.fs,X.H₀ b=none
structure Inv(X:Cx)(aa:List (Addr×Obj))(σ:List (Option V))(H:Hp)(s:Shared):Prop where
 ok:X.Ok
 os:s.os=X.s₀.os
 bare:AllBare s.gens
 ab:Un X.fs X.ex X.H₀ H X.s₀.heap s.heap
 loc:∃m,s.heap.Ns X.env.locals m/\∀(i:Nat)(x:Str)(v:V),X.N[i]?=some x->σ[i]?=some (some v)->Vis X.env.scope x->∃u,RelV v u/\QxU X.env s.heap m x u
 cell:∀x c,X.env.cells.lookup x=some c->∃v,s.heap.IsCell c v
 free:H X.env.locals=none
 freeC:∀x c,X.env.cells.lookup x=some c->H c=none
 pin:∀p∈X.pn++aa,s.heap.get? p.1=some p.2/\H p.1=none/\p.1≠X.env.locals/\p.1∉X.fs/\∀v,p.2.data≠.cell v
 hok:HOk X.prog X.w H s.heap
 len:σ.length=X.N.length
section
variable{X:Cx}{aa:List (Addr×Obj)}{σ:List (Option V)}{H H':Hp}{s:Shared}{h':Heap}
theorem Cx.Ok.nofr(ok:X.Ok){b:Addr}{o:Obj}(e:X.ab.get? b=some o):b∉X.fs:=λhb=>by have:=(ok.funs.mem hb).1;rw[e]at this;cases this
theorem Inv.bs(I:Inv X aa σ H s):∀b o,X.ab.get? b=some o->s.heap.get? b=some o/\H b=none:=λb o e=>⟨I.ab.keep b o (I.ok.bs b o e).1 (I.ok.bs b o e).2 (I.ok.nofr e) (I.ok.noex b o e),I.ab.free b o (I.ok.bs b o e).1 (I.ok.bs b o e).2 (I.ok.noex b o e)⟩
theorem Inv.bk(I:Inv X aa σ H s):∀b o,X.ab.get? b=some o->s.heap.get? b=some o:=λb o e=>(I.bs b o e).1
theorem Inv.mod(I:Inv X aa σ H s):Mod X.K X.mg X.ab:=I.ok.mod
theorem Inv.kIn(I:Inv X aa σ H s):X.K.In s.heap:=I.ok.mod.kin.keeps I.bk
theorem Inv.lt(I:Inv X aa σ H s):X.env.locals<s.heap.objs.size:=let⟨_,hn,_⟩:=I.loc;hn.lt
theorem Inv.sz(I:Inv X aa σ H s):X.s₀.heap.objs.size<=s.heap.objs.size:=le_trans I.ok.above (le_of_lt I.lt)
theorem Inv.nofs(I:Inv X aa σ H s){a:Addr}(h:s.heap.objs.size<=a):a∉X.fs:=λhb=>by obtain⟨_,o,ho,_⟩:=I.ok.funs.mem hb;exact absurd (lt_of_lt_of_le (Heap.lt_size ho) (le_trans I.sz h)) (lt_irrefl _)
theorem Inv.cne(I:Inv X aa σ H s):∀x c,X.env.cells.lookup x=some c->c≠X.env.locals:=λx c e z=>by obtain⟨v,o,ho,hd⟩:=I.cell x c e;obtain⟨m,⟨o',es,ep,cB,lD,_⟩,_⟩:=I.loc;rw[z,cB]at ho;cases ho;rw[lD]at hd;cases hd
theorem Inv.funs(I:Inv X aa σ H s):s.heap.FunFrames X.ab X.ag:=by
 have all:∀(l:List Env),(∀b∈frs l,b∈X.fs)->X.s₀.heap.FunFrames X.ab l->s.heap.FunFrames X.ab l:=by intro l;induction l with|nil=>intro _ _;trivial|cons env r ih=>
   intro hs hl;obtain⟨hk,⟨L,o,hf,hn,ho,hd⟩,hr⟩:=hl;have hL:L∈X.fs:=hs L (by unfold frs;rw[filterMap_cons,hf];exact mem_cons_self);obtain⟨sl,e⟩:=I.ab.slot L o ho (I.ok.frf L hL) hL λz=>I.ok.exfs L z hL;exact⟨hk,⟨L,_,hf,hn,e,hd⟩,ih (λb hb=>hs b (by unfold frs;rw[filterMap_cons,hf];exact mem_cons_of_mem _ hb)) hr⟩
 exact all X.ag (λ_ hb=>hb) I.ok.funs
theorem Inv.stack(I:Inv X aa σ H s):s.heap.FunFrames X.ab X.stack:=by
 rcases I.ok.stk with e|⟨e,hf⟩;·rw[e];exact I.funs
 ·rw[e];obtain⟨m,hn,_⟩:=I.loc;refine .cons (by rw[I.ok.kind];decide) hf hn ?_ I.funs;exact Heap.get?_none_of_le (le_trans I.ok.bsz I.ok.above)
theorem Inv.stkSub(I:Inv X aa σ H s):∀b∈frs X.stack,b∈X.env.locals::X.fs:=λb hb=>by
 rcases I.ok.stk with e|⟨e,hf⟩;·rw[e]at hb;exact mem_cons_of_mem _ hb
 ·rw[e]at hb;unfold frs at hb;rw[filterMap_cons,hf]at hb;exact hb
theorem Inv.stkFree(I:Inv X aa σ H s):∀b∈frs X.stack,H b=none:=λb hb=>by
 rcases List.mem_cons.mp (I.stkSub b hb)with e|hb;·rw[e];exact I.free
 ·obtain⟨_,o,ho,_⟩:=I.ok.funs.mem hb;exact I.ab.free b o ho (I.ok.frf b hb) λz=>I.ok.exfs b z hb
theorem Inv.step{g':Array GenState}{t':Nat}{d':Drawn}{ch:List Addr}(I:Inv X aa σ H s)(cO:∀b∈ch,(b∈X.ex\/X.s₀.heap.objs.size<=b)/\b≠X.env.locals/\(∀x c,X.env.cells.lookup x=some c->c≠b)/\∀p∈X.pn++aa,p.1≠b)(keep:∀b o,b≠X.env.locals->b∉X.fs->b∉ch->s.heap.get? b=some o->H b=none->h'.get? b=some o)(slot:∀b o,b≠X.env.locals->b∈X.fs->b∉ch->s.heap.get? b=some o->H b=none->∃sl,h'.get? b=some {o with slots:=sl})(free:∀b o,b∉ch->s.heap.get? b=some o->H b=none->H' b=none)(there:∀b o,b∉ch->s.heap.get? b=some o->∃o',h'.get? b=some o')(tups:∀b xs,H b=some (.tup xs)->H' b=some (.tup xs))(frzs:∀b o u,H b=some (.frz o u)->H' b=some (.frz o u))(tbls:∀b ps,H b=some (.tbl ps)->∃more,H' b=some (.tbl (ps++more)))(ns:∀m,s.heap.Ns X.env.locals m->h'.Ns X.env.locals m)(hok:HOk X.prog X.w H' h')(hg:AllBare g'):Inv X aa σ H' {s with heap:=h',gens:=g',drawn:=d',toks:=t'}:=by
 have jn:∀b o,X.s₀.heap.get? b=some o->b≠X.env.locals:=λb o e=>ne_of_lt (lt_of_lt_of_le (Heap.lt_size e) I.ok.above);have gw:∀b o,X.s₀.heap.get? b=some o->b∉X.ex->b∉ch:=λb o e hx hb=>by
  rcases(cO b hb).1 with z|z;·exact hx z
  ·exact absurd (lt_of_lt_of_le (Heap.lt_size e) z) (lt_irrefl _)
 have cellK:∀x c,X.env.cells.lookup x=some c->∀v,s.heap.IsCell c v->h'.IsCell c v:=λx c e v⟨o,ho,hd⟩=>by
  have fA:c∉ch:=λz=>(cO c z).2.2.1 x c e rfl;by_cases hc:c∈X.fs;·obtain⟨sl,q⟩:=slot c o (I.cne x c e) hc fA ho (I.freeC x c e);exact⟨_,q,hd⟩
  ·exact⟨o,keep c o (I.cne x c e) hc fA ho (I.freeC x c e),hd⟩
 refine⟨I.ok,I.os,hg,⟨λb o e n hb hx=>?_,λb o e n hb hx=>?_,λb o e n hx=>?_,λb o e hx=>?_,λb xs e=>tups b xs (I.ab.tups b xs e),λb o xs e=>frzs b o xs (I.ab.frzs b o xs e),λb ps e=>?_⟩,?_,λx c e=>?_,?_,λx c e=>?_,λp hp=>?_,hok,I.len⟩;·exact keep b o (jn b o e) hb (gw b o e hx) (I.ab.keep b o e n hb hx) (I.ab.free b o e n hx)
 ·obtain⟨sl,e1⟩:=I.ab.slot b o e n hb hx;obtain⟨j1,e2⟩:=slot b _ (jn b o e) hb (gw b o e hx) e1 (I.ab.free b o e n hx);exact⟨j1,e2⟩
 ·obtain⟨o',e1⟩:=I.ab.there b o e hx;exact free b o' (gw b o e hx) e1 (I.ab.free b o e n hx)
 ·obtain⟨o',e1⟩:=I.ab.there b o e hx;exact there b o' (gw b o e hx) e1
 ·obtain⟨m1,e1⟩:=I.ab.tbls b ps e;obtain⟨m2,e2⟩:=tbls b _ e1;exact⟨m1++m2,by rw[e2,Array.append_assoc]⟩
 ·obtain⟨m,hn,hl⟩:=I.loc;refine⟨m,ns m hn,λi x v e1 e2 e3=>?_⟩;obtain⟨u,r,l⟩:=hl i x v e1 e2 e3;refine⟨u,r,?_⟩;rcases l with l|⟨k,c,e,z⟩;·exact .inl l
  ·exact .inr ⟨k,c,e,cellK x c e _ z⟩
 ·obtain⟨v,z⟩:=I.cell x c e;exact⟨v,cellK x c e v z⟩
 ·obtain⟨m,⟨o,_,_,ho,_⟩,_⟩:=I.loc;exact free _ o (λz=>(cO _ z).2.1 rfl) ho I.free
 ·obtain⟨v,o,ho,hd⟩:=I.cell x c e;exact free c o (λz=>(cO c z).2.2.1 x c e rfl) ho (I.freeC x c e)
 ·obtain⟨e,n,ne,nf,d⟩:=I.pin p hp;have fA:p.1∉ch:=λz=>(cO p.1 z).2.2.2 p hp rfl;exact⟨keep p.1 p.2 ne nf fA e n,free p.1 p.2 fA e n,ne,nf,d⟩
theorem Inv.un{t':Nat}(I:Inv X aa σ H s)(u:Un X.fs [] H H' s.heap h')(hok:HOk X.prog X.w H' h'):Inv X aa σ H' {s with heap:=h',toks:=t'}:=by obtain⟨m,⟨o,es,ep,ho,r⟩,_⟩:=id I.loc;obtain⟨sl,hL⟩:=u.any ho I.free (by simp);exact I.step (g':=s.gens) (d':=s.drawn) (ch:=[]) (λ_ z=>nomatch z) (λb o _ hb _ e n=>u.keep b o e n hb (by simp)) (λb o _ hb _ e n=>u.slot b o e n hb (by simp)) (λb o _ e n=>u.free b o e n (by simp)) (λb o _ e=>u.there b o e (by simp)) u.tups u.frzs u.tbls (λm' hm=>by obtain⟨o',cw,iD,cB,r'⟩:=hm;rw[ho]at cB;cases cB;exact⟨_,cw,iD,hL,r'⟩) hok I.bare
theorem Inv.call{g':Array GenState}{t':Nat}{d':Drawn}{ch:List Addr}(I:Inv X aa σ H s)(u:Un (frs X.stack) ch H H' s.heap h')(hok:HOk X.prog X.w H' h')(hg:AllBare g')(cO:∀b∈ch,(b∈X.ex\/X.s₀.heap.objs.size<=b)/\b≠X.env.locals/\(∀x c,X.env.cells.lookup x=some c->c≠b)/\∀p∈X.pn++aa,p.1≠b):Inv X aa σ H' {s with heap:=h',gens:=g',drawn:=d',toks:=t'}:=by obtain⟨m,⟨o,es,ep,ho,r⟩,_⟩:=id I.loc;obtain⟨sl,hL⟩:=u.any ho I.free λz=>(cO _ z).2.1 rfl;exact I.step (ch:=ch) cO (λb o hL hb hc e n=>u.keep b o e n (λz=>(List.mem_cons.mp (I.stkSub b z)).elim hL hb) hc) (λb o _ _ hc e n=>u.any e n hc) (λb o hc e n=>u.free b o e n hc) (λb o hc e=>u.there b o e hc) u.tups u.frzs u.tbls (λm' hm=>by obtain⟨o',cw,iD,cB,r'⟩:=hm;rw[ho]at cB;cases cB;exact⟨_,cw,iD,hL,r'⟩) hok hg
theorem Inv.turned{t':Nat}{it:Addr}(I:Inv X aa σ H s)(k:∀b o,b≠it->s.heap.get? b=some o->h'.get? b=some o)(hn:H it=none)(hL:it≠X.env.locals)(h1:it∈X.ex\/X.s₀.heap.objs.size<=it)(h2:∀x c,X.env.cells.lookup x=some c->c≠it)(h3:∀p∈X.pn++aa,p.1≠it):Inv X aa σ H {s with heap:=h',toks:=t'}:=by
 have dB:∀b u,H b=some u->b≠it:=λb u e z=>by rw[z,hn]at e;cases e
 refine I.step (g':=s.gens) (d':=s.drawn) (ch:=[it]) (λb hb=>?_) (λb o _ _ hc e _=>k b o (λz=>hc (by simp[z])) e) (λb o _ _ hc e _=>⟨o.slots,k b o (λz=>hc (by simp[z])) e⟩) (λ_ _ _ _ n=>n) (λb o hc e=>⟨o,k b o (λz=>hc (by simp[z])) e⟩) (λ_ _ e=>e) (λ_ _ _ e=>e) (λb ps e=>⟨#[],by rw[e];simp⟩) (λm hm=>?_) (λb u e=>?_) I.bare
 ·have e:b=it:=by simpa using hb
  subst e;exact⟨h1,hL,h2,h3⟩
 ·obtain⟨o,es,ep,ho,r⟩:=hm;exact⟨o,es,ep,k _ o (Ne.symm hL) ho,r⟩
 ·refine(I.hok b u e).stay (λc v hc q=>k c v ?_ q) (λ_ q=>q) λ_ _ q=>q;rcases hc with z|z;·rw[z];exact dB b u e
  ·exact dB c _ z
theorem Inv.tok(I:Inv X aa σ H s)(t:Nat):Inv X aa σ H {s with toks:=t}:=I.un (h':=s.heap) (t':=t) Un.refl I.hok
theorem Inv.kept{t':Nat}(I:Inv X aa σ H s)(k:∀b u,s.heap.get? b=some u->h'.get? b=some u):Inv X aa σ H {s with heap:=h',toks:=t'}:=I.un (Un.kept k) (I.hok.kept k)
theorem Inv.laid{a:Addr}{o:HO}{t':Nat}(I:Inv X aa σ H s)(k:∀b u,s.heap.get? b=some u->h'.get? b=some u)(hp:s.heap.objs.size<=a)(new:ObjOk X.prog X.w (upd H a o) h' a o):Inv X aa σ (upd H a o) {s with heap:=h',toks:=t'}:=I.un (Un.laid k hp (I.hok.fresh hp)) (I.hok.laid k hp new)
theorem Inv.write{x e:Addr}{o:HO}{t':Nat}(I:Inv X aa σ H s)(mu:Mut (H x))(he:e=x\/H e=some (.own x))(k:∀b u,b≠e->s.heap.get? b=some u->h'.get? b=some u)(e9:∃u,h'.get? e=some u)(new:ObjOk X.prog X.w (upd H x o) h' x o):Inv X aa σ (upd H x o) {s with heap:=h',toks:=t'}:=I.un (Un.write mu he k e9) (I.hok.write mu he k e9 new)
theorem Inv.pins_of{dP:List (Addr×Obj)}(I:Inv X aa σ H s)(h:∀p∈dP,s.heap.get? p.1=some p.2/\H p.1=none/\p.1≠X.env.locals/\p.1∉X.fs/\∀v,p.2.data≠.cell v):Inv X dP σ H s:=⟨I.ok,I.os,I.bare,I.ab,I.loc,I.cell,I.free,I.freeC,λp hp=>(List.mem_append.mp hp).elim (λz=>I.pin p (mem_append_left _ z)) (h p),I.hok,I.len⟩
theorem Qlo{N:List Str}(hN:N.Nodup){i j:Nat}{x:Str}(a:N[i]?=some x)(b:N[j]?=some x):i=j:=by obtain⟨h1,e1⟩:=List.getElem?_eq_some_iff.mp a;obtain⟨h2,e2⟩:=List.getElem?_eq_some_iff.mp b;exact(List.getElem_inj hN).mp (e1.trans e2.symm)
theorem Qjo{M:Model}{A:Around}{E:Value->Shared->Prop}{i:Nat}{x:Str}{v:V}{u:Value}{Q:Unit->Shared->Prop}(I:Inv X aa σ H s)(hN:X.N.Nodup)(hi:X.N[i]?=some x)(hx:Loc X.env.scope x)(r:RelV v u)(h:∀s',Inv X aa (σ.set i (some v)) H s'->(∃a,Heap.SameBut a s.heap s'.heap/\(a=X.env.locals\/X.env.cells.lookup x=some a))->Q () s')(hf:X.fn x=true\/X.env.scope.names.lookup x=some .local:=by first|exact .inl rfl|exact .inr rfl|assumption):wpAny M A (storeName X.env x u) Q E s:=by
 obtain⟨m,hn,hl⟩:=id I.loc;have i7:(X.env.scope.kind==.class||(X.env.scope.kind==.module&&X.env.locals !=X.env.globals))=false:=by rw[I.ok.kind];rfl
 have fZ:i<σ.length:=by rw[I.len];exact(List.getElem?_eq_some_iff.mp hi).1
 have cne:=I.cne;have tracked:∀{a:Addr}{h':Heap},(∃o,s.heap.get? a=some o/\H a=none)->Heap.SameBut a s.heap h'->HOk X.prog X.w H h':=λ{a h'}ha hs b ob e=>by
  obtain⟨_,_,dQ⟩:=ha;refine(I.hok b ob e).stay (λc w' hc q=>(hs.2 c ?_).trans q) (λ_ q=>q) λ_ _ q=>q;rintro rfl;rcases hc with rfl|hc;·rw[dQ]at e;cases e
  ·rw[dQ]at hc;cases hc
 rcases hx with hk|hk
 ·refine wpAny_storeName_local hk hn (λh' eX hs=>?_) i7;obtain⟨oL,_,_,kQ,_⟩:=id hn;refine h _ ⟨I.ok,I.os,I.bare,⟨λb o e n hb hx=>?_,λb o e n hb hx=>?_,I.ab.free,λb o e hx=>?_,I.ab.tups,I.ab.frzs,I.ab.tbls⟩,⟨_,eX,λj y v' e1 e2 e3=>?_⟩,λy c e=>?_,I.free,I.freeC,λp hp=>?_,tracked ⟨oL,kQ,I.free⟩ hs,by simpa using I.len⟩ ⟨_,hs,.inl rfl⟩;·exact(hs.2 b (ne_of_lt (lt_of_lt_of_le (Heap.lt_size e) I.ok.above))).trans (I.ab.keep b o e n hb hx)
  ·obtain⟨sl,e1⟩:=I.ab.slot b o e n hb hx;exact⟨sl,(hs.2 b (ne_of_lt (lt_of_lt_of_le (Heap.lt_size e) I.ok.above))).trans e1⟩
  ·obtain⟨o',e1⟩:=I.ab.there b o e hx;exact⟨o',(hs.2 b (ne_of_lt (lt_of_lt_of_le (Heap.lt_size e) I.ok.above))).trans e1⟩
  ·by_cases hj:j=i
   ·subst hj;rw[hi]at e1;cases e1;rw[List.getElem?_set_self fZ]at e2;cases e2;exact⟨u,r,.inl ⟨hk,by simp⟩⟩
   ·rw[getElem?_set_ne (Ne.symm hj)]at e2;obtain⟨u',r',q⟩:=hl j y v' e1 e2 e3;refine⟨u',r',?_⟩;rcases q with⟨k,e⟩|⟨k,c,e,z⟩
    ·refine .inl ⟨k,?_⟩;have:y≠x:=λe=>hj (Qlo hN e1 (e▸hi));simp[this,e]
    ·exact .inr ⟨k,c,e,z.sameBut hs (cne y c e)⟩
  ·obtain⟨w',z⟩:=I.cell y c e;exact⟨w',z.sameBut hs (cne y c e)⟩
  ·obtain⟨e,n,ne,nf,d⟩:=I.pin p hp;exact⟨(hs.2 p.1 ne).trans e,n,ne,nf,d⟩
 ·have ik:X.fn x=true:=by
   rcases hf with z|z;·exact z
   ·rw[z]at hk;cases hk
  obtain⟨c,hc⟩:=I.ok.has x (.inl hk);obtain⟨w',z⟩:=I.cell x c hc;refine wpAny_storeName_cell I.ok.kind hk hc z (λh' gI hs=>?_);obtain⟨oc,jA,iX⟩:=id z;refine h {s with heap:=h'} ⟨I.ok,I.os,I.bare,⟨λb o e n hb hx=>?_,λb o e n hb hx=>?_,I.ab.free,λb o e hx=>?_,I.ab.tups,I.ab.frzs,I.ab.tbls⟩,⟨m,hn.sameBut hs (Ne.symm (cne x c hc)),λj y v' e1 e2 e3=>?_⟩,λy c' e=>?_,I.free,I.freeC,λp hp=>?_,tracked ⟨oc,jA,I.freeC x c hc⟩ hs,by simpa using I.len⟩ ⟨c,hs,.inr hc⟩;·exact(hs.2 b (ne_of_lt (lt_of_lt_of_le (Heap.lt_size e) (I.ok.cab x c ik hc)))).trans (I.ab.keep b o e n hb hx)
  ·obtain⟨sl,e1⟩:=I.ab.slot b o e n hb hx;exact⟨sl,(hs.2 b (ne_of_lt (lt_of_lt_of_le (Heap.lt_size e) (I.ok.cab x c ik hc)))).trans e1⟩
  ·obtain⟨o',e1⟩:=I.ab.there b o e hx;exact⟨o',(hs.2 b (ne_of_lt (lt_of_lt_of_le (Heap.lt_size e) (I.ok.cab x c ik hc)))).trans e1⟩
  ·by_cases hj:j=i
   ·subst hj;rw[hi]at e1;cases e1;rw[List.getElem?_set_self fZ]at e2;cases e2;exact⟨u,r,.inr ⟨.inl hk,c,hc,gI⟩⟩
   ·rw[getElem?_set_ne (Ne.symm hj)]at e2;obtain⟨u',r',q⟩:=hl j y v' e1 e2 e3;refine⟨u',r',?_⟩;rcases q with q|⟨k,c',e,z'⟩;·exact .inl q
    ·refine .inr ⟨k,c',e,z'.sameBut hs ?_⟩;rintro rfl;exact hj (Qlo hN e1 (I.ok.inj _ _ _ e hc▸hi))
  ·by_cases jJ:c'=c;·subst jJ;exact⟨_,gI⟩
   ·obtain⟨w2,z2⟩:=I.cell y c' e;exact⟨w2,z2.sameBut hs jJ⟩
  ·obtain⟨e,n,ne,nf,d⟩:=I.pin p hp;refine⟨(hs.2 p.1 ?_).trans e,n,ne,nf,d⟩;intro q;rw[q,jA]at e;have q':oc=p.2:=Option.some.inj e;exact d w' (by rw[<-q'];exact iX)
theorem QgK{M:Model}{A:Around}{E:Value->Shared->Prop}{i:Nat}{x:Str}{v:V}{u:Value}{Q:Unit->Shared->Prop}(I:Inv X aa σ H s)(hN:X.N.Nodup)(hi:X.N[i]?=some x)(hx:Loc X.env.scope x)(r:RelV v u)(h:∀s',Inv X aa (σ.set i (some v)) H s'->Q () s')(hf:X.fn x=true\/X.env.scope.names.lookup x=some .local:=by first|exact .inl rfl|exact .inr rfl|assumption):wpAny M A (storeName X.env x u) Q E s:=Qjo I hN hi hx r (λs' I' _=>h s' I') hf
theorem Inv.call'{s':Shared}{ch:List Addr}(I:Inv X aa σ H s)(ho:s'.os=s.os)(u:Un (frs X.stack) ch H H' s.heap s'.heap)(hok:HOk X.prog X.w H' s'.heap)(hg:AllBare s'.gens)(cO:∀b∈ch,(b∈X.ex\/X.s₀.heap.objs.size<=b)/\b≠X.env.locals/\(∀x c,X.env.cells.lookup x=some c->c≠b)/\∀p∈X.pn++aa,p.1≠b):Inv X aa σ H' s':=by obtain⟨h',g',d',t',o'⟩:=s';have e:o'=s.os:=ho;subst e;exact I.call (g':=g') (t':=t') (d':=d') u hok hg cO
end
abbrev XK:=Value->Option Addr->Hp->Prop
abbrev St:=List (Option V)
abbrev VK:=V->Hp->Prop
abbrev TE:=St->Hp->VK->Prop
noncomputable abbrev TT:=St->Hp->(Bool->Hp->Prop)->Prop
noncomputable abbrev TA:=St->Hp->(List V->Hp->Prop)->Prop
structure Ends where
 nx:St->Hp->Prop
 rt:VK
 bk:St->Hp->Prop:=λ_ _=>False
 ct:St->Hp->Prop:=λ_ _=>False
abbrev TS:=Ends->St->Hp->Prop
def EP(X:Cx)(aa:List (Addr×Obj))(σ:St)(Q:VK)(u:Value)(s':Shared):Prop:=∃v H',Inv X aa σ H' s'/\RelV v u/\Q v H'
def TP(X:Cx)(aa:List (Addr×Obj))(σ:St)(Q:Bool->Hp->Prop)(b:Bool)(s':Shared):Prop:=∃H',Inv X aa σ H' s'/\Q b H'
def AP(X:Cx)(aa:List (Addr×Obj))(σ:St)(Q:List V->Hp->Prop)(us:List Value)(s':Shared):Prop:=∃vs H',Inv X aa σ H' s'/\Vals vs us/\Q vs H'
def SP(X:Cx)(aa:List (Addr×Obj))(D:Ends)(f:Flow)(s':Shared):Prop:=match f with|.next=>∃σ' H',Inv X aa σ' H' s'/\D.nx σ' H'|.brk=>∃σ' H',Inv X aa σ' H' s'/\D.bk σ' H'|.cont=>∃σ' H',Inv X aa σ' H' s'/\D.ct σ' H'|.ret u=>∃v σ' H',Inv X aa σ' H' s'/\RelV v u/\D.rt v H'
def PE(X:Cx)(e:Expr)(t:TE):Prop:=∀(aa:List (Addr×Obj))(s:Shared)(σ:St)(H:Hp)(Q:VK),Inv X aa σ H s->t σ H Q->wpAny (model X.prog X.w) X.A (eval e X.env) (EP X aa σ Q) X.xe s
def PT(X:Cx)(e:Expr)(t:TT):Prop:=∀(aa:List (Addr×Obj))(s:Shared)(σ:St)(H:Hp)(Q:Bool->Hp->Prop),Inv X aa σ H s->t σ H Q->wpAny (model X.prog X.w) X.A (isTrue e X.env (eval e X.env)) (TP X aa σ Q) X.xe s
def PW(X:Cx)(e:Expr)(t:TT):Prop:=∀(whole:Sem Value)(aa:List (Addr×Obj))(s:Shared)(σ:St)(H:Hp)(Q:Bool->Hp->Prop),Inv X aa σ H s->t σ H Q->wpAny (model X.prog X.w) X.A (isTrue e X.env whole) (TP X aa σ Q) X.xe s
theorem PW.pt{X:Cx}{e:Expr}{t:TT}(h:PW X e t):PT X e t:=h _
def PA(X:Cx)(es:List Expr)(t:TA):Prop:=∀(pos:Pos)(aa:List (Addr×Obj))(s:Shared)(σ:St)(H:Hp)(Q:List V->Hp->Prop),Inv X aa σ H s->t σ H Q->wpAny (model X.prog X.w) X.A (spliced (backTo pos (starEach es X.env))) (AP X aa σ Q) X.xe s
def PS(X:Cx)(st:Stmt)(t:TS):Prop:=∀(aa:List (Addr×Obj))(s:Shared)(σ:St)(H:Hp)(D:Ends),Inv X aa σ H s->t D σ H->wpAny (model X.prog X.w) X.A (exec st X.env) (SP X aa D) X.xe s
def PSs(X:Cx)(st:List Stmt)(t:TS):Prop:=∀(aa:List (Addr×Obj))(s:Shared)(σ:St)(H:Hp)(D:Ends),Inv X aa σ H s->t D σ H->wpAny (model X.prog X.w) X.A (execs st X.env) (SP X aa D) X.xe s
theorem thn{α:Type}{t:Sem α}{Q Q':α->Shared->Prop}{M:Model}{A:Around}{E:Value->Shared->Prop}{s:Shared}(h:wpAny M A t Q E s)(hQ:∀a s,Q a s->Q' a s):wpAny M A t Q' E s:=wpAny_mono h hQ λ_ _ x=>x
section
variable{X:Cx}
noncomputable def Qd7(i:Nat):TE:=λσ H Q=>∃v,σ[i]?=some (some v)/\Q v H
def tC(v:V):TE:=λ_ H Q=>Q v H
theorem Yo{i:Nat}{x:Str}{pos:Pos}(hN:X.N[i]?=some x)(hv:Vis X.env.scope x)(hd:(x==("__debug__":Str))=false:=by decide)(bQ:(x==("__classdict__":Str))=false:=by decide):PE X (.Name x pos) (Qd7 i):=by
 intro aa s σ H Q I h;obtain⟨v,e,h⟩:=h;obtain⟨m,hn,hl⟩:=I.loc;obtain⟨u,r,l⟩:=hl i x v hN e hv;have fin:EP X aa σ Q u s:=⟨v,H,I,r,h⟩;rcases l with⟨hk,hm⟩|⟨hk,c,hc,b7⟩;·exact wpAny_Name (wpAny_loadName_local I.ok.kind hk hn hm fin) hd
 ·rcases hk with hk|hk;·exact wpAny_Name (wpAny_loadName_cell I.ok.kind hk hc b7 fin) hd
  ·exact wpAny_Name (wpAny_loadName_free I.ok.kind hk hc b7 fin bQ) hd
theorem Qhw{i j pos}:PE X (.Constant (.int i) j pos) (tC (.int i)):=λ_ _ _ H _ I h=>wpAny_Constant_int ⟨.int i,H,I.tok _,⟨_,rfl⟩,h⟩
theorem QwY{b j pos}:PE X (.Constant (.bool b) j pos) (tC (.bl b)):=λ_ _ _ H _ I h=>Constant_bool ⟨.bl b,H,I,rfl,h⟩
theorem QpY{x j pos}:PE X (.Constant (.str x) j pos) (tC (.str x)):=λ_ _ _ H _ I h=>Calls.Constant_str ⟨.str x,H,I.tok _,⟨_,rfl⟩,h⟩
def Gl(X:Cx)(x:Str):Prop:=X.env.kindOf x=some .globalImplicit
theorem QnN{E:Value->Shared->Prop}{aa:List (Addr×Obj)}{s:Shared}{σ:St}{H:Hp}{x:Str}{u:Value}{pos:Pos}{Q:Value->Shared->Prop}(I:Inv X aa σ H s)(hg:Gl X x)(hm:X.mg x=some u)(h:Q u s)(hd:(x==("__debug__":Str))=false:=by decide):wpAny (model X.prog X.w) X.A (eval (.Name x pos) X.env) Q E s:=Calls.Name_function_global I.ok.kind hg (Calls.loadGlobal_global (by rw[I.ok.glob];exact I.mod.glob.keeps I.bk) hm h) hd
theorem QdE{E:Value->Shared->Prop}{aa:List (Addr×Obj)}{s:Shared}{σ:St}{H:Hp}{x:Str}{u:Value}{pos:Pos}{Q:Value->Shared->Prop}(I:Inv X aa σ H s)(hg:Gl X x)(hm:X.mg x=none)(hv:bootBuiltins x=some u)(h:Q u s)(hn:x≠"__name__":=by decide)(hd:(x==("__debug__":Str))=false:=by decide):wpAny (model X.prog X.w) X.A (eval (.Name x pos) X.env) Q E s:=by obtain⟨mb,h1,h2⟩:=I.mod.blt;exact Calls.Name_function_global I.ok.kind hg (Calls.loadGlobal_builtin (by rw[I.ok.glob];exact I.mod.glob.keeps I.bk) hm (by rw[I.ok.blt];exact h1.keeps I.bk) ((h2 x hn).trans hv) h) hd
theorem QtY{x:Str}{v:V}{u:Value}{pos:Pos}(hg:Gl X x)(hm:X.mg x=some u)(r:RelV v u)(hd:(x==("__debug__":Str))=false:=by decide):PE X (.Name x pos) (tC v):=λ_ _ _ H _ I h=>QnN I hg hm ⟨v,H,I,r,h⟩ hd
theorem Qt1{x:Str}{v:V}{u:Value}{pos:Pos}(hg:Gl X x)(hm:X.mg x=none)(hv:bootBuiltins x=some u)(r:RelV v u)(hn:x≠"__name__":=by decide)(hd:(x==("__debug__":Str))=false:=by decide):PE X (.Name x pos) (tC v):=λ_ _ _ H _ I h=>QdE I hg hm hv ⟨v,H,I,r,h⟩ hn hd
variable{a b:Expr}{ta tb:TE}{pos:Pos}
def PC(X:Cx)(op:CmpOp)(a b:Expr)(t:TE):Prop:=∀(aa:List (Addr×Obj))(s:Shared)(σ:St)(H:Hp)(Q:VK),Inv X aa σ H s->t σ H Q->wpAny (model X.prog X.w) X.A (eval a X.env) (λv s₁=>wpAny (model X.prog X.w) X.A (eval b X.env) (λu s₂=>wpAny (model X.prog X.w) X.A (compareOp op v u) (EP X aa σ Q) X.xe s₂) X.xe s₁) X.xe s
theorem Qsu(b:Expr){op:CmpOp}(h:op≠.In)(h2:op≠.NotIn):behindInMarks op b=false:=by
 have e1:(op==CmpOp.In)=false:=by cases op<;>first|rfl|exact absurd rfl h
 have e2:(op==CmpOp.NotIn)=false:=by cases op<;>first|rfl|exact absurd rfl h2
 cases b<;>simp[behindInMarks,e1,e2]
def tB(t:TE):TT:=λσ H Q=>t σ H λx H1=>∃c,x=.bl c/\Q c H1
theorem QpV{op:CmpOp}{t:TE}(h:PC X op a b t)(h1:behindInMarks op b=false:=by first|exact Qsu _ (by decide) (by decide)|rfl):PT X (.Compare a [op] [b] pos) (tB t):=by intro aa s σ H Q I hw;refine wpAny_isTrue_Compare1 (thn (h aa s σ H _ I hw) λv s1 h1=>thn h1 λu s2 h2=>thn h2 λc s3⟨x,H1,I1,r1,q1⟩=>?_) h1;obtain⟨d,rfl,q⟩:=q1;cases r1;exact wpAny_truthy_bool ⟨H1,I1,q⟩
theorem QvH{e:Expr}{t:TE}(h:PE X e t)(he:∀whole,isTrue e X.env whole=(do let v<-whole;standAt e.pos;holding [v] (truthy v)):=by intro _;rfl):PT X e (tB t):=by intro aa s σ H Q I hw;refine isTrue_plain (thn (h aa s σ H _ I hw) λv s1⟨x,H1,I1,r1,q1⟩=>?_) (he _);obtain⟨d,rfl,q⟩:=q1;cases r1;exact wpAny_truthy_bool ⟨H1,I1,q⟩
variable{tA gh:TT}{Jq:List Expr}
def Qvb(t u:TT):TT:=λσ H Q=>t σ H λc H1=>if c=true then u σ H1 Q else Q false H1
def tOr(t u:TT):TT:=λσ H Q=>t σ H λc H1=>if c=true then Q true H1 else u σ H1 Q
def Qxy(t:TT):TT:=λσ H Q=>t σ H λc H1=>Q (!c) H1
theorem QtN(ha:PT X a tA):PW X (.BoolOp .And [a] pos) tA:=by intro wh aa s σ H Q I h;refine isTrue_and (thn (ha aa s σ H Q I h) λc s1 e=>?_);cases c with|true=>exact isTrue_and_nil e|false=>exact e
theorem QvF(ha:PT X a tA):PW X (.BoolOp .Or [a] pos) tA:=by intro wh aa s σ H Q I h;refine isTrue_or (thn (ha aa s σ H Q I h) λc s1 e=>?_);cases c with|false=>exact isTrue_or_nil e|true=>exact e
theorem QvG(ha:PT X a tA)(hb:PW X (.BoolOp .And (b::Jq) pos) gh):PW X (.BoolOp .And (a::b::Jq) pos) (Qvb tA gh):=by intro wh aa s σ H Q I h;refine isTrue_and (thn (ha aa s σ H _ I h) λc s1⟨H1,I1,q1⟩=>?_);cases c with|true=>exact hb wh aa s1 σ H1 Q I1 q1|false=>exact⟨H1,I1,q1⟩
theorem QwT(ha:PT X a tA)(hb:PW X (.BoolOp .Or (b::Jq) pos) gh):PW X (.BoolOp .Or (a::b::Jq) pos) (tOr tA gh):=by intro wh aa s σ H Q I h;refine isTrue_or (thn (ha aa s σ H _ I h) λc s1⟨H1,I1,q1⟩=>?_);cases c with|true=>exact⟨H1,I1,q1⟩|false=>exact hb wh aa s1 σ H1 Q I1 q1
theorem QvJ(ha:PT X a tA):PT X (.UnaryOp .Not a pos) (Qxy tA):=by intro aa s σ H Q I h;exact isTrue_not (ha aa s σ H (λc H1=>Q (!c) H1) I h)
noncomputable def QwQ(ta tb:TE):TE:=λσ H Q=>ta σ H λx H1=>∃c,x=.bl c/\if c=true then tb σ H1 Q else Q (.bl false) H1
noncomputable def Qxx(ta tb:TE):TE:=λσ H Q=>ta σ H λx H1=>∃c,x=.bl c/\if c=true then Q (.bl true) H1 else tb σ H1 Q
noncomputable def QwN(ta:TE):TE:=λσ H Q=>ta σ H λx H1=>∃c,x=.bl c/\Q (.bl (!c)) H1
theorem QvQ{op}{t:TE}(h:PE X a t):PE X (.BoolOp op [a] pos) t:=λaa s σ H Q I hw=>BoolOp_one (h aa s σ H Q I hw)
theorem QvT(ha:PE X a ta)(hb:PE X (.BoolOp .And (b::Jq) pos) tb):PE X (.BoolOp .And (a::b::Jq) pos) (QwQ ta tb):=by intro aa s σ H Q I h;refine BoolOp_and (thn (ha aa s σ H _ I h) λv s1⟨x,H1,I1,r1,q1⟩=>?_);obtain⟨c,rfl,q1⟩:=q1;cases r1;refine wpAny_truthy_bool ?_;cases c with|true=>exact hb aa s1 σ H1 Q I1 q1|false=>exact⟨.bl false,H1,I1,rfl,q1⟩
theorem QwW(ha:PE X a ta)(hb:PE X (.BoolOp .Or (b::Jq) pos) tb):PE X (.BoolOp .Or (a::b::Jq) pos) (Qxx ta tb):=by intro aa s σ H Q I h;refine BoolOp_or (thn (ha aa s σ H _ I h) λv s1⟨x,H1,I1,r1,q1⟩=>?_);obtain⟨c,rfl,q1⟩:=q1;cases r1;refine wpAny_truthy_bool ?_;cases c with|false=>exact hb aa s1 σ H1 Q I1 q1|true=>exact⟨.bl true,H1,I1,rfl,q1⟩
theorem QvR(ha:PE X a ta):PE X (.UnaryOp .Not a pos) (QwN ta):=by intro aa s σ H Q I h;refine UnaryOp_ (thn (ha aa s σ H _ I h) λv s1⟨x,H1,I1,r1,q1⟩=>?_);obtain⟨c,rfl,q1⟩:=q1;cases r1;exact not_of (wpAny_truthy_bool ⟨.bl (!c),H1,I1,rfl,q1⟩)
def tIf(t:TT)(ta tb:TE):TE:=λσ H Q=>t σ H λc H1=>if c=true then ta σ H1 Q else tb σ H1 Q
theorem Qsk{c:Expr}(hc:PT X c tA)(ha:PE X a ta)(hb:PE X b tb):PE X (.IfExp c a b pos) (tIf tA ta tb):=by intro aa s σ H Q I h;refine wpAny_IfExp (thn (hc aa s σ H _ I h) λd s1⟨H1,I1,q1⟩=>?_);cases d with|true=>exact ha aa s1 σ H1 Q I1 q1|false=>exact hb aa s1 σ H1 Q I1 q1
end
def SqL(K:W.Frag)(H:Hp)(a:Addr)(xs:List V):Prop:=Rd H a (.lst xs)\/∃(o:Obj)(its:Array Value)(n:Nat),K.lookup a=some o/\o.cls=.type "list"/\o.dict=none/\o.data=.seq its n/\its.size<=sizeLine/\Vals xs its.toList
def SqT(K:W.Frag)(H:Hp)(a:Addr)(xs:List V):Prop:=Rd H a (.tup xs)\/∃(o:Obj)(its:Array Value)(n:Nat),K.lookup a=some o/\o.cls=.type "tuple"/\o.data=.seq its n/\its.size<=sizeLine/\Vals xs its.toList
noncomputable def QxT:Value->Option V|.none=>some .non|.bool b=>some (.bl b)|.int i _=>some (.int i)|.str x _=>some (.str x)|.bytes b _=>some (.byt b)|.float b _=>some (.flt b)|.ref a=>some (.ref a)|.type n=>some (.ty n)|_=>none
theorem RelV.abs{x:V}{u:Value}(r:RelV x u):QxT u=some x:=by cases x with|non=>cases r;rfl|bl _=>cases r;rfl|int _=>obtain⟨t,rfl⟩:=r;rfl|str _=>obtain⟨t,rfl⟩:=r;rfl|byt _=>obtain⟨t,rfl⟩:=r;rfl|flt _=>obtain⟨t,rfl⟩:=r;rfl|ref _=>cases r;rfl|ty _=>cases r;rfl
theorem RelV.inj{x y:V}{u:Value}(r:RelV x u)(q:RelV y u):x=y:=Option.some.inj (r.abs.symm.trans q.abs)
theorem Vals.inj:∀{xs ys:List V}{us:List Value},Vals xs us->Vals ys us->xs=ys|_,_,_,.nil,.nil=>rfl|_,_,_,.cons r t,.cons r' t'=>by rw[r.inj r',Vals.inj t t']
section
variable{X:Cx}{aa:List (Addr×Obj)}{σ:St}{H:Hp}{s:Shared}{a:Addr}{xs ys:List V}
theorem SqL.of{K:W.Frag}(h:H a=some (.lst xs)):SqL K H a xs:=.inl (.inl h)
theorem SqT.of{K:W.Frag}(h:H a=some (.tup xs)):SqT K H a xs:=.inl (.inl h)
theorem Inv.list(I:Inv X aa σ H s)(h:SqL X.K H a xs):∃its:List Value,Vals xs its/\PlainL s.heap a its.toArray/\xs.length<=sizeLine:=by
 rcases h with h|⟨o,its,n,hk,hc,hd,hs,hz,r⟩
 ·obtain⟨z,its,n,r,e⟩:=h.ok I.hok;exact⟨its,r,⟨_,n,e,rfl,rfl,rfl⟩,z⟩
 ·refine⟨its.toList,r,⟨o,n,I.kIn a o hk,hc,hd,by simpa using hs⟩,?_⟩;have e:=r.length;simp only[length_toList]at e;omega
theorem Inv.tuple(I:Inv X aa σ H s)(h:SqT X.K H a xs):∃its:List Value,Vals xs its/\IsTup s.heap a its.toArray/\xs.length<=sizeLine:=by
 rcases h with h|⟨o,its,n,hk,hc,hs,hz,r⟩
 ·obtain⟨z,its,r,p⟩:=h.ok I.hok;exact⟨its,r,p,z⟩
 ·refine⟨its.toList,r,⟨o,I.kIn a o hk,hc,n,by simpa using hs⟩,?_⟩;have e:=r.length;simp only[length_toList]at e;omega
theorem Inv.list_inj(I:Inv X aa σ H s)(h:SqL X.K H a xs)(h':SqL X.K H a ys):xs=ys:=by
 obtain⟨its,r,⟨o,n,e,_,_,d⟩,_⟩:=I.list h;obtain⟨its',r',⟨o',n',e',_,_,d'⟩,_⟩:=I.list h';rw[e]at e';cases e';rw[d]at d';injection d' with d1 _;have:its=its':=by simpa using congrArg Array.toList d1
 subst this;exact r.inj r'
end
noncomputable abbrev Cx.wish(X:Cx)(E:Value->Shared->Prop):Cx:={X with xe:=E}
abbrev Cx.nox(X:Cx):Cx:=X.wish λ_ _=>False
theorem Cx.Ok.wish{X:Cx}(ok:X.Ok)(E:Value->Shared->Prop):(X.wish E).Ok:=⟨ok.mod,ok.kind,ok.glob,ok.blt,ok.above,ok.inj,ok.has,ok.cab,ok.hd,ok.frames,ok.stk,ok.exf,ok.bs,ok.bsz,ok.noex,ok.exfs,ok.funs,ok.frf⟩
theorem Cx.Ok.unwish{X:Cx}{E:Value->Shared->Prop}(ok:(X.wish E).Ok):X.Ok:=⟨ok.mod,ok.kind,ok.glob,ok.blt,ok.above,ok.inj,ok.has,ok.cab,ok.hd,ok.frames,ok.stk,ok.exf,ok.bs,ok.bsz,ok.noex,ok.exfs,ok.funs,ok.frf⟩
section
variable{X:Cx}{aa:List (Addr×Obj)}{σ:St}{H:Hp}{s:Shared}{E:Value->Shared->Prop}
theorem Inv.wish(I:Inv X aa σ H s)(E:Value->Shared->Prop):Inv (X.wish E) aa σ H s:=⟨I.ok.wish E,I.os,I.bare,I.ab,I.loc,I.cell,I.free,I.freeC,I.pin,I.hok,I.len⟩
theorem Inv.unwish(I:Inv (X.wish E) aa σ H s):Inv X aa σ H s:=⟨I.ok.unwish,I.os,I.bare,I.ab,I.loc,I.cell,I.free,I.freeC,I.pin,I.hok,I.len⟩
theorem SP.unwish{D:Ends}{f:Flow}{s':Shared}(h:SP (X.wish E) aa D f s'):SP X aa D f s':=by cases f with|next=>obtain⟨σ',H',I,q⟩:=h;exact⟨σ',H',I.unwish,q⟩|brk=>obtain⟨σ',H',I,q⟩:=h;exact⟨σ',H',I.unwish,q⟩|cont=>obtain⟨σ',H',I,q⟩:=h;exact⟨σ',H',I.unwish,q⟩|ret u=>obtain⟨v,σ',H',I,r,q⟩:=h;exact⟨v,σ',H',I.unwish,r,q⟩
theorem PSs.nox{st:List Stmt}{t:TS}(h:PSs X.nox st t):PSs X st t:=λaa s σ H D I hw=>wpAny_mono (h aa s σ H D (I.wish _) hw) (λ_ _ q=>q.unwish) λ_ _ z=>False.elim z
end
section
variable{X:Cx}{st:Stmt}{Jq:List Stmt}{t u:TS}{e:Expr}{te:TE}{pos:Pos}
def Qkp:TS:=λD σ H=>D.nx σ H
noncomputable def Qiu(t u:TS):TS:=λD σ H=>t {D with nx:=u D} σ H
theorem QdJ:PSs X [] Qkp:=λ_ _ σ H _ I h=>wpAny_execs_nil ⟨σ,H,I,h⟩
theorem Qbb(h1:PS X st t)(h2:PSs X Jq u):PSs X (st::Jq) (Qiu t u):=by intro aa s σ H D I h;refine wpAny_execs_cons (thn (h1 aa s σ H {D with nx:=u D} I h) λf s1 q=>?_);cases f with|next=>obtain⟨σ',H',I',q⟩:=q;exact h2 aa s1 σ' H' D I' q|ret v=>exact q|brk=>exact q|cont=>exact q
theorem Qf8(h1:PS X st t):PSs X [st] t:=by intro aa s σ H D I h;refine wpAny_execs_cons (thn (h1 aa s σ H D I h) λf s1 q=>?_);cases f with|next=>exact wpAny_execs_nil q|ret v=>exact q|brk=>exact q|cont=>exact q
def QwP:TS:=λD σ H=>D.ct σ H
theorem QmU:PS X (.Continue pos) QwP:=λ_ _ σ H _ I h=>wpAny_Continue ⟨σ,H,I,h⟩
theorem Inv.quiet{aa:List (Addr×Obj)}{σ:St}{H:Hp}{s:Shared}(I:Inv X aa σ H s):interactive X.env=false:=by simp[interactive,I.ok.kind]
noncomputable def QfT(te:TE):TS:=λD σ H=>te σ H λ_ H1=>D.nx σ H1
theorem VR(he:PE X e te)(hs:swapsWith e none pos.line X.env=pure false:=by rfl):PS X (.Expr e pos) (QfT te):=by intro aa s σ H D I h;exact wpAny_Expr_any (thn (he aa s σ H _ I h) λv s1⟨x,H1,I1,r1,q1⟩=>⟨σ,H1,I1,q1⟩) I.quiet hs
noncomputable def Qxv(te:TE):TS:=λD σ H=>te σ H D.rt
theorem QpW(he:PE X e te):PS X (.Return (some e) pos) (Qxv te):=by intro aa s σ H D I h;exact wpAny_Return_some (thn (he aa s σ H _ I h) λv s1⟨x,H1,I1,r1,q1⟩=>⟨x,σ,H1,I1,r1,q1⟩)
def Qor(c:TT)(t u:TS):TS:=λD σ H=>c σ H λb H1=>if b=true then t D σ H1 else u D σ H1
theorem Qho{c:Expr}{a b:List Stmt}{tc:TT}(hc:PT X c tc)(ha:PSs X a t)(hb:PSs X b u):PS X (.If c a b pos) (Qor tc t u):=by intro aa s σ H D I h;refine wpAny_If (thn (hc aa s σ H _ I h) λd s1⟨H1,I1,q1⟩=>?_);cases d with|true=>exact ha aa s1 σ H1 D I1 q1|false=>exact hb aa s1 σ H1 D I1 q1
def Qht:TS:=λ_ _ _=>False
theorem Qfv{cY:List Stmt}:PSs X cY Qht:=λ_ _ _ _ _ _ h=>h.elim
end
noncomputable abbrev TG:=V->St->Hp->(St->Hp->Prop)->Prop
noncomputable abbrev TGs:=List V->St->Hp->(St->Hp->Prop)->Prop
def PG(X:Cx)(target:Expr)(t:TG):Prop:=∀(aa:List (Addr×Obj))(s:Shared)(σ:St)(H:Hp)(v:V)(u:Value)(Q:St->Hp->Prop),Inv X aa σ H s->RelV v u->t v σ H Q->wpAny (model X.prog X.w) X.A (assign target X.env u) (λ_ s'=>∃σ' H',Inv X aa σ' H' s'/\Q σ' H') X.xe s
def PGs(X:Cx)(ts:List Expr)(t:TGs):Prop:=∀(aa:List (Addr×Obj))(s:Shared)(σ:St)(H:Hp)(vs:List V)(us:List Value)(Q:St->Hp->Prop),Inv X aa σ H s->Vals vs us->t vs σ H Q->wpAny (model X.prog X.w) X.A (assignInOrder ((assignEach ts X.env).map (·.2)) us) (λ_ s'=>∃σ' H',Inv X aa σ' H' s'/\Q σ' H') X.xe s
abbrev TIp:=V->V->Hp->VK->Prop
def PIp(X:Cx)(op:Operator)(t:TIp):Prop:=∀(aa:List (Addr×Obj))(s:Shared)(σ:St)(H:Hp)(x y:V)(v u:Value)(Q:VK),Inv X aa σ H s->RelV x v->RelV y u->t x y H Q->wpAny (model X.prog X.w) X.A (inplaceOp op v u) (EP X aa σ Q) X.xe s
section
variable{X:Cx}{pos:Pos}
def QkC(i:Nat):TG:=λv σ H Q=>Q (σ.set i (some v)) H
theorem QnE{i:Nat}{x:Str}(hN:X.N.Nodup)(hi:X.N[i]?=some x)(hx:Loc X.env.scope x)(hf:X.fn x=true\/X.env.scope.names.lookup x=some .local:=by first|exact .inl rfl|exact .inr rfl|assumption):PG X (.Name x pos) (QkC i):=by intro aa s σ H v u Q I r h;exact wpAny_assign_Name (QgK I hN hi hx r (λs' I'=>⟨_,H,I',h⟩) hf)
def QxP:TGs:=λvs σ H Q=>vs=[]/\Q σ H
def Qxa(t:TG)(u:TGs):TGs:=λvs σ H Q=>∃v r,vs=v::r/\t v σ H λσ' H'=>u r σ' H' Q
theorem QtV:PGs X [] QxP:=by intro aa s σ H vs us Q I r h;obtain⟨e,h⟩:=h;subst e;cases r;exact assignInOrder_nil ⟨σ,H,I,h⟩
theorem Qsi{e:Expr}{es:List Expr}{t:TG}{u:TGs}(h1:PG X e t)(h2:PGs X es u)(hs:(assignEach (e::es) X.env).map (·.2)=assign e X.env::(assignEach es X.env).map (·.2):=by rfl):PGs X (e::es) (Qxa t u):=by intro aa s σ H vs us Q I r h;obtain⟨v,vr,e1,h⟩:=h;subst e1;cases r with|cons r rr=>rw[hs];refine assignInOrder_cons (thn (h1 aa s σ H _ _ _ I r h) λ_ s1⟨σ1,H1,I1,q1⟩=>?_);exact h2 aa s1 σ1 H1 _ _ Q I1 rr q1
def QxO(K:W.Frag)(n:Nat)(t:TGs):TG:=λv σ H Q=>∃a xs,v=.ref a/\SqT K H a xs/\xs.length=n/\t xs σ H Q
theorem QvP{es:List Expr}{k:Nat}{t:TGs}{n:Nat}(hc:X.calm=true)(h:PGs X es t)(hn:(assignEach es X.env).length=n:=by rfl)(cI:(assignEach es X.env).findIdx? (·.1)=none:=by rfl):PG X (.Tuple es k pos) (QxO X.K n t):=by intro aa s σ H v u Q I r hw;obtain⟨a,xs,e1,hq,hl,hw⟩:=hw;subst e1;cases r;obtain⟨its,rv,ht,hz⟩:=I.tuple hq;refine assign_Tuple_tuple (I.ok.hd hc) ht (by simp[hn,<-hl,rv.length]) cI λh' hx=>?_;have I1:Inv X aa σ H {s with heap:=h'}:=I.kept (t':=s.toks) λb o e=>hx b o (ne_of_lt (Heap.lt_size e)) e;exact h aa _ σ H xs _ Q I1 (by simpa using rv) hw
def Qos(te:TE)(g:TG):TS:=λD σ H=>te σ H λx H1=>g x σ H1 D.nx
theorem QvL{tg e:Expr}{te:TE}{g:TG}(he:PE X e te)(hg:PG X tg g)(hs:swapsWithSole [tg] e pos.line X.env=pure false:=by rfl)(hw:swappedStores [tg] e X.env=pure none:=by rfl)(h1:(assignEach [tg] X.env).map (·.2)=[assign tg X.env]:=by rfl):PS X (.Assign [tg] e pos) (Qos te g):=by intro aa s σ H D I h;refine wpAny_Assign_stores (thn (he aa s σ H _ I h) λv s1⟨x,H1,I1,r1,q1⟩=>?_) hs hw;rw[h1];exact thn (hg aa s1 σ H1 x v _ I1 r1 q1) λ_ s2 q=>q
theorem QkO{i:Nat}{x:Str}{e:Expr}{te:TE}{pos':Pos}(hN:X.N.Nodup)(hi:X.N[i]?=some x)(hx:Loc X.env.scope x)(he:PE X e te)(hs:swapsWith e (some (.Name x pos')) pos.line X.env=pure false:=by rfl)(hf:X.fn x=true\/X.env.scope.names.lookup x=some .local:=by first|exact .inl rfl|exact .inr rfl|assumption):PS X (.Assign [.Name x pos'] e pos) (Qos te (QkC i)):=by intro aa s σ H D I h;refine wpAny_Assign_Name (thn (he aa s σ H _ I h) λv s1⟨y,H1,I1,r1,q1⟩=>?_) hs;exact QgK I1 hN hi hx r1 (λs2 I2=>⟨_,H1,I2,q1⟩) hf
noncomputable def QxC(i:Nat)(te:TE)(ti:TIp):TS:=λD σ H=>∃x,σ[i]?=some (some x)/\te σ H λy H1=>ti x y H1 λz H2=>D.nx (σ.set i (some z)) H2
theorem QvK{i:Nat}{x:Str}{e:Expr}{te:TE}{op:Operator}{ti:TIp}{pos':Pos}(hN:X.N.Nodup)(hi:X.N[i]?=some x)(hx:Loc X.env.scope x)(he:PE X e te)(ho:PIp X op ti)(hf:X.fn x=true\/X.env.scope.names.lookup x=some .local:=by first|exact .inl rfl|exact .inr rfl|assumption):PS X (.AugAssign (.Name x pos') op e pos) (QxC i te ti):=by
 intro aa s σ H D I h;obtain⟨v,e1,h⟩:=h;obtain⟨m,hn,hl⟩:=I.loc;have jZ:Vis X.env.scope x:=by rcases hx with k|k;exact .inl k;exact .inr (.inl k)
 obtain⟨u,r,l⟩:=hl i x v hi e1 jZ;refine wpAny_AugAssign_Name ?_;have go:wpAny (model X.prog X.w) X.A (eval e X.env) (λw s₂=>wpAny (model X.prog X.w) X.A (inplaceOp op u w) (λr s₃=>wpAny (model X.prog X.w) X.A (storeName X.env x r) (λ_=>SP X aa D .next) X.xe s₃) X.xe s₂) X.xe s:=by
  refine thn (he aa s σ H _ I h) λw s1⟨y,H1,I1,r1,q1⟩=>?_;refine thn (ho aa s1 σ H1 v y u w _ I1 r r1 q1) λz s2⟨zv,H2,I2,r2,q2⟩=>?_;exact QgK I2 hN hi hx r2 (λs3 I3=>⟨_,H2,I3,q2⟩) hf
 rcases l with⟨hk,hm⟩|⟨hk,c,hc,b7⟩;·exact wpAny_loadName_local I.ok.kind hk hn hm go
 ·rcases hk with hk|hk;·exact wpAny_loadName_cell I.ok.kind hk hc b7 go
  ·rcases hx with k|k;·have:X.env.scope.names.lookup x=some .free:=hk;rw[k]at this;cases this
   ·have:X.env.scope.names.lookup x=some .free:=hk;rw[k]at this;cases this
end
section
variable{X:Cx}{pos:Pos}
def Qvs(c:TT)(tb:TS):TS:=λD σ H=>∃W:Nat->St->Hp->Prop,(∃m,W m σ H)/\∀m σ H,W m σ H->c σ H λb H1=>if b=true then∃N:St->Hp->Prop,(∀σ' H',N σ' H'->∃m',m'<m/\W m' σ' H')/\tb {D with nx:=N,ct:=N,bk:=D.nx} σ H1 else D.nx σ H1
theorem Qsg{c:Expr}{body:List Stmt}{tc:TT}{tb:TS}(hp:PassesOwn (model X.prog X.w) X.A X.env X.xe)(hc:PT X c tc)(hb:PSs X body tb):PS X (.While c body [] pos) (Qvs tc tb):=by
 intro aa s σ H D I h;obtain⟨W,⟨m0,w0⟩,turn⟩:=h;refine wpAny_While (codeAny_whileLoop (λn s'=>∃σ' H',Inv X aa σ' H' s'/\W n σ' H') ?_ m0 ⟨σ,H,I,w0⟩);rintro n s1⟨σ1,H1,I1,w1⟩;refine wpAny_passesOwn hp (thn (hc aa s1 σ1 H1 _ I1 (turn n σ1 H1 w1)) λb s2⟨H2,I2,q2⟩=>?_);cases b with
 |true=>
  obtain⟨N,hN,q2⟩:=q2;rw[if_pos rfl];refine wpAny_passesOwn hp (thn (hb aa s2 σ1 H2 _ I2 q2) λf s3 q3=>?_);cases f with
  |next=>
   obtain⟨σ3,H3,I3,n3⟩:=q3;obtain⟨m',hm,w3⟩:=hN σ3 H3 n3;exact⟨m',hm,σ3,H3,I3,w3⟩|cont=>
   obtain⟨σ3,H3,I3,n3⟩:=q3;obtain⟨m',hm,w3⟩:=hN σ3 H3 n3;exact⟨m',hm,σ3,H3,I3,w3⟩|brk=>exact q3|ret v=>exact q3
 |false=>rw[if_neg Bool.false_ne_true];exact wpAny_execs_nil ⟨σ1,H2,I2,q2⟩
end
structure It where
 go:Nat->Hp->Prop
 yld:Nat->Hp->V->Hp->Prop
 stop:Nat->Hp->Prop
def QaB(X:Cx)(aa:List (Addr×Obj))(H:Hp)(b:Addr):Prop:=H b=none/\b≠X.env.locals/\b∉X.fs/\(b∈X.ex\/X.s₀.heap.objs.size<=b)/\(∀x c,X.env.cells.lookup x=some c->c≠b)/\∀p∈X.pn++aa,p.1≠b
theorem Inv.fpOk{X:Cx}{aa:List (Addr×Obj)}{σ:St}{H H':Hp}{s:Shared}{b:Addr}(I:Inv X aa σ H s)(hb:s.heap.objs.size<=b)(hn:H' b=none):QaB X aa H' b:=by
 refine⟨hn,ne_of_gt (lt_of_lt_of_le I.lt hb),I.nofs hb,.inr (le_trans I.sz hb),λx c e z=>?_,λp hp z=>?_⟩
 ·obtain⟨v,q⟩:=I.cell x c e;exact absurd (lt_of_lt_of_le q.lt (by rw[z];exact hb)) (lt_irrefl _)
 ·exact absurd (lt_of_lt_of_le (Heap.lt_size (I.pin p hp).1) (by rw[z];exact hb)) (lt_irrefl _)
structure Turn(P:Program)(w:World)(K:W.Frag)(tg:Expr)(J:It)(fp:List Addr)(it:Addr)(tn:Nat->Heap->Prop):Prop where
 mem:it∈fp
 obj:∀i h,tn i h->∀b∈fp,∃o,h.get? b=some o/\∀v,o.data≠.cell v
 keep:∀i h h',tn i h->(∀b∈fp,∀o,h.get? b=some o->h'.get? b=some o)->tn i h'
 item:∀(X:Cx),X.prog=P->X.w=w->X.K=K->X.calm=true->∀(i:Nat)(aa:List (Addr×Obj))(s:Shared)(σ:St)(H:Hp)(E:Value->Shared->Prop),Inv X aa σ H s->(∀b∈fp,QaB X aa H b)->tn i s.heap->J.go i H->wpAny (model P w) X.A (pyNext (.ref it)) (λr s1=>∃u,r=some u/\wpAny (model P w) X.A (letOwnedTupleGo tg (.ref it) u) (λ_ s2=>∃x H',Inv X aa σ H' s2/\RelV x u/\J.yld i H x H'/\tn (i+1) s2.heap/\∀b∈fp,H' b=none) E s1) E s
 done:∀(X:Cx),X.prog=P->X.w=w->X.K=K->X.calm=true->∀(i:Nat)(aa:List (Addr×Obj))(s:Shared)(σ:St)(H:Hp)(E:Value->Shared->Prop),Inv X aa σ H s->(∀b∈fp,QaB X aa H b)->tn i s.heap->J.stop i H->wpAny (model P w) X.A (pyNext (.ref it)) (λr s1=>r=none/\Inv X aa σ H s1) E s
 self:∀(A:Around)(i:Nat)(s:Shared)(Q:Value->Shared->Prop)(E:Value->Shared->Prop),tn i s.heap->Q (.ref it) s->wpAny (model P w) A (pyIter (.ref it)) Q E s
abbrev TI:=St->Hp->(It->Hp->Prop)->Prop
def PIE(X:Cx)(aa:List (Addr×Obj))(σ:St)(tg:Expr)(R:It->Hp->Prop)(gW:Value)(s2:Shared):Prop:=∃(it:Addr)(fp:List Addr)(tn:Nat->Heap->Prop)(J:It)(H':Hp),gW=.ref it/\Inv X aa σ H' s2/\Turn X.prog X.w X.K tg J fp it tn/\tn 0 s2.heap/\(∀b∈fp,QaB X aa H' b)/\R J H'
def PI(X:Cx)(tg iter:Expr)(wi:TI):Prop:=∀(aa:List (Addr×Obj))(s:Shared)(σ:St)(H:Hp)(R:It->Hp->Prop),Inv X aa σ H s->wi σ H R->wpAny (model X.prog X.w) X.A (eval iter X.env) (λv s1=>wpAny (model X.prog X.w) X.A (pyIter v) (PIE X aa σ tg R) X.xe s1) X.xe s
theorem Qtp{M:Model}{A:Around}{E:Value->Shared->Prop}{s:Shared}{tg:Expr}{it:Addr}{u:Value}{o:Obj}{n:String}{vs:Array Value}{Q:Unit->Shared->Prop}(ho:s.heap.get? it=some o)(hc:o.cls=.type n)(hd:o.data=.fields vs)(hn:["enumerate","zip","dict_itemiterator","dict_reverseitemiterator","odict_iterator","itertools.zip_longest","itertools.pairwise"].contains n=false)(hQ:Q () s):wpAny M A (letOwnedTupleGo tg (.ref it) u) Q E s:=by unfold letOwnedTupleGo;cases tg<;>first|exact wpAny_pure hQ|(cases u<;>first|exact wpAny_pure hQ|(refine wpAny_bind (wpAny_load ho ?_);rw[hc,hd];show wpAny M A (if(["enumerate","zip","dict_itemiterator","dict_reverseitemiterator","odict_iterator","itertools.zip_longest","itertools.pairwise"].contains n&&vs[0]?==some (rawInt _))=true then _ else _) Q E s;rw[if_neg (by intro h;rw[hn,Bool.false_and]at h;cases h)];exact wpAny_pure hQ))
def Itl(K:W.Frag)(a:Addr):It:=⟨λi H=>∃xs x,SqL K H a xs/\xs[i]?=some x,λi H x H'=>H'=H/\∀xs,SqL K H a xs->xs[i]?=some x,λi H=>∃xs,SqL K H a xs/\xs.length<=i⟩
noncomputable def Itr(lo:Int)(n:Nat):It:=⟨λi _=>i<n,λi H x H'=>H'=H/\x=.int (lo+i),λi _=>n<=i⟩
theorem Qqt{P:Program}{w:World}{K:W.Frag}{tg:Expr}(a it:Addr):Turn P w K tg (Itl K a) [it] it (λi h=>h.IsListIter it a i)where
 mem:=by simp
 obj:=λi h st b hb=>by
  have e:b=it:=by simpa using hb
  subst e;obtain⟨o,e,c,d⟩:=st;exact⟨o,e,λv z=>by rw[d]at z;cases z⟩
 keep:=λi h h' st k=>st.at λo e=>k it (by simp) o e
 item:=by
  intro X hP hw hK hc i aa s σ H E I hf st hg;subst hP hw hK;obtain⟨xs,x,hq,hx⟩:=hg;obtain⟨its,rv,p,hz⟩:=I.list hq;obtain⟨u,hu,ru⟩:=rv.get hx;obtain⟨f0,f1,f2,f3,f4,f5⟩:=hf it (by simp);refine wpAny_pyNext_list_item st p.isList (x:=u) (by simpa using hu) λh' cZ sb=>?_;have I1:Inv X aa σ H {s with heap:=h'}:=I.turned (t':=s.toks) (λb o hb e=>(sb.2 b hb).trans e) f0 f1 f3 f4 f5;obtain⟨o,e,c,d⟩:=id cZ;exact⟨u,rfl,Qtp (s:={s with heap:=h'}) e c d (by decide) ⟨x,H,I1,ru,⟨rfl,λys hy=>by rw[I.list_inj hy hq];exact hx⟩,cZ,λb hb=>(hf b hb).1⟩⟩
 done:=by
  intro X hP hw hK hc i aa s σ H E I hf st hg;subst hP hw hK;obtain⟨xs,hq,hx⟩:=hg;obtain⟨its,rv,p,hz⟩:=I.list hq;obtain⟨f0,f1,f2,f3,f4,f5⟩:=hf it (by simp);have hl:=rv.length;exact wpAny_pyNext_list_end (I.ok.hd hc) st p.isList (by simp;omega) λh' eb=>⟨rfl,I.turned (t':=s.toks) (λb o hb e=>eb b o hb e) f0 f1 f3 f4 f5⟩
 self:=λ_ _ _ _ _ st h=>wpAny_pyIter_listiter st h
theorem QoS{P:Program}{w:World}{K:W.Frag}{tg:Expr}(it:Addr)(lo:Int)(n:Nat):Turn P w K tg (Itr lo n) [it] it (λi h=>IsRangeIter h it (lo+(i:Nat)*1) ((n:Int)-(i:Nat)) 1)where
 mem:=by simp
 obj:=λi h st b hb=>by
  have e:b=it:=by simpa using hb
  subst e;exact⟨_,st,λv z=>by have z':Data.fields _=Data.cell v:=z;cases z'⟩
 keep:=λi h h' st k=>k it (by simp) _ st
 item:=by
  intro X hP hw hK hc i aa s σ H E I hf st hg;subst hP hw hK;obtain⟨f0,f1,f2,f3,f4,f5⟩:=hf it (by simp);have W:=Walks.range (prog:=X.prog) (w:=X.w) (I.ok.hd hc) it lo 1 n;refine W.item i s _ _ hg st λv h' tk hv cZ kk=>?_;obtain⟨t,rfl⟩:=hv;have I1:Inv X aa σ H {s with heap:=h',toks:=tk}:=I.turned (λb o hb e=>kk b o (by simpa using hb) e) f0 f1 f3 f4 f5;refine⟨_,rfl,Qtp (s:={s with heap:=h',toks:=tk}) (n:="range_iterator") cZ rfl rfl (by decide) ⟨.int (lo+i),H,I1,⟨t,?_⟩,⟨rfl,rfl⟩,cZ,λb hb=>(hf b hb).1⟩⟩;rw[Int.mul_one]
 done:=by
  intro X hP hw hK hc i aa s σ H E I hf st hg;subst hP hw hK;obtain⟨f0,f1,f2,f3,f4,f5⟩:=hf it (by simp);exact wpAny_pyNext_range_end (I.ok.hd hc) st (by have:n<=i:=hg;omega) λh' eb=>⟨rfl,I.turned (t':=s.toks) (λb o hb e=>eb b o hb e) f0 f1 f3 f4 f5⟩
 self:=λ_ _ _ _ _ st h=>wpAny_pyIter_rangeiter st h
section
variable{X:Cx}{tg:Expr}
def Qtn(K:W.Frag)(tl:TE):TI:=λσ H R=>tl σ H λx H1=>∃a,x=.ref a/\(∃xs,SqL K H1 a xs)/\R (Itl K a) H1
theorem QiE{l:Expr}{tl:TE}(hl:PE X l tl):PI X tg l (Qtn X.K tl):=by
 intro aa s σ H R I h;refine thn (hl aa s σ H _ I h) λv s1⟨x,H1,I1,r1,q1⟩=>?_;obtain⟨a,e,⟨xs,hq⟩,q⟩:=q1;subst e;cases r1;obtain⟨its,rv,p,hz⟩:=I1.list hq;refine wpAny_pyIter_list p.isList ?_;refine⟨s1.heap.objs.size,[s1.heap.objs.size],_,_,H1,rfl,I1.kept (t':=s1.toks) λb o e=>Heap.get?_push_of_some _ e,Qqt a _,⟨_,Heap.get?_push_size _ rfl,rfl,rfl⟩,λb hb=>?_,q⟩;have e:b=s1.heap.objs.size:=by simpa using hb
 subst e;exact I1.fpOk (le_refl _) (I1.hok.fresh (le_refl _))
theorem Qsd{aa:List (Addr×Obj)}{σ:St}{H:Hp}{s:Shared}{R:It->Hp->Prop}{E:Value->Shared->Prop}{lo hi:Int}{t u v:Tok}{tk:Nat}(I:Inv X aa σ H s)(h1:-2^62<=lo)(h2:lo<2^62)(h3:-2^62<=hi)(h4:hi<2^62)(q:R (Itr lo (hi-lo).toNat) H):wpAny (model X.prog X.w) X.A (pyIter (.ref s.heap.objs.size)) (PIE X aa σ tg R) E {s with heap:=s.heap.push {cls:=.type "range",data:=.fields #[.int lo t,.int hi u,.int 1 v]},toks:=tk}:=by
 refine wpAny_pyIter_range (IsRange.new ..) (small_one h1 h2 h3 h4) ? _;have I1:Inv X aa σ H {s with heap:=s.heap.push {cls:=.type "range",data:=.fields #[.int lo t,.int hi u,.int 1 v]},toks:=tk}:=I.kept λb o e=>Heap.get?_push_of_some _ e;refine⟨(s.heap.push {cls:=.type "range",data:=.fields #[.int lo t,.int hi u,.int 1 v]}).objs.size,[(s.heap.push {cls:=.type "range",data:=.fields #[.int lo t,.int hi u,.int 1 v]}).objs.size],_,_,H,rfl,I1.kept (t':=tk) λb o e=>Heap.get?_push_of_some _ e,QoS _ lo (hi-lo).toNat,? _,λb hb=>? _,q⟩
 ·have e1:lo+((0:Nat):Int)*1=lo:=by simp
  have e2:(((hi-lo).toNat:Nat):Int)-((0:Nat):Int)=Builtin.Range.rangeSize lo hi 1:=by rw[rangeSize_one];split<;>omega
  show IsRangeIter _ _ (lo+((0:Nat):Int)*1) ((((hi-lo).toNat:Nat):Int)-((0:Nat):Int)) 1;rw[e1,e2];exact Heap.get?_push_size _ rfl
 ·have e:b=(s.heap.push {cls:=.type "range",data:=.fields #[.int lo t,.int hi u,.int 1 v]}).objs.size:=by simpa using hb
  subst e;exact I1.fpOk (le_refl _) (I1.hok.fresh (le_refl _))
def Qw8(ta:TA):TI:=λσ H R=>ta σ H λvs H1=>∃j:Int,vs=[.int j]/\-2^62<=j/\j<2^62/\R (Itr 0 j.toNat) H1
theorem QqM{a:Expr}{ta:TA}{p pos:Pos}(hg:Gl X "range")(hm:X.mg "range"=none)(ha:PA X [a] ta)(hs:starEach [a] X.env=[(false,eval a X.env)]:=by rfl):PI X tg (.Call (.Name "range" p) [a] [] pos) (Qw8 ta):=by intro aa s σ H R I h;refine Call_ (QdE I hg hm boot_range (PyProof.Rows.callWith_type1 (thn (ha pos aa s σ H _ I h) λus s1⟨vs,H1,I1,r1,q1⟩=>?_) hs rfl));obtain⟨j,e,q1,q2,q⟩:=q1;subst e;cases r1 with|cons r rr=>cases rr;obtain⟨t,rfl⟩:=r;exact call_range_1 (Qsd I1 (by omega) (by omega) q1 q2 (by simpa using q))
def Qva(wi:TI)(g:TG)(tb:TS):TS:=λD σ H=>wi σ H λJ H1=>∃W:Nat->Nat->St->Hp->Prop,(∃m,W 0 m σ H1)/\∀i m σ H,W i m σ H->J.stop i H/\D.nx σ H\/J.go i H/\∃N:St->Hp->Prop,(∀σ' H',N σ' H'->∃m',m'<m/\W (i+1) m' σ' H')/\∀x H',J.yld i H x H'->g x σ H' λσ2 H2=>tb {D with nx:=N,ct:=N,bk:=D.nx} σ2 H2
noncomputable def Qfa(fp:List Addr)(h:Heap):List (Addr×Obj):=fp.filterMap λb=>(h.get? b).map λo=>(b,o)
theorem Qb2{fp:List Addr}{h:Heap}{b:Addr}{o:Obj}(hb:b∈fp)(e:h.get? b=some o):(b,o)∈Qfa fp h:=List.mem_filterMap.mpr ⟨b,hb,by rw[e];rfl⟩
theorem QqW{fp:List Addr}{h:Heap}{p:Addr×Obj}(hp:p∈Qfa fp h):p.1∈fp/\h.get? p.1=some p.2:=by obtain⟨b,hb,e⟩:=List.mem_filterMap.mp hp;cases q:h.get? b with|none=>rw[q]at e;cases e|some o=>rw[q]at e;have e':(b,o)=p:=Option.some.inj e;subst e';exact⟨hb,q⟩
theorem Inv.pinned{aa:List (Addr×Obj)}{σ:St}{H:Hp}{s:Shared}{fp:List Addr}(I:Inv X aa σ H s)(hf:∀b∈fp,QaB X aa H b)(ho:∀b∈fp,∃o,s.heap.get? b=some o/\∀v,o.data≠.cell v):Inv X (aa++Qfa fp s.heap) σ H s:=I.pins_of λp hp=>(List.mem_append.mp hp).elim (λz=>I.pin p (mem_append_right _ z)) λz=>by obtain⟨hb,e⟩:=QqW z;obtain⟨f0,f1,f2,_⟩:=hf p.1 hb;obtain⟨o,e',d⟩:=ho p.1 hb;rw[e]at e';cases e';exact⟨e,f0,f1,f2,d⟩
theorem Inv.unpinned{aa pl:List (Addr×Obj)}{σ:St}{H:Hp}{s:Shared}(I:Inv X (aa++pl) σ H s):Inv X aa σ H s:=I.pins_of λp hp=>I.pin p (mem_append_right _ (mem_append_left _ hp))
theorem QkP{iter:Expr}{body:List Stmt}{wi:TI}{g:TG}{tb:TS}{pos:Pos}(hp:PassesOwn (model X.prog X.w) X.A X.env X.xe)(hc:X.calm=true)(hi:PI X tg iter wi)(hg:PG X tg g)(hb:PSs X body tb)(hs:∀x,foldedSetIterable iter X.env x=pure x:=by intro _;rfl):PS X (.For tg iter body [] pos) (Qva wi g tb):=by
 intro aa s σ H D I h;refine wpAny_For (thn (hi aa s σ H _ I h) λv s1 h1=>thn h1 λgW s2 h2=>?_) hs;obtain⟨it,fp,tn,J,H2,e,I2,T,dw,f2,W,⟨m0,w0⟩,turn⟩:=h2;subst e;have stat:∀{H':Hp},(∀b∈fp,H' b=none)->∀b∈fp,QaB X aa H' b:=λhn b hb=>⟨hn b hb,(f2 b hb).2⟩;refine codeAny_forLoop_any (λn s'=>∃i σ' H',Inv X aa σ' H' s'/\tn i s'.heap/\(∀b∈fp,H' b=none)/\W i n σ' H') ?_ m0 ⟨0,σ,H2,I2,dw,λb hb=>(f2 b hb).1,w0⟩;rintro n s3⟨i,σ3,H3,I3,dU,fL,w3⟩;rcases turn i n σ3 H3 w3 with⟨stop,qn⟩|⟨go,N,hN,step⟩
 ·refine wpAny_passesOwn hp (thn (T.done X rfl rfl rfl hc i aa s3 σ3 H3 X.xe I3 (stat fL) dU stop) λr s4⟨hr,I4⟩=>?_);subst hr;exact wpAny_execs_nil ⟨σ3,H3,I4,qn⟩
 ·refine wpAny_passesOwn hp (thn (T.item X rfl rfl rfl hc i aa s3 σ3 H3 X.xe I3 (stat fL) dU go) λr s4⟨u,hr,h4⟩=>?_);subst hr;refine wpAny_passesOwn hp (thn h4 λ_ s5⟨x,H5,I5,r5,y5,dS,iA⟩=>?_);have iI:=I5.pinned (stat iA) (T.obj _ _ dS);refine wpAny_passesOwn hp (thn (hg _ s5 σ3 H5 x u _ iI r5 (step x H5 y5)) λ_ s6⟨σ6,H6,I6,q6⟩=>?_);refine wpAny_passesOwn hp (thn (hb _ s6 σ6 H6 _ I6 q6) λf s7 q7=>?_);have again:∀{σ7:St}{H7:Hp},Inv X (aa++Qfa fp s5.heap) σ7 H7 s7->N σ7 H7->∃m,m<n/\∃i σ' H',Inv X aa σ' H' s7/\tn i s7.heap/\(∀b∈fp,H' b=none)/\W i m σ' H':=λ{σ7 H7}I7 n7=>by
   obtain⟨m',hm,w7⟩:=hN σ7 H7 n7;refine⟨m',hm,i+1,σ7,H7,I7.unpinned,T.keep _ _ _ dS λb hb o e=>(I7.pin (b,o) (mem_append_right _ (mem_append_right _ (Qb2 hb e)))).1,λb hb=>?_,w7⟩;obtain⟨o,e,d⟩:=T.obj _ _ dS b hb;exact(I7.pin (b,o) (mem_append_right _ (mem_append_right _ (Qb2 hb e)))).2.1
  cases f with
  |next=>obtain⟨σ7,H7,I7,n7⟩:=q7;exact again I7 n7|cont=>obtain⟨σ7,H7,I7,n7⟩:=q7;exact again I7 n7|brk=>obtain⟨σ7,H7,I7,q7⟩:=q7;exact⟨σ7,H7,I7.unpinned,q7⟩|ret v=>obtain⟨x7,σ7,H7,I7,r7,q7⟩:=q7;exact⟨x7,σ7,H7,I7.unpinned,r7,q7⟩
end
abbrev R2:=V->V->Hp->VK->Prop
def OpR(X:Cx)(f:Value->Value->Sem Value)(r:R2):Prop:=∀(aa:List (Addr×Obj))(s:Shared)(σ:St)(H:Hp)(x y:V)(v u:Value)(Q:VK),Inv X aa σ H s->RelV x v->RelV y u->r x y H Q->wpAny (model X.prog X.w) X.A (f v u) (EP X aa σ Q) X.xe s
def UnR(X:Cx)(f:Value->Sem Value)(r:V->Hp->VK->Prop):Prop:=∀(aa:List (Addr×Obj))(s:Shared)(σ:St)(H:Hp)(x:V)(v:Value)(Q:VK),Inv X aa σ H s->RelV x v->r x H Q->wpAny (model X.prog X.w) X.A (f v) (EP X aa σ Q) X.xe s
def CallR(X:Cx)(f:Value)(r:List V->Hp->VK->Prop):Prop:=∀(aa:List (Addr×Obj))(s:Shared)(σ:St)(H:Hp)(xs:List V)(us:List Value)(Q:VK),Inv X aa σ H s->Vals xs us->r xs H Q->wpAny (model X.prog X.w) X.A (call f us) (EP X aa σ Q) X.xe s
noncomputable def tOp(r:R2)(ta tb:TE):TE:=λσ H Q=>ta σ H λx H1=>tb σ H1 λy H2=>r x y H2 Q
noncomputable def tUn(r:V->Hp->VK->Prop)(ta:TE):TE:=λσ H Q=>ta σ H λx H1=>r x H1 Q
noncomputable def rI(C:Int->Int->Prop)(g:Int->Int->V):R2:=λx y H Q=>∃i j,x=.int i/\y=.int j/\C i j/\Q (g i j) H
noncomputable def rI0(g:Int->Int->V):R2:=λx y H Q=>∃i j,x=.int i/\y=.int j/\Q (g i j) H
noncomputable def rU(g:Int->V):V->Hp->VK->Prop:=λx H Q=>∃i,x=.int i/\Q (g i) H
section
variable{X:Cx}{a b c:Expr}{ta tb tc:TE}{pos:Pos}
theorem QrR(ha:PE X a ta)(hb:PE X b tb){aa:List (Addr×Obj)}{s:Shared}{σ:St}{H:Hp}{R:V->V->Hp->Prop}(I:Inv X aa σ H s)(h:ta σ H λx H1=>tb σ H1 λy H2=>R x y H2){Q:Value->Shared->Prop}{f:Value->Value->Sem Value}(hf:∀v u s2 x y H2,Inv X aa σ H2 s2->RelV x v->RelV y u->R x y H2->wpAny (model X.prog X.w) X.A (f v u) Q X.xe s2):wpAny (model X.prog X.w) X.A (eval a X.env) (λv s₁=>wpAny (model X.prog X.w) X.A (eval b X.env) (λu s₂=>wpAny (model X.prog X.w) X.A (f v u) Q X.xe s₂) X.xe s₁) X.xe s:=by refine thn (ha aa s σ H _ I h) λv s1⟨x,H1,I1,r1,q1⟩=>?_;refine thn (hb aa s1 σ H1 _ I1 q1) λu s2⟨y,H2,I2,r2,q2⟩=>?_;exact hf v u s2 x y H2 I2 r1 r2 q2
theorem QwX{op:Operator}{r:R2}(ho:OpR X (binaryOp op) r)(ha:PE X a ta)(hb:PE X b tb):PE X (.BinOp a op b pos) (tOp r ta tb):=by intro aa s σ H Q I h;exact wpAny_BinOp (QrR ha hb I h λv u s2 x y H2 I2 rx ry q=>ho aa s2 σ H2 x y v u Q I2 rx ry q)
theorem QwV{op:UnaryOp}{r:V->Hp->VK->Prop}(ho:UnR X (unaryOp op) r)(ha:PE X a ta):PE X (.UnaryOp op a pos) (tUn r ta):=by intro aa s σ H Q I h;exact UnaryOp_ (thn (ha aa s σ H _ I h) λv s1⟨x,H1,I1,r1,q1⟩=>ho aa s1 σ H1 x v Q I1 r1 q1)
theorem opI{f:Value->Value->Sem Value}{C:Int->Int->Prop}{g:Int->Int->Int}(rule:∀(i j:Int)(t u:Tok)(s:Shared)(Q:Value->Shared->Prop)(E:Value->Shared->Prop),C i j->Q (.int (g i j) s.toks) {s with toks:=s.toks+1}->wpAny (model X.prog X.w) X.A (f (.int i t) (.int j u)) Q E s):OpR X f (rI C λi j=>.int (g i j)):=by intro aa s σ H x y v u Q I rx ry h;obtain⟨i,j,rfl,rfl,hc,q⟩:=h;obtain⟨t,rfl⟩:=rx;obtain⟨t',rfl⟩:=ry;exact rule i j t t' s _ _ hc ⟨.int (g i j),H,I.tok _,⟨_,rfl⟩,q⟩
theorem Qou{f:Value->Value->Sem Value}{g:Int->Int->Int}(rule:∀(i j:Int)(t u:Tok)(s:Shared)(Q:Value->Shared->Prop)(E:Value->Shared->Prop),Q (.int (g i j) s.toks) {s with toks:=s.toks+1}->wpAny (model X.prog X.w) X.A (f (.int i t) (.int j u)) Q E s):OpR X f (rI0 λi j=>.int (g i j)):=by intro aa s σ H x y v u Q I rx ry h;obtain⟨i,j,rfl,rfl,q⟩:=h;obtain⟨t,rfl⟩:=rx;obtain⟨t',rfl⟩:=ry;exact rule i j t t' s _ _ ⟨.int (g i j),H,I.tok _,⟨_,rfl⟩,q⟩
theorem QrN{f:Value->Value->Sem Value}{g:Int->Int->Bool}(rule:∀(i j:Int)(t u:Tok)(s:Shared)(Q:Value->Shared->Prop)(E:Value->Shared->Prop),Q (.bool (g i j)) s->wpAny (model X.prog X.w) X.A (f (.int i t) (.int j u)) Q E s):OpR X f (rI0 λi j=>.bl (g i j)):=by intro aa s σ H x y v u Q I rx ry h;obtain⟨i,j,rfl,rfl,q⟩:=h;obtain⟨t,rfl⟩:=rx;obtain⟨t',rfl⟩:=ry;exact rule i j t t' s _ _ ⟨.bl (g i j),H,I,rfl,q⟩
def QrX(i j:Int):Prop:=0<j/\j<1073741824
def QrW(i j:Int):Prop:=0<=j/\j<=1000000/\i.natAbs<2^64
def CMul(i j:Int):Prop:=-2^64<i/\i<2^64\/-2^64<j/\j<2^64
theorem CMul.ok{i j:Int}(h:CMul i j):IntMulOk i j:=by
 rcases h with⟨h1,h2⟩|⟨h1,h2⟩;·exact .of_left (intBits_le_64 h1 h2)
 ·exact .of_right (intBits_le_64 h1 h2)
theorem Qv2:OpR X (binaryOp .Add) (rI0 λi j=>.int (i+j)):=Qou λ_ _ _ _ _ _ _ q=>add_int q
theorem QvV:OpR X (binaryOp .Sub) (rI0 λi j=>.int (i-j)):=Qou λ_ _ _ _ _ _ _ q=>sub_int q
theorem Qp1:OpR X (binaryOp .Mult) (rI CMul λi j=>.int (i*j)):=opI λ_ _ _ _ _ _ _ hc q=>mul_int q hc.ok
theorem Qt5:OpR X (binaryOp .FloorDiv) (rI QrX λi j=>.int (i/j)):=opI λi j _ _ _ _ _ hc q=>by have h1:(0:Int)<j:=hc.1;have h2:j<1073741824:=hc.2;exact floordiv_int (by omega) (by rw[Int.fdiv_eq_ediv_of_nonneg i (by omega)];exact q) (.inl (PyProof.noPylong_small (by omega)))
theorem QvY:OpR X (binaryOp .Mod) (rI (λ_ j=>0<j) λi j=>.int (i%j)):=opI λi j _ _ _ _ _ hc q=>by have h1:(0:Int)<j:=hc;exact mod_int' (by omega) (by rw[Int.fmod_eq_emod_of_nonneg i (by omega)];exact q)
theorem QvX:OpR X (binaryOp .Pow) (rI QrW λi j=>.int (i^j.toNat)):=opI λ_ _ _ _ _ _ _ hc q=>pow_int_small hc.1 hc.2.1 hc.2.2 q
theorem QuD:OpR X (inplaceOp .Add) (rI0 λi j=>.int (i+j)):=Qou λ_ _ _ _ _ _ _ q=>iadd_int q
theorem QuC:OpR X (inplaceOp .Sub) (rI0 λi j=>.int (i-j)):=Qou λ_ _ _ _ _ _ _ q=>isub_int q
theorem unI{f:Value->Sem Value}{g:Int->Int}(rule:∀(i:Int)(t:Tok)(s:Shared)(Q:Value->Shared->Prop)(E:Value->Shared->Prop),Q (.int (g i) s.toks) {s with toks:=s.toks+1}->wpAny (model X.prog X.w) X.A (f (.int i t)) Q E s):UnR X f (rU λi=>.int (g i)):=by intro aa s σ H x v Q I rx h;obtain⟨i,rfl,q⟩:=h;obtain⟨t,rfl⟩:=rx;exact rule i t s _ _ ⟨.int (g i),H,I.tok _,⟨_,rfl⟩,q⟩
theorem Qvp:UnR X (unaryOp .USub) (rU λi=>.int (-i)):=unI λ_ _ _ _ _ q=>neg_int q
end
section
variable{X:Cx}{a b c:Expr}{ta tb tc:TE}{pos:Pos}
theorem QwZ:OpR X (compareOp .Lt) (rI0 λi j=>.bl (decide (i<j))):=QrN λ_ _ _ _ _ _ _ q=>lt_int q
theorem Qw0:OpR X (compareOp .LtE) (rI0 λi j=>.bl (decide (i<=j))):=QrN λ_ _ _ _ _ _ _ q=>le_int q
theorem Qw1:OpR X (compareOp .Gt) (rI0 λi j=>.bl (decide (j<i))):=QrN λ_ _ _ _ _ _ _ q=>gt_int q
theorem OpR.or{f:Value->Value->Sem Value}{r r':R2}(h:OpR X f r)(h':OpR X f r'):OpR X f λx y H Q=>r x y H Q\/r' x y H Q:=by
 intro aa s σ H x y v u Q I rx ry q;rcases q with q|q;·exact h aa s σ H x y v u Q I rx ry q
 ·exact h' aa s σ H x y v u Q I rx ry q
theorem JJ(b:Expr){op:CmpOp}(h:op≠.In:=by decide)(h2:op≠.NotIn:=by decide):behindInMarks op b=false:=by
 have e1:(op==CmpOp.In)=false:=by cases op<;>first|rfl|exact absurd rfl h
 have e2:(op==CmpOp.NotIn)=false:=by cases op<;>first|rfl|exact absurd rfl h2
 cases b<;>simp[behindInMarks,e1,e2]
theorem Qt0{op:CmpOp}{r:R2}(ho:OpR X (compareOp op) r)(ha:PE X a ta)(hb:PE X b tb)(hm:behindInMarks op b=false):PE X (.Compare a [op] [b] pos) (tOp r ta tb):=by intro aa s σ H Q I h;exact wpAny_Compare1 (QrR ha hb I h λv u s2 x y H2 I2 rx ry q=>ho aa s2 σ H2 x y v u Q I2 rx ry q) hm
def QwL(t:TE):TT:=λσ H Q=>t σ H λx H'=>∃k,x=.bl k/\Q k H'
theorem QtP{op:CmpOp}{r:R2}(ho:OpR X (compareOp op) r)(ha:PE X a ta)(hb:PE X b tb)(hm:behindInMarks op b=false):PT X (.Compare a [op] [b] pos) (QwL (tOp r ta tb)):=by intro aa s σ H Q I h;refine wpAny_isTrue_Compare1 (thn (ha aa s σ H _ I h) λv s1⟨x,H1,I1,r1,q1⟩=>thn (hb aa s1 σ H1 _ I1 q1) λu s2⟨y,H2,I2,r2,q2⟩=>thn (ho aa s2 σ H2 x y v u _ I2 r1 r2 q2) λc s3⟨z,H3,I3,r3,k,e,q3⟩=>?_) hm;subst e;cases r3;exact wpAny_truthy_bool ⟨H3,I3,q3⟩
noncomputable def QpO(r r':R2)(ta tb tc:TE):TE:=λσ H Q=>ta σ H λx H1=>tb σ H1 λy H2=>r x y H2 λz H3=>∃k,z=.bl k/\if k=true then tc σ H3 λw' H4=>r' y w' H4 Q else Q (.bl false) H3
theorem Qsm{op dX:CmpOp}{r r':R2}(ho:OpR X (compareOp op) r)(cB:OpR X (compareOp dX) r')(ha:PE X a ta)(hb:PE X b tb)(hc:PE X c tc)(hm:lastMarks [op,dX] [b,c]=false:=by with_unfolding_all rfl):PE X (.Compare a [op,dX] [b,c] pos) (QpO r r' ta tb tc):=by intro aa s σ H Q I h;refine Compare_chain (thn (ha aa s σ H _ I h) λv s1⟨x,H1,I1,r1,q1⟩=>chain_link (thn (hb aa s1 σ H1 _ I1 q1) λu s2⟨y,H2,I2,r2,q2⟩=>thn (ho aa s2 σ H2 x y v u _ I2 r1 r2 q2) λd s3⟨z,H3,I3,r3,k,e,q3⟩=>?_)) hm;subst e;cases r3;refine wpAny_truthy_bool ?_;cases k with|false=>exact ite_ff ⟨.bl false,H3,I3,rfl,q3⟩|true=>exact ite_tt (chain_last (thn (hc aa s3 σ H3 _ I3 q3) λw' s4⟨z',H4,I4,r4,q4⟩=>cB aa s4 σ H4 y z' u w' Q I4 r2 r4 q4))
theorem Qfh:(sizeLine:Nat)<2^63:=by rw[sizeLine_eq];decide
theorem Qo9:OpR X (binaryOp .Add) λx y H Q=>∃i j,x=.str i/\y=.str j/\i.length+j.length<=sizeLine/\Q (.str (i++j)) H:=by intro aa s σ H x y v u Q I rx ry h;obtain⟨i,j,rfl,rfl,hz,q⟩:=h;obtain⟨t,rfl⟩:=rx;obtain⟨t',rfl⟩:=ry;exact add_str (λt' tk=>⟨.str (i++j),H,I.tok _,⟨_,rfl⟩,q⟩) hz
theorem Qnd:OpR X (inplaceOp .Add) λx y H Q=>∃i j,x=.str i/\y=.str j/\i.length+j.length<=sizeLine/\Q (.str (i++j)) H:=by intro aa s σ H x y v u Q I rx ry h;obtain⟨i,j,rfl,rfl,hz,q⟩:=h;obtain⟨t,rfl⟩:=rx;obtain⟨t',rfl⟩:=ry;exact iadd_str (λt' tk=>⟨.str (i++j),H,I.tok _,⟨_,rfl⟩,q⟩) hz
theorem Qab{x:V}{us:List Value}(r:Vals [x] us):∃u,us=[u]/\RelV x u:=by cases r with|cons r1 r2=>cases r2;exact⟨_,rfl,r1⟩
theorem Qkn{x y:V}{us:List Value}(r:Vals [x,y] us):∃u w',us=[u,w']/\RelV x u/\RelV y w':=by cases r with|cons r1 r2=>cases r2 with|cons r3 r4=>cases r4;exact⟨_,_,rfl,r1,r3⟩
theorem QrA(hc:X.calm=true):CallR X (.builtin "max") λxs H Q=>∃i j,xs=[.int i,.int j]/\Q (.int (if j>i then j else i)) H:=by
 intro aa s σ H xs us Q I r h;obtain⟨i,j,rfl,q⟩:=h;obtain⟨u,w',rfl,⟨t,rfl⟩,⟨t',rfl⟩⟩:=Qkn r;refine max_two_ints (I.ok.hd hc) λh' tk k=>⟨_,H,I.kept k,? _,q⟩;by_cases hj:j>i;·rw[if_pos hj,if_pos hj];exact⟨_,rfl⟩
 ·rw[if_neg hj,if_neg hj];exact⟨_,rfl⟩
theorem QrB:CallR X (.type "int") λxs H Q=>(∃i,xs=[.int i]/\Q (.int i) H)\/∃k,xs=[.bl k]/\Q (.int (if k then 1 else 0)) H:=by
 intro aa s σ H xs us Q I r h;rcases h with⟨i,rfl,q⟩|⟨k,rfl,q⟩;·obtain⟨u,rfl,t,rfl⟩:=Qab r;exact call_int_int ⟨.int i,H,I,⟨_,rfl⟩,q⟩
 ·obtain⟨u,rfl,r1⟩:=Qab r;cases r1;exact call_int_bool ⟨.int (if k then 1 else 0),H,I.tok _,⟨_,rfl⟩,q⟩
theorem Qmz:CallR X (.type "str") λxs H Q=>∃i,xs=[.int i]/\i.natAbs.log2<1920/\Q (.str (toString i)) H:=by intro aa s σ H xs us Q I r h;obtain⟨i,rfl,hz,q⟩:=h;obtain⟨u,rfl,t,rfl⟩:=Qab r;exact PySem.P.str_of_int hz ⟨.str _,H,I.tok _,⟨_,rfl⟩,q⟩
end
structure ObjM(h:Heap)(x dx C:Addr)(mA:Str->Option Value):Prop where
 obj:h.get? x=some (W.instObj C dx)ns:h.Ns1 dx mA
 ne:dx≠x
theorem Qq3{h:Heap}{dx:Addr}{mA:Str->Option Value}(n:h.Ns1 dx mA):∃od,h.get? dx=some od/\∀name,W.lookIn name od=some (mA name):=by
 obtain⟨o,es,ep,ho,hd,hk,_,hm⟩:=n;refine⟨o,ho,λname=>?_⟩;have e:=hm name;unfold nsFind findBy at e;rw[<-Array.find?_toList]at e;unfold W.lookIn;rw[hd];dsimp only;split;·rename_i y q;rw[q]at e;exact congrArg some e
 ·rename_i q;rw[q]at e;have a:es.toList.any (·.refKey)=false:=by
   rw[List.any_eq_false];intro y hy;obtain⟨z,t,eA⟩:=hk y (Array.mem_toList_iff.mp hy);simp[DictEntry.refKey,eA]
  have a':¬es.toList.any (·.refKey)=true:=by rw[a];exact Bool.false_ne_true
  rw[if_neg a'];exact congrArg some e
theorem ObjM.look{h:Heap}{x dx C:Addr}{mA:Str->Option Value}(I:ObjM h x dx C mA):∃od,W.InstAt h x (W.instObj C dx) C (some od)/\∀name,W.lookIn name od=some (mA name):=let⟨od,ho,hl⟩:=Qq3 I.ns
 ⟨od,⟨I.obj,rfl,rfl,ho⟩,hl⟩
theorem RelO.some_of{v:V}{o:Option Value}(r:RelO (some v) o):∃u,o=some u/\RelV v u:=by cases o with|none=>exact(show False from r).elim|some u=>exact⟨u,rfl,r⟩
section
variable{P:Program}{w:World}{H H':Hp}{h h':Heap}{a C dx:Addr}{fs lR:List (Str×V)}
theorem QuE(hok:HOk P w H h)(e:H a=some (.ins C dx fs)):∃mA,ObjM h a dx C mA/\(∀f,RelO (fs.lookup f) (mA f))/\PySem.Within mA (fs.map (·.1))/\fs.length<=1000/\H dx=some (.own a):=by obtain⟨d,z,ne,ob,mA,n,r,q⟩:=show ObjOk P w H h a (.ins C dx fs)from hok a _ e;exact⟨mA,⟨ob,n,ne⟩,r,q,z,d⟩
end
structure Cls(K:W.Frag)(C:Addr):Prop where
 pg:W.plainGet K C Str.empty=true
 hd:W.hasDictIn K C=true
 po:W.plainOver K C=true
 sa:W.findIn K (.ref C) "__setattr__"=some (some (.builtin "object.__setattr__"))
theorem Cls.get{K:W.Frag}{C:Addr}(c:Cls K C)(f:Str):W.plainGet K C f=true:=c.pg
section
variable{X:Cx}{aa:List (Addr×Obj)}{σ:St}{H:Hp}{s:Shared}{A:Around}{E:Value->Shared->Prop}{Q:Value->Shared->Prop}{c:Value}{b:Bool}
inductive TyOf(K:W.Frag)(H:Hp):V->Value->Prop where|non:TyOf K H .non (.type "NoneType")|bl(x:Bool):TyOf K H (.bl x) (.type "bool")|int(i:Int):TyOf K H (.int i) (.type "int")|str(x:Str):TyOf K H (.str x) (.type "str")|flt(x:UInt64):TyOf K H (.flt x) (.type "float")|lst{a:Addr}{xs:List V}(e:H a=some (.lst xs)):TyOf K H (.ref a) (.type "list")|frz{a:Addr}{o:Obj}{xs:List V}(e:H a=some (.frz o (.lst xs))):TyOf K H (.ref a) (.type "list")|tup{a:Addr}{xs:List V}(e:H a=some (.tup xs)):TyOf K H (.ref a) (.type "tuple")|dK{a:Addr}{ah:List (Key×V)}(e:H a=some (.dK ah)):TyOf K H (.ref a) (.type "dict")|dT{a:Addr}{ah:List (List Key×V)}(e:H a=some (.dT ah)):TyOf K H (.ref a) (.type "dict")|frzD{a:Addr}{o:Obj}{ah:List (Key×V)}(e:H a=some (.frz o (.dK ah))):TyOf K H (.ref a) (.type "dict")|ins{a C dx:Addr}{fs:List (Str×V)}(e:H a=some (.ins C dx fs))(cl:Cls K C)(ha:W.findIn K (.ref C) "__class__"=some (some (.builtin "object.__class__")))(hn:W.specialIn K (.builtin "object.__class__") "__get__"=some (some (.builtin "getset_descriptor.__get__")))(jw:W.takesIn K (.builtin "object.__class__")=some true)(hm:W.mroIn K C (.type "object")=some true):TyOf K H (.ref a) (.ref C)
theorem Qra{x:V}{u t:Value}(I:Inv X aa σ H s)(rx:RelV x u)(ty:TyOf X.K H x t)(e:W.kitOne X.K t c=some b)(h:∀tk,Q (.bool b) {s with toks:=tk}):wpAny (model X.prog X.w) A (call (.builtin "isinstance") [u,c]) Q E s:=by cases ty with|non=>cases(show u=Value.none from rx);exact W.kia_one W.kitx_none I.kIn True.intro e (λz=>nomatch z) h|bl y=>cases(show u=Value.bool y from rx);exact W.kia_one W.kitx_bool I.kIn True.intro e (λz=>nomatch z) h|int i=>obtain⟨t,q⟩:=(show∃t,u=Value.int i t from rx);cases q;exact W.kia_one W.kitx_int I.kIn True.intro e (λz=>nomatch z) h|str y=>obtain⟨t,q⟩:=(show∃t,u=Value.str y t from rx);cases q;exact W.kia_one W.kitx_str I.kIn True.intro e (λz=>nomatch z) h|flt y=>obtain⟨t,q⟩:=(show∃t,u=Value.float y t from rx);cases q;exact W.kia_one W.kitx_float I.kIn True.intro e (λz=>nomatch z) h|@lst a xs ea=>cases(show u=Value.ref a from rx);obtain⟨_,_,n,_,h1⟩:=(show ObjOk X.prog X.w H s.heap a (.lst xs)from I.hok a _ ea);exact W.kia_one W.kitx_list I.kIn ⟨_,h1,rfl⟩ e (λz=>nomatch z) h|@frz a ob xs ea=>cases(show u=Value.ref a from rx);obtain⟨_,_,_,n,_,h1⟩:=(show ObjOk X.prog X.w H s.heap a (.frz ob (.lst xs))from I.hok a _ ea);exact W.kia_one W.kitx_list I.kIn ⟨_,h1,rfl⟩ e (λz=>nomatch z) h|@tup a xs ea=>cases(show u=Value.ref a from rx);obtain⟨_,_,_,p⟩:=(show ObjOk X.prog X.w H s.heap a (.tup xs)from I.hok a _ ea);obtain⟨o,h1,h2,_⟩:=p;exact W.kia_one W.kitx_tuple I.kIn ⟨o,h1,h2⟩ e (λz=>nomatch z) h|@dK a ah ea=>cases(show u=Value.ref a from rx);obtain⟨_,_,vs,_,p⟩:=(show ObjOk X.prog X.w H s.heap a (.dK ah)from I.hok a _ ea);obtain⟨o,es,ep,h1,h2,_⟩:=p;exact W.kia_one W.kitx_dict I.kIn ⟨o,h1,h2.1⟩ e (λz=>nomatch z) h|@dT a ah ea=>cases(show u=Value.ref a from rx);obtain⟨_,_,xs,_,o,es,ep,h1,h2,_⟩:=(show ObjOk X.prog X.w H s.heap a (.dT ah)from I.hok a _ ea);exact W.kia_one W.kitx_dict I.kIn ⟨o,h1,h2.1⟩ e (λz=>nomatch z) h|@frzD a ob ah ea=>cases(show u=Value.ref a from rx);obtain⟨_,_,vs,_,p⟩:=(show ObjOk X.prog X.w H s.heap a (.frz ob (.dK ah))from I.hok a _ ea).2;obtain⟨o,es,ep,h1,h2,_⟩:=p;exact W.kia_one W.kitx_dict I.kIn ⟨o,h1,h2.1⟩ e (λz=>nomatch z) h|@ins a C dx fs ea cl ha hn jw hm=>cases(show u=Value.ref a from rx);obtain⟨mA,O,_⟩:=QuE I.hok ea;obtain⟨od,J,_⟩:=O.look;exact W.kia_one (W.kitx_own (cl.get _) cl.hd ha hn jw hm) I.kIn J e (λz=>nomatch z) h
end
structure Room(k:Nat)(A:Around):Prop where
 hd:A.handled=none
 dp:A.depth+3*k+5<recursionLimit
 un:A.units+16*k+200<cLine
theorem Room.mono{j k:Nat}{A:Around}(r:Room k A)(h:j<=k):Room j A:=⟨r.hd,by have:=r.dp;omega,by have:=r.un;omega⟩
theorem Room.deeper{k:Nat}{A:Around}(r:Room (k+1) A)(env:Env):Room k (A.deeper env):=⟨r.hd,by have:=r.dp;show A.depth+1+3*k+5<_;omega,by have:=r.un;show A.units+3+16*k+200<_;omega⟩
theorem Room.depth{k:Nat}{A:Around}(r:Room k A):A.depth<recursionLimit:=by have:=r.dp;omega
theorem Room.units{k:Nat}{A:Around}(r:Room k A):A.units+64<cLine:=by have:=r.un;omega
theorem Room.units0{k:Nat}{A:Around}(r:Room k A):A.units<cLine:=by have:=r.un;omega
def Qa6:TA:=λ_ H Q=>Q [] H
def YY(ta:TE)(tr:TA):TA:=λσ H Q=>ta σ H λx H1=>tr σ H1 λxs H2=>Q (x::xs) H2
section
variable{X:Cx}{e:Expr}{es:List Expr}{te:TE}{t:TA}{pos:Pos}
theorem ZI:PA X [] Qa6:=λ_ _ _ _ H Q I h=>Calls.spliced_nil ⟨[],H,I,.nil,h⟩
theorem Jw(ha:PE X e te)(hr:PA X es t)(hs:starEach (e::es) X.env=(false,eval e X.env)::starEach es X.env:=by rfl):PA X (e::es) (YY te t):=by intro pos aa s σ H Q I h;rw[hs];show wpAny _ _ (spliced ((false,eval e X.env)::backTo pos (starEach es X.env))) _ _ s;refine Calls.spliced_cons (thn (ha aa s σ H _ I h) λu s1⟨x,H1,I1,r1,q1⟩=>?_);exact thn (hr pos aa s1 σ H1 _ I1 q1) λus s2⟨xs,H2,I2,r2,q2⟩=>⟨x::xs,H2,I2,.cons r1 r2,q2⟩
def QrH(t:TA):TE:=λσ H Q=>t σ H λxs H1=>xs.length<=sizeLine/\∀p,H1 p=none->Q (.ref p) (upd H1 p (.tup xs))
def Qoq(t:TA):TE:=λσ H Q=>t σ H λxs H1=>xs.length<=sizeLine/\∀p,H1 p=none->Q (.ref p) (upd H1 p (.lst xs))
theorem QkQ{x1}(h:PA X es t):PE X (.Tuple es x1 pos) (QrH t):=by intro aa s σ H Q I hq;refine wpAny_Tuple_spliced (thn (h pos aa s σ H _ I hq) λus s1⟨xs,H1,I1,r,z,q⟩=>⟨by rw[<-r.length];exact z,?_⟩);have hf:H1 s1.heap.objs.size=none:=I1.hok.fresh (le_refl _);refine⟨.ref s1.heap.objs.size,upd H1 s1.heap.objs.size (.tup xs),I1.laid (t':=s1.toks) (λb u e=>Heap.get?_push_of_some _ e) (le_refl _) ?_,rfl,q _ hf⟩;exact⟨z,us,r,⟨_,Heap.get?_push_size _ rfl,rfl,_,rfl⟩⟩
theorem Qfb(h:PA X es t):PE X (.List es pos) (Qoq t):=by intro aa s σ H Q I hq;refine wpAny_List_spliced (thn (h pos aa s σ H _ I hq) λus s1⟨xs,H1,I1,r,z,q⟩=>⟨by rw[<-r.length];exact z,?_⟩);have hf:H1 s1.heap.objs.size=none:=I1.hok.fresh (le_refl _);refine⟨.ref s1.heap.objs.size,upd H1 s1.heap.objs.size (.lst xs),I1.laid (t':=s1.toks) (λb u e=>Heap.get?_push_of_some _ e) (le_refl _) ?_,rfl,q _ hf⟩;exact⟨z,us,0,r,Heap.get?_push_size _ rfl⟩
end
abbrev Sp:=List V->Hp->VK->XK->Prop
noncomputable abbrev CXT:=List Env->Hp->Shared->XK->Value->Shared->Prop
structure Env0(P:Program)(w:World)(K:W.Frag)(mg:Str->Option Value)(ab:Heap)(A:Around)(ag:List Env)(s:Shared)(H:Hp):Prop where
 frames:A.frames=some ag
 mod:Mod K mg ab
 bs:∀b o,ab.get? b=some o->s.heap.get? b=some o/\H b=none
 bsz:ab.objs.size<=s.heap.objs.size
 funs:s.heap.FunFrames ab ag
 frf:∀b∈frs ag,H b=none
 hok:HOk P w H s.heap
 bare:AllBare s.gens
def CE(ag:List Env)(P:Program)(w:World)(H:Hp)(s:Shared)(Q:VK)(u:Value)(s':Shared):Prop:=∃v H',s'.os=s.os/\AllBare s'.gens/\Un (frs ag) [] H H' s.heap s'.heap/\HOk P w H' s'.heap/\RelV v u/\Q v H'
def CR(CX:CXT)(ag:List Env)(P:Program)(w:World)(H:Hp)(s:Shared)(Q:VK)(E:XK)(r:Result)(s':Shared):Prop:=match r with|.ok (.ret u)=>CE ag P w H s Q u s'|.ok _=>False|.error e=>CX ag H s E e s'
structure FnOk(P:Program)(w:World)(K:W.Frag)(mg:Str->Option Value)(ab:Heap)(CX:CXT)(k:Nat)(f:Addr)(fd:FuncData)(ps:List Str)(sp:Sp):Prop where
 len:∀vs H Q E,sp vs H Q E->vs.length=ps.length
 run:∀(A:Around)(ag:List Env)(s:Shared)(H:Hp)(args:Args)(us:List Value)(vs:List V)(Q:VK)(E:XK),Room k A->Env0 P w K mg ab A ag s H->BindsTo s fd args (ps.zip us)->Vals vs us->sp vs H Q E->codeAny (model P w) A (.call (.ref f) args) (CR CX ag P w H s Q E) s
section
variable{X:Cx}{aa:List (Addr×Obj)}{σ:St}{H:Hp}{s s':Shared}
theorem Inv.env0(I:Inv X aa σ H s):Env0 X.prog X.w X.K X.mg X.ab X.A X.stack s H:=⟨I.ok.frames,I.ok.mod,I.bs,le_trans I.ok.bsz I.sz,I.stack,I.stkFree,I.hok,I.bare⟩
theorem Inv.after{Q:VK}{u:Value}(I:Inv X aa σ H s)(h:CE X.stack X.prog X.w H s Q u s'):EP X aa σ Q u s':=by obtain⟨v,H',os,bare,un,hok,r,q⟩:=h;obtain⟨hh,g,d,t,kf⟩:=s';obtain rfl:kf=s.os:=os;exact⟨v,H',I.call (h':=hh) (g':=g) (d':=d) (t':=t) (ch:=[]) un hok bare λb z=>absurd z (by simp),r,q⟩
end
def Qkq(sp:Sp)(dM:List V)(E:XK)(t:TA):TE:=λσ H Q=>t σ H λvs H1=>sp (vs++dM) H1 Q E
def Binds(K:W.Frag)(fd:FuncData)(ps:List Str)(ds:List Value):Prop:=∀(s:Shared)(us:List Value),K.In s.heap->(us++ds).length=ps.length->BindsTo s fd ⟨us,[]⟩ (ps.zip (us++ds))
theorem Binds.all{K:W.Frag}{fd:FuncData}{ps:List Str}(h:∀us:List Value,us.length=ps.length->bindArgs fd ⟨us,[]⟩=pure (ps.zip us)):Binds K fd ps []:=λs us _ hl=>by rw[append_nil]at hl⊢;exact .of_eq (h us hl)
def Qk5(CX:CXT)(X:Cx)(E:XK):Prop:=∀(aa:List (Addr×Obj))(σ:St)(H:Hp)(s:Shared)(e:Value)(s':Shared),Inv X aa σ H s->CX X.stack H s E e s'->X.xe e s'
section
variable{X:Cx}{CX:CXT}{k:Nat}{f C:Addr}{fd:FuncData}{ps:List Str}{sp:Sp}{dM:List V}{ds:List Value}{E:XK}{x m:Str}{p pos apos:Pos}{e o:Expr}{es:List Expr}{ta:TE}{t:TA}
theorem QvB{aa:List (Addr×Obj)}{σ:St}{H:Hp}{s:Shared}{Q:VK}{us:List Value}{vs:List V}(F:FnOk X.prog X.w X.K X.mg X.ab CX k f fd ps sp)(hr:Room k X.A)(hb:Binds X.K fd ps ds)(hd:Vals dM ds)(hx:Qk5 CX X E)(I:Inv X aa σ H s)(r:Vals vs us)(h:sp (vs++dM) H Q E):wpAny (model X.prog X.w) X.A (call (.ref f) us) (EP X aa σ Q) X.xe s:=by
 have r2:Vals (vs++dM) (us++ds):=r.append hd;have hl:(us++ds).length=ps.length:=by rw[<-r2.length];exact F.len _ _ _ _ h
 refine wpAny_call (codeAny_mono (F.run X.A X.stack s H ⟨us,[]⟩ (us++ds) (vs++dM) Q E hr I.env0 (hb s us I.kIn hl) r2 h) λr s' hq=>?_);cases r with|error e=>exact hx aa σ H s e s' I hq|ok fl=>cases fl with|ret u=>exact I.after hq|next=>exact False.elim hq|brk=>exact False.elim hq|cont=>exact False.elim hq
theorem QiG(F:FnOk X.prog X.w X.K X.mg X.ab CX k f fd ps sp)(hr:Room k X.A)(hg:Gl X x)(hm:X.mg x=some (.ref f))(hk:W.keepIn X.K (.ref f)=true)(hb:Binds X.K fd ps ds)(hd:Vals dM ds)(hx:Qk5 CX X E)(ha:PA X (e::es) t)(bJ:(x==("__debug__":Str))=false:=by decide)(he:starEach (e::es) X.env=(false,eval e X.env)::starEach es X.env:=by rfl)(cn:(backTo pos (starEach es X.env)).any (·.1)=false:=by rfl):PE X (.Call (.Name x p) (e::es) [] pos) (Qkq sp dM E t):=by intro aa s σ H Q I h;refine wpAny_Call_Name_kw (QnN I hg hm ?_ bJ);refine W.callWith_K (h₀:=X.ab) I.ok.mod.kin hk (thn (ha pos aa s σ H _ I h) λus s1⟨vs,H1,I1,r,q⟩=>⟨I1.kIn,?_⟩) he cn;exact QvB F hr hb hd hx I1 r q
end
structure FnScope(N P:List Str)(sc:Scope):Prop where
 kind:sc.kind=.function
 co:sc.isCoroutine=false
 gen:sc.isGenerator=false
 nd:N.Nodup
 pre:N.take P.length=P
 par:∀x∈P,sc.names.lookup x=some .local\/sc.names.lookup x=some .cell
 nofree:∀y∈sc.names,y.2≠.free
theorem QjS{kindOf:Str->Option NameKind}{x:Str}:∀{binds:List (Str×Value)}{m:Str->Option Value},(∀v,(x,v)∉binds)->bindL kindOf binds m x=m x
 |[],_,_=>rfl|(n,v)::r,m,h=>by
  unfold bindL;rw[QjS λw hw=>h w (mem_cons_of_mem _ hw)];split
  ·have:x≠n:=by rintro rfl;exact h v mem_cons_self
   simp[this]
  ·rfl
theorem QjU{kindOf:Str->Option NameKind}{x:Str}:∀{binds:List (Str×Value)}{m:Str->Option Value},(∀v,(x,v)∉binds)->bindC kindOf binds m x=m x
 |[],_,_=>rfl|(n,v)::r,m,h=>by
  unfold bindC;rw[QjU λw hw=>h w (mem_cons_of_mem _ hw)];split;·rfl
  ·have:x≠n:=by rintro rfl;exact h v mem_cons_self
   simp[this]
theorem QjT{kindOf:Str->Option NameKind}{x:Str}{v:Value}:∀{P:List Str}{vs:List Value}{i:Nat}{m:Str->Option Value},P.Nodup->P[i]?=some x->vs[i]?=some v->kindOf x=some .local->bindL kindOf (P.zip vs) m x=some v|[],_,_,_,_,h,_,_=>by simp at h|_::_,[],_,_,_,_,h,_=>by simp at h|p::P,w::vs,0,m,nd,h1,h2,hk=>by simp at h1 h2;subst h1;subst h2;show bindL kindOf ((p,w)::P.zip vs) m p=_;unfold bindL;rw[QjS λv hv=>(List.nodup_cons.mp nd).1 (of_mem_zip hv).1,if_pos hk];simp|p::P,w::vs,i+1,m,nd,h1,h2,hk=>by show bindL kindOf ((p,w)::P.zip vs) m x=_;unfold bindL;exact QjT (i:=i) (List.nodup_cons.mp nd).2 (by simpa using h1) (by simpa using h2) hk
theorem QjV{kindOf:Str->Option NameKind}{x:Str}{v:Value}:∀{P:List Str}{vs:List Value}{i:Nat}{m:Str->Option Value},P.Nodup->P[i]?=some x->vs[i]?=some v->kindOf x≠some .local->bindC kindOf (P.zip vs) m x=some v|[],_,_,_,_,h,_,_=>by simp at h|_::_,[],_,_,_,_,h,_=>by simp at h|p::P,w::vs,0,m,nd,h1,h2,hk=>by simp at h1 h2;subst h1;subst h2;show bindC kindOf ((p,w)::P.zip vs) m p=_;unfold bindC;rw[QjU λv hv=>(List.nodup_cons.mp nd).1 (of_mem_zip hv).1,if_neg hk];simp|p::P,w::vs,i+1,m,nd,h1,h2,hk=>by show bindC kindOf ((p,w)::P.zip vs) m x=_;unfold bindC;exact QjV (i:=i) (List.nodup_cons.mp nd).2 (by simpa using h1) (by simpa using h2) hk
noncomputable def start(N:List Str)(vs:List V):St:=vs.map some++List.replicate (N.length-vs.length) none
def Vu(CX:CXT)(P:Program)(w:World)(K:W.Frag)(mg:Str->Option Value)(ab:Heap)(N:List Str)(qual:Str)(scope:Scope)(f:Addr)(cd:Value)(A:Around)(ag:List Env)(s:Shared)(H:Hp)(E:XK):Cx where
 prog:=P
 w:=w
 K:=K
 mg:=mg
 ab:=ab
 A:=A.deeper (envOfC qual scope s.heap.objs.size f cd)
 N:=N
 s₀:=s
 H₀:=H
 env:=envOfC qual scope s.heap.objs.size f cd
 ag:=ag
 stack:=envOfC qual scope s.heap.objs.size f cd::ag
 ex:=[]
 calm:=true
 fn:=λ_=>true
 pn:=[]
 xe:=λe s'=>wpAny (model P w) (A.deeper (envOfC qual scope s.heap.objs.size f cd)) (leaving (envOfC qual scope s.heap.objs.size f cd) e) (λ_ gi=>CX ag H s E e gi) (λe' gi=>CX ag H s E e' gi) s'
theorem QlM{sc:Scope}{n:Nat}{x:Str}(h:sc.names.lookup x=some .cell):∃c,(cellsFrom n sc.names []).lookup x=some c:=by have q:=W.cellsFrom_some sc.names n [] (.inl h);exact Option.isSome_iff_exists.mp q
theorem Qrb{CX:CXT}{P:Program}{w:World}{K:W.Frag}{mg:Str->Option Value}{ab:Heap}{N ps:List Str}{qual:Str}{scope:Scope}{f:Addr}{cd:Value}{A:Around}{ag:List Env}{s s1:Shared}{H:Hp}{E:XK}{us:List Value}{vs:List V}(S:FnScope N ps scope)(hd:A.handled=none)(e0:Env0 P w K mg ab A ag s H)(hl:vs.length=ps.length)(r:Vals vs us)(x:InCallC s s.heap.objs.size (bindL (envOfC qual scope s.heap.objs.size f cd).kindOf (ps.zip us) λ_=>none) (cellsFrom (s.heap.objs.size+1) scope.names []) (bindC (envOfC qual scope s.heap.objs.size f cd).kindOf (ps.zip us) λ_=>none) s1):Inv (Vu CX P w K mg ab N qual scope f cd A ag s H E) [] (start N vs) H s1:=by
 have cn:ps.length<=N.length:=by have:=congrArg List.length S.pre;rw[length_take]at this;omega
 obtain⟨h1,tk,rfl,hk⟩:=x.done;have fz:∀b:Addr,b∉(Vu CX P w K mg ab N qual scope f cd A ag s H E).ex:=λb z=>absurd (show b∈([]:List Addr)from z) (by simp);refine⟨⟨e0.mod,S.kind,rfl,rfl,le_refl _,λy z c h1 h2=>?_,λy hy=>?_,λy c _ h=>?_,λ_=>hd,Around.frames_deeper e0.frames,.inr ⟨rfl,rfl⟩,λb z=>absurd z (fz b),e0.bs,e0.bsz,λb _ _=>fz b,λb z=>absurd z (fz b),e0.funs,e0.frf⟩,rfl,e0.bare,Un.kept hk,⟨_,x.toInCall.ns,λi y v h1 h2 h3=>?_⟩,λy c h=>⟨_,x.cell y c h⟩,e0.hok.fresh (le_refl _),λy c h=>?_,λp hp=>absurd (show p∈([]:List (Addr×Obj))from hp) (by simp),e0.hok.kept hk,?_⟩;·exact name_of_addr x.apart (PySem.mem_of_lookup h1) (PySem.mem_of_lookup h2)
 ·have hy:scope.names.lookup y=some .cell\/scope.names.lookup y=some .free:=hy;rcases hy with hy|hy;·exact QlM hy
  ·exact absurd rfl (S.nofree _ (PySem.mem_of_lookup hy))
 ·exact le_of_lt (x.above y c (PySem.mem_of_lookup h))
 ·have hi:i<vs.length:=by
   unfold start at h2;by_cases hi:i<vs.length;·exact hi
   ·rw[getElem?_append_right (by simpa using hi)]at h2;rw[getElem?_replicate]at h2;split at h2<;>cases h2
  have ha:vs[i]?=some v:=by
   unfold start at h2;rw[getElem?_append_left (by simpa using hi),getElem?_map]at h2;cases e:vs[i]? with
   |none=>rw[e]at h2;cases h2|some a=>rw[e]at h2;cases h2;rfl
  obtain⟨u,hu,rv⟩:=r.get ha;have hp:ps[i]?=some y:=by rw[<-S.pre,List.getElem?_take_of_lt (by omega)];exact h1
  have jq:ps.Nodup:=by rw[<-S.pre];exact S.nd.sublist (take_sublist _ _)
  refine⟨u,rv,?_⟩;rcases S.par y (mem_of_getElem? hp)with k|k;·exact .inl ⟨k,QjT jq hp hu k⟩
  ·obtain⟨c,e⟩:=QlM (n:=s.heap.objs.size+1) k;refine .inr ⟨.inl k,c,e,?_⟩;have q:=x.cell y c e;rw[QjV jq hp hu (by show scope.names.lookup y≠_;rw[k];decide)]at q;exact q
 ·exact e0.hok.fresh (le_of_lt (x.above y c (PySem.mem_of_lookup h)))
 ·unfold start;show _=N.length;rw[length_append,length_map,length_replicate];omega
theorem Qxb{CX:CXT}{P:Program}{w:World}{K:W.Frag}{mg:Str->Option Value}{ab:Heap}{k:Nat}{f:Addr}{name qual:Str}{params:Arguments}{body:List Stmt}{scope:Scope}{dV kV doc pm ax ct oc:Value}{an od:Option Addr}{cP:Array (Option Value)}{N ps:List Str}{sp:Sp}(lk:K.lookup f=some ⟨oc,od,.func (W.fnOf name qual params body scope dV kV doc pm an ax ct),cP⟩)(bQ:W.codeIn K ax qual=true)(S:FnScope N ps scope)(len:∀vs H Q E,sp vs H Q E->vs.length=ps.length)(cX:∀(A:Around)(ag:List Env)(s:Shared)(H:Hp)(vs:List V)(Q:VK)(E:XK),Room k (A.deeper (envOfC qual scope s.heap.objs.size f ax))->sp vs H Q E->∃t,PSs (Vu CX P w K mg ab N qual scope f ax A ag s H E) body t/\t {nx:=λ_ H'=>Q .non H',rt:=Q} (start N vs) H):FnOk P w K mg ab CX (k+1) f (W.fnOf name qual params body scope dV kV doc pm an ax ct) ps sp:=by
 refine⟨len,λA ag s H args us vs Q E hr e0 hb r dD=>?_⟩;have hl:=len _ _ _ _ dD;have KX:K.In s.heap:=e0.mod.kin.keeps λb o e=>(e0.bs b o e).1;have lim:s.heap.NoLimit:=e0.mod.nolimit.keeps λb o e=>(e0.bs b o e).1;have gd:∀y∈ps.zip us,scope.names.lookup y.1=some .local\/(scope.names.lookup y.1=some .cell/\((cellsFrom (s.heap.objs.size+1) scope.names []).lookup y.1).isSome=true):=λ⟨n,v⟩hy=>by
  rcases S.par n (of_mem_zip hy).1 with q|q;·exact .inl q
  ·exact .inr ⟨q,W.cellsFrom_some _ _ _ (.inl q)⟩
 refine codeAny_call_function hr.depth (KX _ _ lk) rfl S.co S.gen rfl (W.codeRec_of KX bQ) (hb _ _ _ _ ?_);refine wpAny_newFunctionEnv_cells S.kind gd λenv he s1 x=>?_;subst he;refine⟨lim.keeps x.toInCall.keep,codeAny_func ?_⟩;obtain⟨t,ht,hq⟩:=cX A ag s H vs Q E (hr.deeper _) dD;have I:Inv (Vu CX P w K mg ab N qual scope f ax A ag s H E) [] (start N vs) H s1:=Qrb S hr.hd e0 hl r x;refine wpAny_mono (ht [] s1 (start N vs) H _ I hq) (λfl s' hs=>?_) λe s' hs=>hs;have fin:∀{σ':St}{H':Hp}{v:V}{u:Value},Inv (Vu CX P w K mg ab N qual scope f ax A ag s H E) [] σ' H' s'->RelV v u->Q v H'->CE ag P w H s Q u s':=λ{σ' H' v u}J rv q=>⟨v,H',J.os,J.bare,J.ab,J.hok,rv,q⟩;cases fl with|ret u=>obtain⟨v,σ',H',J,rv,q⟩:=hs;exact fin J rv q|next=>obtain⟨σ',H',J,q⟩:=hs;exact fin (v:=V.non) (u:=Value.none) J rfl q|brk=>obtain⟨_,_,_,q⟩:=hs;exact False.elim q|cont=>obtain⟨_,_,_,q⟩:=hs;exact False.elim q
section
variable{X:Cx}{x:Str}{p pos:Pos}{e:Expr}{es:List Expr}{t:TA}{id T:String}{r:List V->Hp->VK->Prop}
def tCB(r:List V->Hp->VK->Prop)(t:TA):TE:=λσ H Q=>t σ H λvs H1=>r vs H1 Q
theorem Qcv(hc:CallR X (.builtin id) r)(hg:Gl X x)(hm:X.mg x=none)(hv:bootBuiltins x=some (.builtin id))(ha:PA X (e::es) t)(hn:x≠"__name__":=by decide)(bJ:(x==("__debug__":Str))=false:=by decide)(he:starEach (e::es) X.env=(false,eval e X.env)::starEach es X.env:=by rfl)(cn:(backTo pos (starEach es X.env)).any (·.1)=false:=by rfl):PE X (.Call (.Name x p) (e::es) [] pos) (tCB r t):=by intro aa s σ H Q I h;refine wpAny_Call_Name_kw (QdE I hg hm hv ?_ hn bJ);exact PyProof.Rows.callWith_builtin1 (thn (ha pos aa s σ H _ I h) λus s1⟨vs,H1,I1,r1,q1⟩=>hc aa s1 σ H1 vs us Q I1 r1 q1) he cn
theorem Qjt(hc:CallR X (.type T) r)(hg:Gl X x)(hm:X.mg x=none)(hv:bootBuiltins x=some (.type T))(ha:PA X (e::es) t)(hn:x≠"__name__":=by decide)(bJ:(x==("__debug__":Str))=false:=by decide)(he:starEach (e::es) X.env=(false,eval e X.env)::starEach es X.env:=by rfl)(cn:(backTo pos (starEach es X.env)).any (·.1)=false:=by rfl):PE X (.Call (.Name x p) (e::es) [] pos) (tCB r t):=by intro aa s σ H Q I h;refine wpAny_Call_Name_kw (QdE I hg hm hv ?_ hn bJ);exact PyProof.Rows.callWith_type1 (thn (ha pos aa s σ H _ I h) λus s1⟨vs,H1,I1,r1,q1⟩=>hc aa s1 σ H1 vs us Q I1 r1 q1) he cn
end
end L2
namespace HT
open PySem PyProof.Rows
theorem eqAt_int(A:Around)(s:Shared)(a:Int)(t:Tok)(c:Int)(u:Tok):∃e,SeqAt.EqAt A s (.int a t) (.int c u) e/\(e=true↔a=c):=⟨a==c,SeqAt.EqAt.int_int a t c u,by simp⟩
section
variable{prog:Program}{w:World}{A:Around}{E:Value->Shared->Prop}{s:Shared}
theorem cat_tup{t b:Addr}{vs ws:List Value}{Q:Value->Shared->Prop}(ht:IsTup s.heap t vs.toArray)(hb:IsTup s.heap b ws.toArray)(hv:vs≠[])(h1:ws=[]->Q (.ref t) s)(h2:ws≠[]->Q (.ref s.heap.objs.size) {s with heap:=s.heap.push {cls:=.type "tuple",data:=.seq (vs++ws).toArray}})(hsz:vs.length+ws.length<=sizeLine):wpAny (model prog w) A (binaryOp .Add (.ref t) (.ref b)) Q E s:=by
 obtain⟨⟨cls,dd,data,sl⟩,ho,hc,n,hd⟩:=id ht;obtain⟨⟨jd,fm,data2,eL⟩,de,fK,n2,hd2⟩:=id hb;simp only at hc hd fK hd2;subst hc hd fK hd2;have e:vs.toArray++ws.toArray=(vs++ws).toArray:=by simp
 by_cases hw:ws=[]
 ·exact concat_meets ⟨_,ho,rfl⟩ ⟨_,de,rfl⟩ noFill_tuple_add seq_tuple_add PySem.F.slot_tuple_add PySem.F.entry_tuple_add (PySem.F.args_tuple_add_2 _ _) (tuple_addW1 t b vs.toArray ws.toArray n n2 dd fm sl eL (by simpa using hv) (by simp[hw])) ⟨ho,de,h1 hw⟩
 ·refine concat_meets ⟨_,ho,rfl⟩ ⟨_,de,rfl⟩ noFill_tuple_add seq_tuple_add PySem.F.slot_tuple_add PySem.F.entry_tuple_add (PySem.F.args_tuple_add_2 _ _) (tuple_addW2 t b vs.toArray ws.toArray n n2 dd fm sl eL (by simpa using hv) (by simpa using hw) (by rw[size_toArray,size_toArray];exact hsz)) ⟨ho,de,?_⟩;rw[e];exact h2 hw
noncomputable def sIx(n d:Nat):Option Int->Nat|none=>d|some v=>if v<0 then(v+(n:Int)).toNat else min v.toNat n
theorem QvA(n d:Nat)(hd:d<=n)(o:Option Int):sIx n d o<=n:=by cases o with|none=>exact hd|some v=>
  show(if v<0 then(v+(n:Int)).toNat else min v.toNat n)<=n;by_cases hv:v<0;·rw[if_pos hv];omega
  ·rw[if_neg hv];exact Nat.min_le_right _ _
theorem Qn9(v:Int)(n d:Nat):(if v<0 then max (v+(n:Int)) 0 else min v (n:Int))=((sIx n d (some v):Nat):Int):=by
 show(if v<0 then max (v+(n:Int)) 0 else min v (n:Int))=((if v<0 then(v+(n:Int)).toNat else min v.toNat n:Nat):Int);by_cases hv:v<0;·simp only[if_pos hv];omega
 ·simp only[if_neg hv];omega
theorem QpK(lo hi:Option Int)(n:Nat):Builtin.Slice.sliceAdjust lo hi 1 (n:Int)=(((sIx n 0 lo:Nat):Int),((sIx n n hi:Nat):Int)):=by
 have h1:¬((1:Int)<0):=by omega
 unfold Builtin.Slice.sliceAdjust;simp only[h1,if_false];refine Prod.ext ?_ ?_;·cases lo with|none=>rfl|some v=>exact Qn9 v n 0
 ·cases hi with
  |none=>rfl|some v=>exact Qn9 v n n
theorem Qo8(i j:Nat):Builtin.Slice.slicePlaces (i:Int) (j:Int) 1=j-i:=by
 unfold Builtin.Slice.slicePlaces;have h1:(1:Int)>0:=by omega
 simp only[h1,if_true,Int.ediv_one];split<;>omega
theorem QhL{v:Value}{o:Option Int}{Q:Option Int->Shared->Prop}(p:IsPart v o)(h:Q o s):wpAny (model prog w) A (Builtin.Slice.slicePartIndex v) Q E s:=by cases p with|none=>exact slicePart_none h|int i t=>exact slicePart_int h
theorem Qhe{sl:Addr}{vl vu:Value}{lo hi:Option Int}{n:Nat}{Q:Int×Int×Nat->Shared->Prop}(hs:s.heap.IsSliceOf sl vl vu .none)(pl:IsPart vl lo)(pu:IsPart vu hi)(h:Q (((sIx n 0 lo:Nat):Int),1,sIx n n hi-sIx n 0 lo) s):wpAny (model prog w) A (Builtin.Slice.sliceApplied (.ref sl) (pure (n:Int))) Q E s:=by obtain⟨os,fF,jI,gH⟩:=id hs;unfold Builtin.Slice.sliceApplied Builtin.Slice.sliceFields;refine wpAny_bind (wpAny_bind (wpAny_field fF gH (x:=vl) rfl (wpAny_bind (wpAny_field fF gH (x:=vu) rfl (wpAny_bind (wpAny_field fF gH (x:=.none) rfl (wpAny_pure ?_)))))));refine wpAny_bind (slicePart_none ?_);show wpAny _ _ (if((1:Int)==0)=true then _ else _) _ _ s;rw[if_neg (by decide)];refine wpAny_bind (QhL pl (wpAny_bind (QhL pu (wpAny_bind (wpAny_pure ?_)))));show wpAny _ _ (match Builtin.Slice.sliceAdjust lo hi 1 (n:Int)with|(lo,hi)=>pure (lo,(1:Int),Builtin.Slice.slicePlaces lo hi 1)) _ _ s;rw[QpK lo hi n];show wpAny _ _ (pure (((sIx n 0 lo:Nat):Int),(1:Int),Builtin.Slice.slicePlaces ((sIx n 0 lo:Nat):Int) ((sIx n n hi:Nat):Int) 1)) _ _ s;rw[Qo8];exact wpAny_pure h
theorem Qsh(xs:Array Value)(i k:Nat):((List.range k).filterMap λ(m:Nat)=>xs[((i:Int)+(m:Int)*1).toNat]?).toArray=((xs.toList.drop i).take k).toArray:=by
 have e:(λ(m:Nat)=>xs[((i:Int)+(m:Int)*1).toNat]?)=λm=>xs[i+m]?:=by
  funext m;have:((i:Int)+(m:Int)*1).toNat=i+m:=by omega
  rw[this]
 rw[e];have:=pick_run xs i k;rw[List.filterMap_map]at this;have e2:((λx=>xs[x]?)∘λx=>i+x)=λm=>xs[i+m]?:=rfl;rw[e2]at this;rw[this]
theorem getItem_tuple_cut{t sl:Addr}{items:Array Value}{vl vu:Value}{lo hi:Option Int}{Q:Value->Shared->Prop}(ht:IsTup s.heap t items)(hs:s.heap.IsSliceOf sl vl vu .none)(pl:IsPart vl lo)(pu:IsPart vu hi)(hw:¬(sIx items.size 0 lo=0/\sIx items.size items.size hi=items.size))(h:Q (.ref s.heap.objs.size) {s with heap:=s.heap.push {cls:=.type "tuple",data:=.seq ((items.toList.drop (sIx items.size 0 lo)).take (sIx items.size items.size hi-sIx items.size 0 lo)).toArray}})(hsz:items.size<=sizeLine):wpAny (model prog w) A (getItem (.ref t) (.ref sl)) Q E s:=by
 have cD:sizeOk (.seq ((items.toList.drop (sIx items.size 0 lo)).take (sIx items.size items.size hi-sIx items.size 0 lo)).toArray):=by
  show((items.toList.drop (sIx items.size 0 lo)).take (sIx items.size items.size hi-sIx items.size 0 lo)).toArray.size<=sizeLine;rw[size_toArray,length_take,length_drop,length_toList];omega
 have hj:sIx items.size items.size hi<=items.size:=QvA _ _ (le_refl _) hi;obtain⟨os,fF,jI,gH⟩:=id hs;have lH:s.TypeIs (.ref sl) "slice":=⟨os,fF,jI⟩;unfold getItem;try with_reducible refine wpAny_holding ?_
 first|refine wpAny_bind (wpAny_pure ?_)|skip
 refine wpAny_bind (wpAny_sequenceKey ht.typeIs (by decide) ?_);refine wpAny_bind (wpAny_callSpecial?_slot (name:=Str.ofString "__getitem__") ht.typeIs PyProof.Rows.slot_tuple_getitem (wpAny_call_entry PyProof.Rows.slot_tuple_getitem ht.typeIs entry_tuple_getitem ?_ (args_tuple_getitem _ _)));show wpAny _ _ (Builtin.Tuple.tupleItemsOf (.ref t)>>=_) _ _ s;refine wpAny_bind (tupleItemsOf_ ht ?_);refine wpAny_bind (wpAny_typeOf lH ?_);rw[if_pos (by decide)];refine wpAny_bind (Qhe hs pl pu ?_);have ic:¬((((sIx items.size 0 lo:Nat):Int)==0&&(1:Int)==1&&(sIx items.size items.size hi-sIx items.size 0 lo)==items.size)=true):=by
  intro q;rw[and_eq_true,and_eq_true]at q;have q1:((sIx items.size 0 lo:Nat):Int)=0:=eq_of_beq q.1.1;have q2:sIx items.size items.size hi-sIx items.size 0 lo=items.size:=eq_of_beq q.2;exact hw ⟨by omega,by omega⟩
 show wpAny _ _ (if(((sIx items.size 0 lo:Nat):Int)==0&&(1:Int)==1&&(sIx items.size items.size hi-sIx items.size 0 lo)==items.size)=true then _ else _) _ _ s;rw[if_neg ic,Qsh];first|exact wpAny_bind (m:=Builtin.Tuple.tupleExact _) (wpAny_newObj_type (wpAny_pure ⟨_,rfl,wpAny_pure h⟩) cD)|exact wpAny_bind (m:=Builtin.Tuple.tupleExact _) (wpAny_newObj_type (wpAny_bind (wpAny_pure (wpAny_pure ⟨_,rfl,wpAny_pure h⟩))) cD)|exact wpAny_bind (wpAny_bind (m:=Builtin.Tuple.tupleExact _) (wpAny_newObj_type (wpAny_pure (wpAny_pure ⟨_,rfl,wpAny_pure h⟩)) cD))|exact wpAny_bind (wpAny_bind (m:=Builtin.Tuple.tupleExact _) (wpAny_newObj_type (wpAny_pure ⟨_,rfl,wpAny_pure h⟩) cD))
end
end HT
namespace L2
open PySem PySem.Spec PyProof.Rows
noncomputable abbrev TO:=St->Hp->(Option Int->Hp->Prop)->Prop
def PO(X:Cx)(e:Option Expr)(t:TO):Prop:=∀(aa:List (Addr×Obj))(s:Shared)(σ:St)(H:Hp)(Q:Option Int->Hp->Prop),Inv X aa σ H s->t σ H Q->wpAny (model X.prog X.w) X.A (evalPart e X.env) (λu s'=>∃o H',Inv X aa σ H' s'/\IsPart u o/\Q o H') X.xe s
def Qtx:TO:=λ_ H Q=>Q none H
def QwM(t:TE):TO:=λσ H Q=>t σ H λx H1=>∃i,x=.int i/\Q (some i) H1
theorem QhW{ns:List Int}:∀{us:List Value},Vals (ns.map V.int) us->IntsAre us ns:=by induction ns with|nil=>intro us r;rw[map_nil]at r;cases r;exact .nil|cons n ns ih=>intro us r;rw[map_cons]at r;cases r with|cons r1 r2=>obtain⟨t,e⟩:=r1;subst e;exact .cons n t (ih r2)
section
variable{X:Cx}{e:Expr}{te:TE}{lo hi:Option Expr}{tl th:TO}{pos p2:Pos}
theorem QtT:PO X none Qtx:=by intro aa s σ H Q I h;rw[evalPart_none];exact wpAny_pure ⟨none,H,I,.none,h⟩
theorem QtS(h:PE X e te):PO X (some e) (QwM te):=by intro aa s σ H Q I hw;rw[evalPart_some];refine thn (h aa s σ H _ I hw) λu s1⟨x,H1,I1,r1,q1⟩=>?_;obtain⟨i,rfl,q⟩:=q1;obtain⟨t,rfl⟩:=r1;exact⟨some i,H1,I1,.int i t,q⟩
def SlR(X:Cx)(r:V->Option Int->Option Int->Hp->VK->Prop):Prop:=∀(aa:List (Addr×Obj))(s:Shared)(σ:St)(H:Hp)(x:V)(v vl vu:Value)(lo hi:Option Int)(sl:Addr)(Q:VK),Inv X aa σ H s->RelV x v->s.heap.IsSliceOf sl vl vu .none->IsPart vl lo->IsPart vu hi->r x lo hi H Q->∃T id,typeLookup (.type T) "__getitem__"=pure (some (.builtin id))/\s.TypeIs v T/\wpAny (model X.prog X.w) X.A (getItem v (.ref sl)) (EP X aa σ Q) X.xe s
theorem SlR.or{r r':V->Option Int->Option Int->Hp->VK->Prop}(h:SlR X r)(h':SlR X r'):SlR X λx lo hi H Q=>r x lo hi H Q\/r' x lo hi H Q:=by
 intro aa s σ H x v vl vu lo hi sl Q I rx hs pl pu q;rcases q with q|q;·exact h aa s σ H x v vl vu lo hi sl Q I rx hs pl pu q
 ·exact h' aa s σ H x v vl vu lo hi sl Q I rx hs pl pu q
def tSl(r:V->Option Int->Option Int->Hp->VK->Prop)(te:TE)(tl th:TO):TE:=λσ H Q=>te σ H λx H1=>tl σ H1 λl H2=>th σ H2 λu H3=>r x l u H3 Q
theorem Qsj{r:V->Option Int->Option Int->Hp->VK->Prop}(hr:SlR X r)(he:PE X e te)(hl:PO X lo tl)(hu:PO X hi th):PE X (.Subscript e (.Slice lo hi none p2) pos) (tSl r te tl th):=by intro aa s σ H Q I h;refine Subscript_ (thn (he aa s σ H _ I h) λv s1⟨x,H1,I1,r1,q1⟩=>?_);refine wpAny_Slice (thn (hl aa s1 σ H1 _ I1 q1) λvl s2⟨l,H2,I2,pl,q2⟩=>thn (hu aa s2 σ H2 _ I2 q2) λvu s3⟨u,H3,I3,pu,q3⟩=>?_);rw[evalPart_none];refine wpAny_pure ?_;have I4:Inv X aa σ H3 {s3 with heap:=s3.heap.push {cls:=.type "slice",data:=.fields #[vl,vu,.none]}}:=I3.kept (t':=s3.toks) λb ob q=>Heap.get?_push_of_some _ q;obtain⟨T,id,hT,ht,hg⟩:=hr aa {s3 with heap:=s3.heap.push {cls:=.type "slice",data:=.fields #[vl,vu,.none]}} σ H3 x v vl vu l u s3.heap.objs.size Q I4 r1 (Heap.IsSliceOf.new ..) pl pu q3;show wpAny (model X.prog X.w) X.A (subscriptTail e (.Slice lo hi none p2) v (.ref s3.heap.objs.size)) (EP X aa σ Q) X.xe {s3 with heap:=s3.heap.push {cls:=.type "slice",data:=.fields #[vl,vu,.none]}};exact tail_any (ops:=[.ref s3.heap.objs.size,v]) ht hT hg (by with_unfolding_all rfl)
def QbP(xs:List V)(lo hi:Option Int):List V:=(xs.drop (HT.sIx xs.length 0 lo)).take (HT.sIx xs.length xs.length hi-HT.sIx xs.length 0 lo)
theorem Qgp(xs:List V)(lo hi:Option Int):(QbP xs lo hi).length<=xs.length:=by unfold QbP;rw[length_take,length_drop];omega
def QxD(K:W.Frag):V->Option Int->Option Int->Hp->VK->Prop:=λx lo hi H Q=>∃a xs,x=.ref a/\SqT K H a xs/\¬(HT.sIx xs.length 0 lo=0/\HT.sIx xs.length xs.length hi=xs.length)/\∀p,H p=none->Q (.ref p) (upd H p (.tup (QbP xs lo hi)))
theorem Qvy:SlR X (QxD X.K):=by
 intro aa s σ H x v vl vu lo hi sl Q I rx hs pl pu h;obtain⟨a,xs,rfl,hx,hw,q⟩:=h;cases rx;obtain⟨its,r,ht,hz⟩:=I.tuple hx;have hlen:its.toArray.size=xs.length:=by rw[size_toArray];exact r.length.symm
 refine⟨"tuple",_,PyProof.Rows.slot_tuple_getitem.lookup,ht.typeIs,?_⟩;refine HT.getItem_tuple_cut ht hs pl pu (by rw[hlen];exact hw) ?_ (by rw[hlen];exact hz);rw[hlen];refine⟨.ref s.heap.objs.size,_,I.laid (t':=s.toks) (o:=.tup (QbP xs lo hi)) (λb ob q=>Heap.get?_push_of_some _ q) (le_refl _) ?_,rfl,q _ (I.hok.fresh (le_refl _))⟩;exact⟨le_trans (Qgp xs lo hi) hz,_,(r.drop (HT.sIx xs.length 0 lo)).take (HT.sIx xs.length xs.length hi-HT.sIx xs.length 0 lo),IsTup.new _ _⟩
def QoF(K:W.Frag):R2:=λx y H Q=>∃a b xs ys,x=.ref a/\y=.ref b/\SqT K H a xs/\SqT K H b ys/\xs≠[]/\xs.length+ys.length<=sizeLine/\(ys=[]->Q (.ref a) H)/\(ys≠[]->∀p,H p=none->Q (.ref p) (upd H p (.tup (xs++ys))))
theorem Vals.nil_iff{xs:List V}{us:List Value}(r:Vals xs us):us=[]↔xs=[]:=by cases r with|nil=>simp|cons _ _=>simp
theorem Qt6:OpR X (binaryOp .Add) (QoF X.K):=by intro aa s σ H x y v u Q I rx ry h;obtain⟨a,b,xs,ys,rfl,rfl,ha,hb,hx,hz,q1,q2⟩:=h;cases rx;cases ry;obtain⟨its,r1,p1,_⟩:=I.tuple ha;obtain⟨bK,r2,p2,_⟩:=I.tuple hb;refine HT.cat_tup p1 p2 (λz=>hx (r1.nil_iff.mp z)) (λz=>⟨.ref a,H,I,rfl,q1 (r2.nil_iff.mp z)⟩) (λz=>?_) (by rw[<-r1.length,<-r2.length];exact hz);refine⟨.ref s.heap.objs.size,_,I.laid (t':=s.toks) (o:=.tup (xs++ys)) (λb ob q=>Heap.get?_push_of_some _ q) (le_refl _) ?_,rfl,q2 (λw=>z (r2.nil_iff.mpr w)) _ (I.hok.fresh (le_refl _))⟩;exact⟨by rw[length_append];exact hz,_,r1.append r2,IsTup.new _ _⟩
end
noncomputable def ixN(n:Nat)(i:Int):Option Nat:=if 0<=i then(if i<n then some i.toNat else none)else if-(n:Int)<=i then some (i+n).toNat else none
def atI{α:Type}(xs:List α)(i:Int):Option α:=(ixN xs.length i).bind λj=>xs[j]?
theorem Quz{n:Nat}{i:Int}{j:Nat}(h:ixN n i=some j):seqIndex? i n=some j/\j<n/\-(n:Int)<=i/\i<n:=by
 unfold ixN at h;by_cases h0:0<=i
 ·rw[if_pos h0]at h;by_cases h1:i<n;·rw[if_pos h1]at h;have e:i.toNat=j:=Option.some.inj h;exact⟨by rw[seqIndex_of h0 h1,e],by omega,by omega,h1⟩
  ·rw[if_neg h1]at h;cases h
 ·rw[if_neg h0]at h;by_cases h1:-(n:Int)<=i
  ·rw[if_pos h1]at h;have e:(i+n).toNat=j:=Option.some.inj h;exact⟨by rw[seqIndex_neg (by omega) h1,e],by omega,h1,by omega⟩
  ·rw[if_neg h1]at h;cases h
theorem Qi0{α:Type}{xs:List α}{i:Int}{v:α}(h:atI xs i=some v):∃j,seqIndex? i xs.length=some j/\xs[j]?=some v/\j<xs.length/\-(xs.length:Int)<=i/\i<xs.length:=by unfold atI at h;cases e:ixN xs.length i with|none=>rw[e]at h;cases h|some j=>rw[e]at h;obtain⟨h1,h2,h3,h4⟩:=Quz e;exact⟨j,h1,h,h2,h3,h4⟩
def Qi1(b:Expr):Prop:=∀o i,subscripted b false o i=operate [o,i] (getItem o i)
def IxR(X:Cx)(r:R2):Prop:=∀(value slice:Expr)(aa:List (Addr×Obj))(s:Shared)(σ:St)(H:Hp)(x y:V)(v u:Value)(Q:VK),Inv X aa σ H s->RelV x v->RelV y u->r x y H Q->subscripted slice false v u=operate [v,u] (getItem v u)->wpAny (model X.prog X.w) X.A (subscriptTail value slice v u) (EP X aa σ Q) X.xe s
def MtR(X:Cx)(id:String)(r:V->List V->Hp->VK->Prop):Prop:=∀(aa:List (Addr×Obj))(s:Shared)(σ:St)(H:Hp)(x:V)(xs:List V)(v:Value)(us:List Value)(Q:VK),Inv X aa σ H s->RelV x v->Vals xs us->r x xs H Q->wpAny (model X.prog X.w) X.A (call (.builtin id) (v::us)) (EP X aa σ Q) X.xe s
section
variable{X:Cx}{a b:Expr}{ta tb:TE}{pos:Pos}
theorem IxR.or{r r':R2}(h:IxR X r)(h':IxR X r'):IxR X λx y H Q=>r x y H Q\/r' x y H Q:=by
 intro value slice aa s σ H x y v u Q I rx ry q hs;rcases q with q|q;·exact h value slice aa s σ H x y v u Q I rx ry q hs
 ·exact h' value slice aa s σ H x y v u Q I rx ry q hs
theorem Qku{r:R2}(hr:IxR X r)(ha:PE X a ta)(hb:PE X b tb)(hs:Qi1 b):PE X (.Subscript a b pos) (tOp r ta tb):=by intro aa s σ H Q I h;exact Subscript_ (QrR ha hb I h λv u s2 x y H2 I2 rx ry q=>hr a b aa s2 σ H2 x y v u Q I2 rx ry q (hs _ _))
def Qvf(K:W.Frag):R2:=λx y H Q=>∃p xs i v,x=.ref p/\y=.int i/\SqL K H p xs/\atI xs i=some v/\Q v H
def Qvd(K:W.Frag):R2:=λx y H Q=>∃p xs i v,x=.ref p/\y=.int i/\SqT K H p xs/\atI xs i=some v/\Q v H
def Qve:R2:=λx y H Q=>∃z i c,x=.str z/\y=.int i/\z.length<=sizeLine/\atI z.cps.toList i=some c/\Q (.str ⟨#[c]⟩) H
theorem ix_list:IxR X (Qvf X.K):=by
 intro value slice aa s σ H x y v u Q I rx ry h hs;obtain⟨p,xs,i,z,rfl,rfl,hq,he,q⟩:=h;cases rx;obtain⟨t,rfl⟩:=ry;obtain⟨its,r,pl,hz⟩:=I.list hq;obtain⟨j,h1,h2,h3,h4,h5⟩:=Qi0 he;obtain⟨w,ew,cm⟩:=r.get h2;have hl:=r.length;have hn:=Qfh;have fin:EP X aa σ Q w s:=⟨z,H,I,cm,q⟩;by_cases h0:0<=i
 ·have hj:i.toNat=j:=by
   rw[seqIndex_of h0 h5]at h1;exact Option.some.inj h1
  exact item_listR pl.isList h0 (by omega) (by rw[hj];simpa using ew) fin hs
 ·have hj:(i+(its.toArray.size:Int)).toNat=j:=by
   rw[seqIndex_neg (by omega) h4]at h1;rw[size_toArray,<-hl];exact Option.some.inj h1
  exact subscriptTail_builtinR (x:=w) pl.isList.typeIs slot_list_getitem.lookup (wpAny_getItem_list_neg (Q:=λr s'=>r=w/\EP X aa σ Q r s') pl.isList (by omega) (by rw[size_toArray]<;>omega) (by omega) (by rw[hj];simpa using ew) ⟨rfl,fin⟩) hs
theorem ix_tup:IxR X (Qvd X.K):=by intro value slice aa s σ H x y v u Q I rx ry h hs;obtain⟨p,xs,i,z,rfl,rfl,hq,he,q⟩:=h;cases rx;obtain⟨t,rfl⟩:=ry;obtain⟨its,r,pl,hz⟩:=I.tuple hq;obtain⟨j,h1,h2,h3,h4,h5⟩:=Qi0 he;obtain⟨w,ew,cm⟩:=r.get h2;have hl:=r.length;have hn:=Qfh;have fin:EP X aa σ Q w s:=⟨z,H,I,cm,q⟩;exact subscriptTail_builtinR (x:=w) pl.typeIs slot_tuple_getitem.lookup (getItem_tuple (j:=j) (Q:=λr s'=>r=w/\EP X aa σ Q r s') pl (by omega) (by omega) (by rw[size_toArray,<-hl];exact h1) (by simpa using ew) ⟨rfl,fin⟩) hs
theorem Qwk:IxR X Qve:=by
 intro value slice aa s σ H x y v u Q I rx ry h hs;obtain⟨z,i,c,rfl,rfl,hz,he,q⟩:=h;obtain⟨t,rfl⟩:=rx;obtain⟨t',rfl⟩:=ry;obtain⟨j,h1,h2,h3,h4,h5⟩:=Qi0 he;have hl:z.cps.toList.length=z.length:=by simp[Str.length]
 rw[hl]at h1 h4 h5;have hn:=Qfh;exact tail_any (typeIs_str s z t) slot_str_getitem.lookup (getItem_str (c:=c) (by
  have e1:decide (i< -(2^63:Int))=false:=decide_eq_false (by omega);have e2:decide (i≥2^63)=false:=decide_eq_false (by omega);rw[e1,e2,Bool.or_false]) (by rw[h1];simpa using h2) ⟨.str ⟨#[c]⟩,H,I.tok _,⟨_,rfl⟩,q⟩) hs
def rIx(K:W.Frag):R2:=λx y H Q=>Qvf K x y H Q\/Qvd K x y H Q\/Qve x y H Q
theorem QhA:IxR X (rIx X.K):=ix_list.or (ix_tup.or Qwk)
theorem Ql3(lo hi:Option Int)(n:Nat):(sliceBounds lo hi none n).1=((HT.sIx n 0 lo:Nat):Int)/\(sliceBounds lo hi none n).2.1=((HT.sIx n n hi:Nat):Int)/\(sliceBounds lo hi none n).2.2=1:=by
 refine⟨?_,?_,rfl⟩;·cases lo with|none=>simp[sliceBounds,HT.sIx]|some i=>
   simp only[sliceBounds,HT.sIx,getD_none,show(1:Int)>0 by decide,if_true];by_cases h:i<0;·simp only[h,if_true]<;>omega
   ·simp only[h,if_false]<;>omega
 ·cases hi with
  |none=>simp[sliceBounds,HT.sIx]|some i=>
   simp only[sliceBounds,HT.sIx,getD_none,show(1:Int)>0 by decide,if_true];by_cases h:i<0;·simp only[h,if_true]<;>omega
   ·simp only[h,if_false]<;>omega
theorem Qj5(its:List Value)(lo hi:Option Int):slicePick its.toArray lo hi none=((its.drop (HT.sIx its.length 0 lo)).take (HT.sIx its.length its.length hi-HT.sIx its.length 0 lo)).toArray:=by obtain⟨h1,h2,h3⟩:=Ql3 lo hi its.toArray.size;unfold slicePick;rw[h1,h2,h3];simp only[sliceRange_one,pick_run,size_toArray]<;>rfl
def QxF(K:W.Frag):V->Option Int->Option Int->Hp->VK->Prop:=λx lo hi H Q=>∃a xs,x=.ref a/\SqL K H a xs/\∀p,H p=none->Q (.ref p) (upd H p (.lst (QbP xs lo hi)))
theorem QtB:SlR X (QxF X.K):=by intro aa s σ H x v vl vu lo hi sl Q I rx hs pl pu h;obtain⟨a,xs,rfl,hx,q⟩:=h;cases rx;obtain⟨its,r,ht,hz⟩:=I.list hx;have hlen:=r.length;refine⟨"list",_,slot_list_getitem.lookup,ht.isList.typeIs,?_⟩;refine wpAny_getItem_list_slice ht.isList hs pl pu .none (by simp) ?_ (by rw[size_toArray]<;>omega);rw[Qj5,<-hlen];refine⟨.ref s.heap.objs.size,_,I.laid (t':=s.toks) (o:=.lst (QbP xs lo hi)) (λb ob q=>Heap.get?_push_of_some _ q) (le_refl _) ?_,rfl,q _ (I.hok.fresh (le_refl _))⟩;exact⟨le_trans (Qgp xs lo hi) hz,_,0,(r.drop (HT.sIx xs.length 0 lo)).take (HT.sIx xs.length xs.length hi-HT.sIx xs.length 0 lo),Heap.get?_push_size _ rfl⟩
noncomputable def Qbw:V->Bool|.non=>true|.bl _=>true|.int _=>true|.str _=>true|_=>false
noncomputable def eqV:V->V->Bool|.non,.non=>true|.bl a,.bl b=>a==b|.bl a,.int b=>(if a then 1 else 0)==b|.int a,.bl b=>a==if b then 1 else 0|.int a,.int b=>a==b|.str a,.str b=>a==b|_,_=>false
theorem Qwt{A:Around}{s:Shared}{y x:V}{u v:Value}(ry:RelV y u)(rx:RelV x v)(fy:Qbw y=true)(fx:Qbw x=true):SeqAt.EqAt A s u v (eqV y x):=by cases y with
 |non=>
  cases ry;cases x with
  |non=>cases rx;exact SeqAt.EqAt.same _|bl b=>cases rx;exact SeqAt.EqAt.none_bool b|int b=>obtain⟨t,rfl⟩:=rx;exact SeqAt.EqAt.none_int b t|str b=>obtain⟨t,rfl⟩:=rx;exact SeqAt.EqAt.none_str b t|_=>exact absurd (show false=true from fx) Bool.false_ne_true
 |bl a=>
  cases ry;cases x with
  |non=>cases rx;exact SeqAt.EqAt.bool_none a|bl b=>cases rx;exact SeqAt.EqAt.bool_bool a b|int b=>obtain⟨t,rfl⟩:=rx;exact SeqAt.EqAt.bool_int a b t|str b=>obtain⟨t,rfl⟩:=rx;exact SeqAt.EqAt.bool_str a b t|_=>exact absurd (show false=true from fx) Bool.false_ne_true
 |int a=>
  obtain⟨t',rfl⟩:=ry;cases x with
  |non=>cases rx;exact SeqAt.EqAt.int_none a t'|bl b=>cases rx;exact SeqAt.EqAt.int_bool a t' b|int b=>obtain⟨t,rfl⟩:=rx;exact SeqAt.EqAt.int_int a t' b t|str b=>obtain⟨t,rfl⟩:=rx;exact SeqAt.EqAt.int_str a t' b t|_=>exact absurd (show false=true from fx) Bool.false_ne_true
 |str a=>
  obtain⟨t',rfl⟩:=ry;cases x with
  |non=>cases rx;exact SeqAt.EqAt.str_none a t'|bl b=>cases rx;exact SeqAt.EqAt.str_bool a t' b|int b=>obtain⟨t,rfl⟩:=rx;exact SeqAt.EqAt.str_int a t' b t|str b=>obtain⟨t,rfl⟩:=rx;exact SeqAt.EqAt.str_str a t' b t|_=>exact absurd (show false=true from fx) Bool.false_ne_true
 |_=>exact absurd (show false=true from fy) Bool.false_ne_true
def eqU(x:V)(u:Value):Bool:=match u with|.none=>eqV .non x|.bool b=>eqV (.bl b) x|.int i _=>eqV (.int i) x|.str z _=>eqV (.str z) x|_=>false
theorem Qqb{x y:V}{u:Value}(r:RelV y u)(f:Qbw y=true):eqU x u=eqV y x:=by cases y with|non=>cases r;rfl|bl b=>cases r;rfl|int i=>obtain⟨t,rfl⟩:=r;rfl|str z=>obtain⟨t,rfl⟩:=r;rfl|_=>exact absurd (show false=true from f) Bool.false_ne_true
theorem QdW{x:V}:∀{xs:List V}{us:List Value},Vals xs us->xs.all Qbw=true->us.any (eqU x)=xs.any λy=>eqV y x|_,_,.nil,_=>rfl|y::xs,u::us,.cons r t,f=>by rw[all_cons,and_eq_true]at f;rw[any_cons,any_cons,Qqb r f.1,QdW t f.2]
theorem QcB{A:Around}{s:Shared}{x:V}{v:Value}(rx:RelV x v)(fx:Qbw x=true):∀{xs:List V}{us:List Value},Vals xs us->xs.all Qbw=true->∀u∈us,SeqAt.EqAt A s u v (eqU x u)
 |_,_,.nil,_=>λu hu=>by cases hu|y::xs,u::us,.cons r t,f=>λu' hu=>by
  rw[all_cons,and_eq_true]at f;rcases List.mem_cons.mp hu with rfl|hu;·rw[Qqb r f.1];exact Qwt r rx f.1 fx
  ·exact QcB rx fx t f.2 u' hu
def inV(x:V)(xs:List V):Bool:=xs.any λy=>eqV y x
def rIn(K:W.Frag)(neg:Bool):R2:=λx y H Q=>∃p xs,y=.ref p/\(SqL K H p xs\/SqT K H p xs)/\Qbw x=true/\xs.all Qbw=true/\Q (.bl (if neg then !inV x xs else inV x xs)) H
theorem QqO:OpR X (compareOp .In) (rIn X.K false):=by
 intro aa s σ H x y v u Q I rx ry h;obtain⟨p,xs,rfl,hq,fx,fs,q⟩:=h;cases ry;rcases hq with hq|hq
 ·obtain⟨its,r,pl,hz⟩:=I.list hq;refine SeqAt.in_listAt (eqU x) pl.isList (λw hw=>QcB rx fx r fs w (by simpa using hw)) ⟨.bl _,H,I,rfl,?_⟩;rw[show its.toArray.any (eqU x)=its.any (eqU x)by simp,QdW r fs];exact q
 ·obtain⟨its,r,pl,hz⟩:=I.tuple hq;refine SeqAt.in_tupleAt (eqU x) pl (λw hw=>QcB rx fx r fs w (by simpa using hw)) ⟨.bl _,H,I,rfl,?_⟩;rw[show its.toArray.any (eqU x)=its.any (eqU x)by simp,QdW r fs];exact q
theorem Qme:OpR X (compareOp .NotIn) (rIn X.K true):=by
 intro aa s σ H x y v u Q I rx ry h;obtain⟨p,xs,rfl,hq,fx,fs,q⟩:=h;cases ry;rcases hq with hq|hq
 ·obtain⟨its,r,pl,hz⟩:=I.list hq;refine SeqAt.notIn_listAt (eqU x) pl.isList (λw hw=>QcB rx fx r fs w (by simpa using hw)) ⟨.bl _,H,I,rfl,?_⟩;rw[show its.toArray.any (eqU x)=its.any (eqU x)by simp,QdW r fs];exact q
 ·obtain⟨its,r,pl,hz⟩:=I.tuple hq;refine SeqAt.notIn_tupleAt (eqU x) pl (λw hw=>QcB rx fx r fs w (by simpa using hw)) ⟨.bl _,H,I,rfl,?_⟩;rw[show its.toArray.any (eqU x)=its.any (eqU x)by simp,QdW r fs];exact q
theorem QmC:CallR X (.builtin "len") λxs H Q=>∃p ys,xs=[.ref p]/\(SqL X.K H p ys\/SqT X.K H p ys)/\Q (.int ys.length) H:=by
 intro aa s σ H xs us Q I r h;obtain⟨p,ys,rfl,hq,q⟩:=h;obtain⟨u,rfl,rx⟩:=Qab r;cases rx;have hn:=Qfh;rcases hq with hq|hq;·obtain⟨its,r',pl,hz⟩:=I.list hq;have hlen:=r'.length;exact Calls.call_len_list pl.isList (by simp only[size_toArray]<;>omega) ⟨.int ys.length,H,I.tok _,⟨s.toks+1,by rw[size_toArray,hlen]⟩,q⟩
 ·obtain⟨its,r',pl,hz⟩:=I.tuple hq;have hlen:=r'.length;exact len_tuple pl (by simp only[size_toArray]<;>omega) ⟨.int ys.length,H,I.tok _,⟨s.toks+1,by rw[size_toArray,hlen]⟩,q⟩
theorem QmB:CallR X (.builtin "len") λxs H Q=>∃z,xs=[.str z]/\z.length<=sizeLine/\Q (.int z.length) H:=by intro aa s σ H xs us Q I r h;obtain⟨z,rfl,hz,q⟩:=h;obtain⟨u,rfl,t,rfl⟩:=Qab r;have hn:=Qfh;exact len_str (by omega) ⟨.int z.length,H,I.tok _,⟨_,rfl⟩,q⟩
theorem CallR.or{f:Value}{r r':List V->Hp->VK->Prop}(h:CallR X f r)(h':CallR X f r'):CallR X f λxs H Q=>r xs H Q\/r' xs H Q:=by
 intro aa s σ H xs us Q I rs q;rcases q with q|q;·exact h aa s σ H xs us Q I rs q
 ·exact h' aa s σ H xs us Q I rs q
theorem QmA:CallR X (.type "list") λxs H Q=>∃p ys,xs=[.ref p]/\(SqL X.K H p ys\/SqT X.K H p ys)/\∀l,H l=none->Q (.ref l) (upd H l (.lst ys)):=by
 intro aa s σ H xs us Q I r h;obtain⟨p,ys,rfl,hq,q⟩:=h;obtain⟨u,rfl,rx⟩:=Qab r;cases rx;have fin:∀(its:List Value),Vals ys its->ys.length<=sizeLine->∀(h':Heap)(c':Nat),(∀b o',s.heap.get? b=some o'->h'.get? b=some o')->h'.get? s.heap.objs.size=some {cls:=.type "list",dict:=none,data:=.seq its.toArray c',slots:=#[]}->EP X aa σ Q (.ref s.heap.objs.size) {s with heap:=h'}:=λits r' hz h' c' kp e=>⟨.ref s.heap.objs.size,_,I.laid (t':=s.toks) kp (le_refl _) (show ObjOk X.prog X.w _ h' _ (.lst ys)from⟨hz,its,c',r',e⟩),rfl,q _ (I.hok.fresh (le_refl _))⟩;rcases hq with hq|hq
 ·obtain⟨its,r',pl,hz⟩:=I.list hq;have hlen:=r'.length;obtain⟨o,ho,hc,n,hd⟩:=pl.isList;exact call_list_seq p (.inl rfl) ho hc hd (λh' c' kp e=>fin its r' hz h' c' kp e) (by simp only[size_toArray]<;>omega)
 ·obtain⟨its,r',pl,hz⟩:=I.tuple hq;have hlen:=r'.length;obtain⟨o,ho,hc,n,hd⟩:=pl;exact call_list_seq p (.inr rfl) ho hc hd (λh' c' kp e=>fin its r' hz h' c' kp e) (by simp only[size_toArray]<;>omega)
def tyV(K:W.Frag)(T:String)(x:V)(H:Hp):Prop:=match x with|.str _=>T="str"|.int _=>T="int"|.ref p=>(T="list"/\∃xs,SqL K H p xs)\/(T="tuple"/\∃o,K.lookup p=some o/\o.cls=.type "tuple"/\o.dict=none)\/T="dict"/\((∃ah,H p=some (.dK ah))\/∃ah,H p=some (.dT ah))\/T="set"/\∃S n,H p=some (.set S n)|_=>False
theorem QpL{aa:List (Addr×Obj)}{σ:St}{H:Hp}{s:Shared}{T:String}{x:V}{v:Value}(I:Inv X aa σ H s)(r:RelV x v)(ty:tyV X.K T x H):s.TypeIs v T/\∀a,v=.ref a->∃ob,s.heap.get? a=some ob/\ob.dict=none:=by cases x with
 |str z=>obtain⟨t,rfl⟩:=r;cases(show T="str"from ty);exact⟨typeIs_str s z t,λ_ e=>nomatch e⟩|int i=>obtain⟨t,rfl⟩:=r;cases(show T="int"from ty);exact⟨typeIs_int s i t,λ_ e=>nomatch e⟩|ref p=>
  cases r;rcases ty with⟨rfl,xs,hq⟩|⟨rfl,o,hk,hc,hd⟩|⟨rfl,hk⟩|⟨rfl,S,n,hk⟩
  ·obtain⟨its,_,pl,_⟩:=I.list hq;refine⟨pl.isList.typeIs,λa e=>?_⟩;cases e;obtain⟨o,n,e,c,hd,_⟩:=pl;exact⟨o,e,hd⟩
  ·refine⟨⟨o,I.kIn p o hk,hc⟩,λa e=>?_⟩;cases e;exact⟨o,I.kIn _ o hk,hd⟩
  ·have z:∃o,s.heap.get? p=some o/\o.ExactDict:=by
    rcases hk with⟨ah,hk⟩|⟨ah,hk⟩
    ·obtain⟨_,_,_,_,o,_,_,e,ex,_⟩:=I.hok p _ hk;exact⟨o,e,ex⟩
    ·obtain⟨_,_,_,_,o,_,_,e,ex,_⟩:=I.hok p _ hk;exact⟨o,e,ex⟩
   obtain⟨o,e,ex⟩:=z;refine⟨⟨o,e,ex.1⟩,λa e2=>?_⟩;cases e2;exact⟨o,e,ex.2.1⟩
  ·obtain⟨o,_,_,_,e,ex,_⟩:=I.hok p _ hk;refine⟨⟨o,e,ex.1⟩,λa e2=>?_⟩;cases e2;exact⟨o,e,ex.2.1⟩|_=>exact False.elim ty
def QxB(K:W.Frag)(T:String)(r:V->List V->Hp->VK->Prop)(to:TE):TE:=λσ H Q=>to σ H λx H1=>tyV K T x H1/\r x [] H1 Q
def tBM(K:W.Frag)(T:String)(r:V->List V->Hp->VK->Prop)(to:TE)(t:TA):TE:=λσ H Q=>to σ H λx H1=>tyV K T x H1/\t σ H1 λxs H2=>r x xs H2 Q
variable{o e:Expr}{es:List Expr}{to:TE}{t:TA}{name:Str}{apos aH:Pos}{T id:String}{r:V->List V->Hp->VK->Prop}
theorem QvS(pa:PlainAttrs T)(slot:Slot T name id)(ib:typeOf (.builtin id)=pure (.type "method_descriptor"))(hm:MtR X id r)(ho:PE X o to)(bH:attributeBase o name X.env (eval o X.env)=eval o X.env:=by rfl)(bG:(apos.endLine==aH.line)=true:=by rfl):PE X (.Call (.Attribute o name apos) [] [] aH) (QxB X.K T r to):=by intro aa s σ H Q I h;refine wpAny_Call_method0_late bH bG (thn (ho aa s σ H _ I h) λv s1⟨x,H1,I1,r1,ty,q1⟩=>?_);obtain⟨h1,h2⟩:=QpL I1 r1 ty;exact⟨T,id,pa,slot,ib,h1,h2,Calls.callWith_builtin rfl (PySem.evalArgs_none (hm aa s1 σ H1 x [] v [] Q I1 r1 .nil q1))⟩
theorem Qee(pa:PlainAttrs T)(slot:Slot T name id)(ib:typeOf (.builtin id)=pure (.type "method_descriptor"))(hm:MtR X id r)(ho:PE X o to)(ha:PA X (e::es) t)(bH:attributeBase o name X.env (eval o X.env)=eval o X.env:=by rfl)(cV:((backTo aH (starEach (e::es) X.env)).all (λx=>!x.1)&&(backToKw aH (keywordEach [] X.env)).all (λx=>x.1.isSome)&&decide ((e::es).length+([]:List Keyword).length+(if([]:List Keyword).isEmpty then 0 else 1)<30))=true:=by rfl)(bG:(apos.endLine==aH.line)=true:=by rfl)(hs:starEach (e::es) X.env=(false,eval e X.env)::starEach es X.env:=by rfl)(eG:(backTo aH (starEach es X.env)).any (·.1)=false:=by rfl):PE X (.Call (.Attribute o name apos) (e::es) [] aH) (tBM X.K T r to t):=by intro aa s σ H Q I h;refine wpAny_Call_method_late bH cV bG rfl (thn (ho aa s σ H _ I h) λv s1⟨x,H1,I1,r1,ty,q1⟩=>?_);obtain⟨h1,h2⟩:=QpL I1 r1 ty;refine⟨T,id,pa,slot,ib,h1,h2,?_⟩;have hA:=ha aH aa s1 σ H1 _ I1 q1;rw[hs]at hA⊢;refine Calls.callWith_builtin (by show(false||(backTo aH (starEach es X.env)).any (·.1))=false;rw[eG]<;>rfl) (Calls.evalArgs_plain ?_);exact thn hA λus s2⟨vs,H2,I2,r2,q2⟩=>hm aa s2 σ H2 x vs v us Q I2 r1 r2 q2
end
def MtM(X:Cx)(id:String)(r:V->List V->Hp->VK->Prop):Prop:=∀(aa:List (Addr×Obj))(s:Shared)(σ:St)(H:Hp)(x:V)(xs:List V)(v:Value)(us:List Value)(Q:VK),Inv X aa σ H s->RelV x v->Vals xs us->r x xs H Q->wpAny (model X.prog X.w) X.A (call (.builtin id) (v::us)) (EP X aa σ Q) X.xe s
theorem Vals.one:∀{x:V}{us:List Value},Vals [x] us->∃u,us=[u]/\RelV x u|_,_,.cons r .nil=>⟨_,rfl,r⟩
theorem Vals.zero:∀{us:List Value},Vals [] us->us=[]|_,.nil=>rfl
theorem Vals.rep{xs:List V}{us:List Value}(h:Vals xs us):∀k:Nat,Vals (List.replicate k xs).flatten (List.replicate k us).flatten|0=>.nil|k+1=>by rw[replicate_succ,replicate_succ,flatten_cons,flatten_cons];exact Vals.append h (Vals.rep h k)
theorem QjE(its:List Value):∀(k:Nat)(acc:List Value),List.foldl (λx1 x2=>x1++x2) acc.toArray (List.replicate k its.toArray)=(acc++(List.replicate k its).flatten).toArray
 |0,acc=>by simp|k+1,acc=>by
  have e:acc.toArray++its.toArray=(acc++its).toArray:=by simp
  have e2:acc++its++(List.replicate k its).flatten=acc++(List.replicate (k+1) its).flatten:=by rw[replicate_succ,flatten_cons,append_assoc]
  rw[<-e2,<-QjE its k (acc++its),<-e,replicate_succ,foldl_cons]
section
variable{X:Cx}{aa:List (Addr×Obj)}{σ:St}{H:Hp}{s:Shared}{l b:Addr}{xs ys zs:List V}
theorem Inv.lset{its its':List Value}{n:Nat}{f:Array Value->Array Value}{t':Nat}(I:Inv X aa σ H s)(hH:H l=some (.lst xs))(e:s.heap.get? l=some {cls:=.type "list",data:=.seq its.toArray n})(hf:f its.toArray=its'.toArray)(hv:Vals ys its')(hz:ys.length<=sizeLine):Inv X aa σ (upd H l (.lst ys)) {s with heap:=s.heap.update l (Obj.mapSeq f),toks:=t'}:=by have q:=PySem.IsL.update e f;rw[hf]at q;refine I.write (x:=l) (e:=l) (by rw[hH];exact trivial) (.inl rfl) (λb' u hb hu=>(Heap.get?_update_other s.heap (Obj.mapSeq f) (Ne.symm hb)).trans hu) ⟨_,q⟩ ?_;exact⟨hz,its',_,hv,q⟩
theorem Inv.lnew{its:List Value}{t':Nat}(I:Inv X aa σ H s)(hv:Vals ys its)(hz:ys.length<=sizeLine):Inv X aa σ (upd H s.heap.objs.size (.lst ys)) {s with heap:=s.heap.push {cls:=.type "list",data:=.seq its.toArray},toks:=t'}:=I.laid (λ_ _ q=>Heap.get?_push_of_some _ q) (le_refl _) ⟨hz,its,0,hv,Heap.get?_push_size _ rfl⟩
theorem Inv.fresh(I:Inv X aa σ H s):H s.heap.objs.size=none:=I.hok.fresh (le_refl _)
theorem Inv.lstM(I:Inv X aa σ H s)(hH:H l=some (.lst xs)):xs.length<=sizeLine/\∃(its:List Value)(n:Nat),Vals xs its/\xs.length=its.length/\s.heap.get? l=some {cls:=.type "list",data:=.seq its.toArray n}:=by obtain⟨z,its,n,r,e⟩:=I.hok l _ hH;exact⟨z,its,n,r,r.length,e⟩
theorem Qln{n:Nat}(h:n<=sizeLine):Builtin.List.listTooLong n=false:=by unfold Builtin.List.listTooLong;exact decide_eq_false (by omega)
end
section
variable{X:Cx}
def QdI:V->List V->Hp->VK->Prop:=λx vs H Q=>∃l xs y,x=.ref l/\vs=[y]/\H l=some (.lst xs)/\xs.length<sizeLine/\Q .non (upd H l (.lst (xs++[y])))
theorem Qav:MtM X "list.append" QdI:=by intro aa s σ H x vs v us Q I rx rv h;obtain⟨l,xs,y,rfl,rfl,hH,hz,q⟩:=h;cases rx;obtain⟨u,rfl,ru⟩:=rv.one;obtain⟨z,its,n,r,hl,e⟩:=I.lstM hH;refine call_meets F.slot_list_append ⟨_,e,rfl⟩ F.entry_list_append (F.args_list_append_2 _ _) (PySem.list_append l its.toArray n u (by rw[size_toArray];omega)) ⟨e,?_⟩;refine⟨.non,_,I.lset (its':=its++[u]) hH e (by simp) (r.append (.cons ru .nil)) ?_,rfl,q⟩;rw[length_append,List.length_singleton];omega
def QtM:V->List V->Hp->VK->Prop:=λx vs H Q=>∃l b xs zs,x=.ref l/\vs=[.ref b]/\H l=some (.lst xs)/\H b=some (.lst zs)/\xs.length+zs.length<=sizeLine/\Q .non (upd H l (.lst (xs++zs)))
theorem Qq2:MtM X "list.extend" QtM:=by
 intro aa s σ H x vs v us Q I rx rv h;obtain⟨l,b,xs,zs,rfl,rfl,hH,hB,hz,q⟩:=h;cases rx;obtain⟨u,rfl,ru⟩:=rv.one;cases ru;obtain⟨z,its,n,r,hl,e⟩:=I.lstM hH;obtain⟨z2,bK,n2,r2,cQ,e2⟩:=I.lstM hB;have hsz:its.toArray.size+bK.toArray.size<=sizeLine:=by rw[size_toArray,size_toArray];omega
 have cW:¬(!its.toArray.isEmpty&&Builtin.List.listTooLong (its.toArray.size+bK.toArray.size))=true:=by
  rw[Qln hsz,Bool.and_false];exact Bool.false_ne_true
 refine call_meets F.slot_list_extend ⟨_,e,rfl⟩ F.entry_list_extend (F.args_list_extend_2 _ _) (AutoSeq1.list_extend_list_list_0 l its.toArray n b bK.toArray n2 cW (by rw[size_toArray];omega) (by omega)) ⟨e,e2,?_⟩;refine⟨.non,_,I.lset (its':=its++bK) hH e (by simp) (r.append r2) ?_,rfl,q⟩;rw[length_append];omega
def QrL:R2:=λx y H Q=>∃l b xs zs,x=.ref l/\y=.ref b/\H l=some (.lst xs)/\H b=some (.lst zs)/\xs.length+zs.length<=sizeLine/\∀p,H p=none->Q (.ref p) (upd H p (.lst (xs++zs)))
theorem Qv1:OpR X (binaryOp .Add) QrL:=by
 intro aa s σ H x y v u Q I rx ry h;obtain⟨l,b,xs,zs,rfl,rfl,hH,hB,hz,q⟩:=h;cases rx;cases ry;obtain⟨z,its,n,r,hl,e⟩:=I.lstM hH;obtain⟨z2,bK,n2,r2,cQ,e2⟩:=I.lstM hB;refine PySem.P.add_list e e2 ?_ (by rw[size_toArray,size_toArray];omega);have ea:its.toArray++bK.toArray=(its++bK).toArray:=by simp
 rw[ea];exact⟨.ref _,_,I.lnew (t':=s.toks) (r.append r2) (by rw[length_append];omega),rfl,q _ I.fresh⟩
def QrJ:R2:=λx y H Q=>∃l k xs,x=.ref l/\y=.int k/\H l=some (.lst xs)/\-2^63<=k/\k<2^63/\xs.length*k.toNat<=sizeLine/\∀p,H p=none->Q (.ref p) (upd H p (.lst (List.replicate k.toNat xs).flatten))
theorem Qup{α:Type}(xs:List α)(k:Nat):(List.replicate k xs).flatten.length=k*xs.length:=by induction k with|zero=>simp|succ k ih=>rw[replicate_succ,flatten_cons,length_append,ih,Nat.succ_mul,Nat.add_comm]
theorem QvW:OpR X (binaryOp .Mult) QrJ:=by
 intro aa s σ H x y v u Q I rx ry h;obtain⟨l,k,xs,rfl,rfl,hH,h1,h2,hz,q⟩:=h;cases rx;obtain⟨t,rfl⟩:=ry;obtain⟨z,its,n,r,hl,e⟩:=I.lstM hH;have hlen:its.toArray.size*k.toNat<=sizeLine:=by rw[size_toArray,<-hl];exact hz
 have i9:¬its.toArray.size*k.toNat>(2^63-1)/8:=by
  have:(sizeLine:Nat)<=(2^63-1)/8:=by decide
  omega
 have cU:¬(!Builtin.List.listFitsIndex k)=true:=by
  rw[fitsIndex_both h1 h2];exact Bool.false_ne_true
 have cW:¬Builtin.List.listTooLong (its.toArray.size*k.toNat)=true:=by rw[Qln hlen];exact Bool.false_ne_true
 have iY:List.foldl (λx1 x2=>x1++x2) #[] (List.replicate (if its.toArray.isEmpty=true then 0 else k.toNat) its.toArray)=(List.replicate k.toNat its).flatten.toArray:=by
  have f0:∀m:Nat,List.foldl (λx1 x2=>x1++x2) #[] (List.replicate m its.toArray)=(List.replicate m its).flatten.toArray:=λm=>by
   have:=QjE its m [];rw[nil_append]at this;exact this
  rw[f0];cases its with|nil=>simp|cons a r'=>rw[if_neg (by simp)]
 refine wpAny_binaryOp_repeat_ref (T:="list") (U:="int") (by decide) ⟨_,e,rfl⟩ (λs'=>typeIs_int s' k t) noFill_list_mul F.fills_int_mul F.slot_int_rmul repeat_list F.slot_int_index.lookup (call_meets F.slot_int_rmul (typeIs_int s k t) F.entry_int_rmul (F.args_int_rmul_2 _ _) (int___rmul___int_list k t l its.toArray n) ⟨e,rfl,⟨_,e,rfl⟩,call_meets F.slot_list_mul ⟨_,e,rfl⟩ F.entry_list_mul (F.args_list_mul_2 _ _) (AutoListH.list___mul___list_int_3 l its.toArray n k t cU i9 cW) ⟨e,?_⟩⟩);rw[iY];exact⟨.ref _,_,I.lnew (t':=s.toks) (r.rep k.toNat) (by rw[Qup,Nat.mul_comm];exact hz),rfl,q _ I.fresh⟩
end
end L2
namespace Att
open PySem PySem.W PySem.Calls PyProof.Rows
theorem Qio{P:Params}{h:Heap}:∀(ns:List Int)(vs:List Value),WellAll P h vs (ns.map WData.int)->IntsAre vs ns:=by intro ns;induction ns with|nil=>intro vs w;rw[map_nil]at w;cases w;exact .nil|cons n ns ih=>intro vs w;rw[map_cons]at w;cases w with|cons a b=>cases a;exact .cons _ _ (ih _ b)
theorem Qqy{l:OpenLaw}{n:Nat}(hn:l.most=some n){P:Params}{h:Heap}{args:List WData}{vals:List Value}(dm:l.row.toRowW.claim.pre args=true)(hJ:WellAll P h vals args):∃a vs ns,vals=[Value.ref a]/\args=[WData.list (ns.map WData.int)]/\h.get? a=some {cls:=.type "list",data:=.seq vs.toArray}/\IntsAre vs ns/\ns.length<=n:=by
 have kJ:WShape.hasAll [] args [.list .int]=true:=(pre_splitW dm).1;have hc:l.pre.holds [] {args:=args}=true:=(pre_splitW dm).2;obtain⟨d,r,rfl,h1,h2⟩:=hasAllW_cons kJ;obtain rfl:=hasAllW_nil h2;obtain⟨xs,rfl,h3⟩:=hasW_list h1;obtain⟨ns,rfl⟩:=items_int h3;have hlen:ns.length<=n:=by
  unfold OpenLaw.pre at hc;have h4:(WTm.not (.lt (.lit (.int (n:Int))) (.len (.arg 0)))).holds [] {args:=[.list (ns.map .int)]}=true:=by
   have h4:=(holds_andW hc).1;rw[hn]at h4;exact h4
  have h5:=condW_of h4 (w_not (w_lt w_lit (w_len_list (w_arg rfl))));rw[length_map]at h5;refine Nat.le_of_not_lt λq=>?_;have q':(n:Int)<((ns.length:Nat):Int):=by omega
  first
   |(rw[decide_eq_true q']at h5;exact absurd h5 (by decide))|(simp at h5;omega)
 cases hJ with|cons w1 w2=>cases w2;cases w1 with|list ho eB=>exact⟨_,_,ns,rfl,rfl,ho,Qio ns _ eB,hlen⟩
theorem QqJ(l:OpenLaw)(args:List WData):l.row.toRowW.claim.post args (.bool true) args=true:=postW_of (r:=l.row.toRowW) (X:=true==true) (show WShape.has [] (.bool true) .bool=true by first|rfl|decide|simp[WShape.has,WShape.arms,WShape.armsAll]) (show(WTm.eq .res (.lit (.bool true))).value [] {args:=args,res:=some (.bool true),after:=args}=some (.bool (true==true))from w_eq_bool (w_res rfl) w_lit) rfl
theorem attach_call{l:OpenLaw}{n:Nat}{q:Program}{loose:List Str}{XP:(Str->Option Value)->Heap->Prop}{YP:World->Heap->Prop}{d:DefRec}(hn:l.most=some n)(fJ:d.params.defaults=[])(call:∀(w:World)(s₀ s₁:Shared)(mg mb:Str->Option Value)(fa:Addr)(o:Obj)(pm cd doc:Value)(a:Addr)(vs:List Value)(ns:List Int),Ground q loose [] XP w s₀ mg mb s₁.heap->YP w s₁.heap->s₁.heap.get? fa=some o->o.data=.func (docDef d.name d.params d.body d.scope pm cd doc)->s₁.heap.CodeRec cd d.name->mg d.name=some (.ref fa)->s₁.heap.get? a=some {cls:=.type "list",data:=.seq vs.toArray}->IntsAre vs ns->ns.length<=n->s₁.gens=#[]->codeAny (model l.prog w) callerA (.call (.ref fa) ⟨[.ref a],[]⟩) (λr s'=>r=.ok (.ret (.bool true))/\OldK s₁.heap s'.heap/\s'.os=s₁.os/\AllBare s'.gens) s₁):WalkO q loose XP YP l.row.toRowW d [] λf vs=>PySem.call f vs:=by intro w s₀ s₁ mg mb G Y fa o pm cd doc dV kV ho hd bQ hD fG hg args vals as dm mD hrd hJ hlo;obtain rfl:dV=.none:=Dflts.none hD fJ;obtain rfl:kV=.none:=Dflts.noKw hD;obtain⟨a,vs,ns,rfl,rfl,et,hints,hlen⟩:=Qqy hn dm hJ;refine enter_call (codeAny_mono (call w s₀ s₁ mg mb fa o pm cd doc a vs ns G Y ho (fd_plain hd) bQ fG et hints hlen hg) λr s' hq=>? _);obtain⟨rfl,h2,h3,h4⟩:=hq;exact⟨.inl ⟨.bool true,.bool true,[],rfl,λ_=>rfl,.bool true,QqJ l _,λ_=>⟨List.Pairwise.nil,λ_ hm=>nomatch hm⟩⟩,h2,h3,h4⟩
end Att
namespace L2
open PySem PySem.Spec PyProof.Rows
theorem Qjk:∀{vs:List Value}{ns:List Int},IntsAre vs ns->Vals (ns.map V.int) vs|_,_,.nil=>.nil|_,_,.cons n t h=>.cons ⟨t,rfl⟩ (Qjk h)
def QrU(H:Hp):Prop:=∀b,H b=none\/∃o xs,H b=some (.frz o (.lst xs))
theorem QsG{P:Program}{w:World}{K:W.Frag}{mg mb:Str->Option Value}{CX:CXT}{k:Nat}{fa a:Addr}{fd:FuncData}{x:Str}{sp:Sp}{s₁:Shared}{vs:List Value}{ns:List Int}(KX:K.In s₁.heap)(eW:s₁.heap.Ns mainGlobals mg)(hb:s₁.heap.Ns builtinsNs mb)(lE:∀x:Str,x≠"__name__"->mb x=bootBuiltins x)(iZ:s₁.heap.NoLimit)(hg:s₁.gens=#[])(ha:s₁.heap.get? a=some {cls:=.type "list",data:=.seq vs.toArray})(hi:IntsAre vs ns)(hl:ns.length<=sizeLine)(hr:Room k callerA)(F:∀ab:Heap,K.In ab->ab.Ns mainGlobals mg->FnOk P w K mg ab CX k fa fd [x] sp)(gf:∀(s:Shared)(u:Value),BindsTo s fd ⟨[u],[]⟩ [(x,u)])(dD:∀H:Hp,QrU H->SqL K H a (ns.map V.int)->sp [.ref a] H (λv _=>v=.bl true) λ_ _ _=>False)(iz:∀H e s',CX [] H s₁ (λ_ _ _=>False) e s'->False):codeAny (model P w) callerA (.call (.ref fa) ⟨[.ref a],[]⟩) (λr s'=>r=.ok (.ret (.bool true))/\OldK s₁.heap s'.heap/\s'.os=s₁.os/\AllBare s'.gens) s₁:=by
 have rv:=Qjk hi;have iQ:=hi.length;have core:∀H:Hp,QrU H->SqL K H a (ns.map V.int)->HOk P w H s₁.heap->(∀b,H b≠none->b=a)->(H a≠none->K.lookup a=none)->codeAny (model P w) callerA (.call (.ref fa) ⟨[.ref a],[]⟩) (λr s'=>r=.ok (.ret (.bool true))/\OldK s₁.heap s'.heap/\s'.os=s₁.os/\AllBare s'.gens) s₁:=by
  intro H hO hS hok hA hK;have cE:∀{b:Addr}{o:Obj},s₁.heap.get? b=some o->H b=none->(Qd9 s₁.heap H).get? b=some o:=λe n=>QsO e n;have fz:∀{b:Addr}{o:Obj}{es:Array DictEntry}{ep:Nat},s₁.heap.get? b=some o->o.data=.dict es ep->H b=none:=λ{b o es ep}e d=>by cases q:H b with|none=>rfl|some u=>
    have e':b=a:=hA b (by rw[q];simp);subst e';rw[ha]at e;cases e;have d':Data.seq vs.toArray _=Data.dict es ep:=d;cases d'
  have gq:∀{b:Addr}{m:Str->Option Value},s₁.heap.Ns b m->(Qd9 s₁.heap H).Ns b m:=λ{b m}⟨o,es,ep,e,d,r⟩=>⟨o,es,ep,cE e (fz e d),d,r⟩;have jK:K.In (Qd9 s₁.heap H):=λb o e=>cE (KX b o e) (by cases q:H b with
   |none=>rfl|some u=>have e':b=a:=hA b (by rw[q];simp);subst e';rw[hK (by rw[q];simp)]at e;cases e);have hM:Mod K mg (Qd9 s₁.heap H):=⟨jK,gq eW,⟨mb,gq hb,lE⟩,let⟨mc,h1,h2⟩:=iZ;⟨mc,gq h1,h2⟩⟩;have e0:Env0 P w K mg (Qd9 s₁.heap H) callerA [] s₁ H:=⟨rfl,hM,λb o e=>Qud e,le_of_eq (Qrc _ _),trivial,λb hb=>absurd (show b∈([]:List Addr)from hb) (by simp),hok,.of_eq hg⟩;refine codeAny_mono ((F _ jK (gq eW)).run callerA [] s₁ H ⟨[.ref a],[]⟩ [.ref a] [.ref a] _ _ hr e0 (gf s₁ (.ref a)) (.cons rfl .nil) (dD H hO hS)) λr s' h=>?_;cases r with|error e=>exact(iz H e s' h).elim|ok fl=>cases fl with
   |next=>exact False.elim h|brk=>exact False.elim h|cont=>exact False.elim h|ret u=>
    obtain⟨v,H',os,bare,un,iW,r',q⟩:=h;have q':v=.bl true:=q;subst q';obtain rfl:u=Value.bool true:=r';refine⟨rfl,OldK.of_keep λb o e=>?_,os,bare⟩;cases q:H b with|none=>exact un.keep b o e q (by intro z;exact absurd (show b∈([]:List Addr)from z) (by simp)) (by simp)|some u=>
     rcases hO b with z|⟨ob,xs,z⟩;·rw[q]at z;cases z
     ·have z2:=un.frzs b ob _ z;obtain⟨e1,_⟩:=hok b _ z;obtain⟨e2,_⟩:=iW b _ z2;rw[e]at e1;cases e1;exact e2
 cases hk:K.lookup a with
 |some o=>
  have e:=KX a o hk;rw[ha]at e;cases e;refine core (λ_=>none) (λ_=>.inl rfl) (.inr ⟨_,vs.toArray,_,hk,rfl,rfl,rfl,by rw[size_toArray,iQ];exact hl,by simpa using rv⟩) (λb u z=>by have z':(none:Option HO)=some u:=z;cases z') (λb z=>absurd rfl z) λz=>absurd rfl z|none=>
  refine core (λb=>if b=a then some (.frz {cls:=.type "list",data:=.seq vs.toArray} (.lst (ns.map V.int)))else none) (λb=>?_) (.inl (.inr ⟨{cls:=.type "list",data:=.seq vs.toArray},if_pos rfl⟩)) (λb u z=>?_) (λb z=>?_) λ_=>hk
  ·by_cases hb:b=a;·exact .inr ⟨_,_,if_pos hb⟩
   ·exact .inl (if_neg hb)
  ·by_cases hb:b=a
   ·have z':=(if_pos hb).symm.trans z;cases z';subst hb;exact⟨ha,by rw[length_map];exact hl,vs,_,rv,ha⟩
   ·have z':=(if_neg hb).symm.trans z;cases z'
  ·by_cases hb:b=a;·exact hb
   ·exact absurd (if_neg hb) z
theorem walk_of{l:W.OpenLaw}{n k:Nat}{q:Program}{loose:List Str}{XP:(Str->Option Value)->Heap->Prop}{YP:World->Heap->Prop}{d:DefRec}{K:Params->W.Frag}{CX:World->CXT}{sp:World->Sp}{x:Str}(hn:l.most=some n)(gE:n<=sizeLine)(fJ:d.params.defaults=[])(hr:Room k callerA)(hY:∀(w:World)(h:Heap),YP w h->(K w.params).In h)(F:∀(w:World)(mg:Str->Option Value)(fa:Addr)(h:Heap),(K w.params).In h->h.Ns mainGlobals mg->mg d.name=some (.ref fa)->∃fd:FuncData,(∀(s:Shared)(u:Value),BindsTo s fd ⟨[u],[]⟩ [(x,u)])/\∀ab:Heap,(K w.params).In ab->ab.Ns mainGlobals mg->FnOk l.prog w (K w.params) mg ab (CX w) k fa fd [x] (sp w))(dD:∀(w:World)(H:Hp)(a:Addr)(ns:List Int),ns.length<=n->QrU H->SqL (K w.params) H a (ns.map V.int)->sp w [.ref a] H (λv _=>v=.bl true) λ_ _ _=>False)(iz:∀(w:World)(H:Hp)(s:Shared)(e:Value)(s':Shared),CX w [] H s (λ_ _ _=>False) e s'->False):W.WalkO q loose XP YP l.row.toRowW d [] λf vs=>PySem.call f vs:=by refine Att.attach_call hn fJ λw s₀ s₁ mg mb fa o pm cd doc a vs ns G Y ho hd bQ fG et hints hlen hg=>? _;have KX:=hY w _ Y;obtain⟨fd,hb,hF⟩:=F w mg fa _ KX G.T.g fG;exact QsG KX G.T.g G.T.b G.T.builtins G.T.nolimit hg et hints (le_trans hlen gE) hr hF hb (λH hO hS=>dD w H a ns hlen hO hS) λH e s'=>iz w H s₁ e s'
noncomputable def Yk(s:Stmt):Arguments:=match s with|.FunctionDef _ a _ _ _ _ _ _ _ _=>a|_=>{posonlyargs:=[],args:=[],vararg:=none,kwonlyargs:=[],kw_defaults:=[],kwarg:=none,defaults:=[]}
noncomputable def Zf(s:Stmt):List Stmt:=match s with|.FunctionDef _ _ b _ _ _ _ _ _ _=>b|_=>[]
noncomputable def Qa(s:Stmt):Scope:=match s with|.FunctionDef _ _ _ _ _ _ sc _ _ _=>sc|_=>{kind:=.function,names:=[],isGenerator:=false,isCoroutine:=false}
abbrev CX0:CXT:=λ_ _ _ _ _ _=>False
abbrev E0:XK:=λ_ _ _=>False
theorem QoG{X:Cx}:Qk5 CX0 X E0:=λ_ _ _ _ _ _ _ h=>h.elim
structure Fun(K:W.Frag)(x qual:Str)(st:Stmt)(f:Addr)(fd:FuncData):Prop where
 ex:∃(oc:Value)(od:Option Addr)(kV doc pm:Value)(an:Option Addr)(ax ct:Value)(cP:Array (Option Value)),fd=W.fnOf x qual (Yk st) (Zf st) (Qa st) .none kV doc pm an ax ct/\K.lookup f=some ⟨oc,od,.func fd,cP⟩/\W.codeIn K ax qual=true
 kp:W.keepIn K (.ref f)=true
section
variable{P:Program}{w:World}{K:W.Frag}{mg:Str->Option Value}{ab:Heap}
theorem Fun.ok{x qual:Str}{st:Stmt}{f:Addr}{fd:FuncData}{N ps:List Str}{k:Nat}{sp:Sp}(F:Fun K x qual st f fd)(S:FnScope N ps (Qa st))(len:∀vs H Q E,sp vs H Q E->vs.length=ps.length)(cX:∀(ax:Value)(A:Around)(ag:List Env)(s:Shared)(H:Hp)(vs:List V)(Q:VK)(E:XK),Room k (A.deeper (envOfC qual (Qa st) s.heap.objs.size f ax))->sp vs H Q E->∃t,PSs (Vu CX0 P w K mg ab N qual (Qa st) f ax A ag s H E).nox (Zf st) t/\t {nx:=λ_ H'=>Q .non H',rt:=Q} (start N vs) H):FnOk P w K mg ab CX0 (k+1) f fd ps sp:=by obtain⟨oc,od,kV,doc,pm,an,ax,ct,cP,rfl,lk,bQ⟩:=F.ex;refine Qxb lk bQ S len λA ag s H vs Q E hr dD=>?_;obtain⟨t,h,q⟩:=cX ax A ag s H vs Q E hr dD;exact⟨t,h.nox,q⟩
theorem Fun.binds{x qual:Str}{st:Stmt}{f:Addr}{fd:FuncData}{ps:List Str}(F:Fun K x qual st f fd)(h:∀(kV doc pm:Value)(an:Option Addr)(ax ct:Value)(us:List Value),us.length=ps.length->bindArgs (W.fnOf x qual (Yk st) (Zf st) (Qa st) .none kV doc pm an ax ct) ⟨us,[]⟩=pure (ps.zip us)):Binds K fd ps []:=by obtain⟨oc,od,kV,doc,pm,an,ax,ct,cP,rfl,lk,bQ⟩:=F.ex;exact .all (h kV doc pm an ax ct)
theorem QkU{x qual:Str}{st:Stmt}{f:Addr}{oc:Value}{od an:Option Addr}{cP:Array (Option Value)}{kV doc pm ax ct:Value}(l:K.lookup f=some ⟨oc,od,.func (W.fnOf x qual (Yk st) (Zf st) (Qa st) .none kV doc pm an ax ct),cP⟩)(c:W.codeIn K ax qual=true)(k:W.keepIn K (.ref f)=true):Fun K x qual st f (W.fnOf x qual (Yk st) (Zf st) (Qa st) .none kV doc pm an ax ct):=⟨⟨oc,od,kV,doc,pm,an,ax,ct,cP,rfl,l,c⟩,k⟩
end
theorem Qcj{A B:Prop}(h:B):if false=true then A else B:=by rw[if_neg Bool.false_ne_true];exact h
theorem Qe2{A B:Prop}(h:A):if true=true then A else B:=by rw[if_pos rfl];exact h
section
variable{κ:Type}[DecidableEq κ]
noncomputable def Z5(ah:List (κ×V))(k:κ):Option V:=(ah.find? λkv=>decide (kv.1=k)).map (·.2)
noncomputable def Vr(ah:List (κ×V))(k:κ)(v:V):List (κ×V):=if(ah.any λkv=>decide (kv.1=k))=true then ah.map (λkv=>if kv.1=k then(kv.1,v)else kv)else ah++[(k,v)]
theorem Qct{p:κ×V}{r:List (κ×V)}{k:κ}(e:p.1=k):Z5 (p::r) k=some p.2:=by simp[Z5,find?_cons,e]
theorem Qba{p:κ×V}{r:List (κ×V)}{k:κ}(e:¬p.1=k):Z5 (p::r) k=Z5 r k:=by simp[Z5,find?_cons,e]
theorem QgJ(k:κ):∀ah:List (κ×V),(ah.any λkv=>decide (kv.1=k))=(Z5 ah k).isSome
 |[]=>rfl|p::r=>by
  rw[any_cons];by_cases e:p.1=k;·simp only[Qct e,decide_eq_true e,Bool.true_or,Option.isSome_some]
  ·rw[Qba e,decide_eq_false e,Bool.false_or];exact QgJ k r
theorem Qdq(ah:List (κ×V))(k:κ)(v:V):(Vr ah k v).length<=ah.length+1:=by
 unfold Vr;split;·rw[length_map];omega
 ·rw[length_append,length_cons,length_nil];omega
theorem Qsf{ah:List (κ×V)}{k:κ}(v:V)(h:Z5 ah k=none):Vr ah k v=ah++[(k,v)]:=by unfold Vr;rw[QgJ,h];exact if_neg (by decide)
theorem RelO.isSome_eq{o:Option V}{u:Option Value}(r:RelO o u):o.isSome=u.isSome:=by cases o with
 |none=>cases u with|none=>rfl|some _=>exact(show False from r).elim
 |some _=>cases u with|none=>exact(show False from r).elim|some _=>rfl
theorem KV.val{ah:List (κ×V)}{vs:List (κ×Value)}(r:KV ah vs)(k:κ):RelO (Z5 ah k) (valueAt vs k):=by unfold KV at r;induction r with|nil=>exact True.intro|@cons p q ps qs h t ih=>
  obtain⟨h1,h2⟩:=h;by_cases e:p.1=k
  ·have e':q.1=k:=h1.symm.trans e;have b:valueAt (q::qs) k=some q.2:=by simp[valueAt,find?_cons,e']
   rw[Qct e,b];exact h2
  ·have e':¬q.1=k:=λz=>e (h1.trans z);have b:valueAt (q::qs) k=valueAt qs k:=by simp[valueAt,find?_cons,e']
   rw[Qba e,b];exact ih
theorem KV.any{ah:List (κ×V)}{vs:List (κ×Value)}(r:KV ah vs)(k:κ):(ah.any λkv=>decide (kv.1=k))=vs.any λkv=>decide (kv.1=k):=by unfold KV at r;induction r with|nil=>rfl|cons h t ih=>rw[any_cons,any_cons,ih,h.1]
theorem KV.repl{ah:List (κ×V)}{vs:List (κ×Value)}(r:KV ah vs)(k:κ){y:V}{u:Value}(ry:RelV y u):KV (ah.map λkv=>if kv.1=k then(kv.1,y)else kv) (vs.map λkv=>if kv.1=k then(kv.1,u)else kv):=by unfold KV at r⊢;induction r with|nil=>exact .nil|@cons p q ps qs h t ih=>
  rw[map_cons,map_cons];refine .cons ?_ ih;obtain⟨h1,h2⟩:=h;by_cases e:p.1=k;·rw[if_pos e,if_pos (h1.symm.trans e)];exact⟨h1,ry⟩
  ·rw[if_neg e,if_neg (λz=>e (h1.trans z))];exact⟨h1,h2⟩
theorem KV.put{ah:List (κ×V)}{vs:List (κ×Value)}(r:KV ah vs)(k:κ){y:V}{u:Value}(ry:RelV y u):KV (Vr ah k y) (stored vs k u):=by
 unfold Vr stored;rw[r.any k];by_cases e:(vs.any λkv=>decide (kv.1=k))=true;·rw[if_pos e,if_pos e];exact r.repl k ry
 ·rw[if_neg e,if_neg e];exact Paired.snoc r ⟨rfl,ry⟩
theorem KV.length{ah:List (κ×V)}{vs:List (κ×Value)}(r:KV ah vs):ah.length=vs.length:=Paired.length r
end
theorem QfW{P:Program}{w:World}{k:Key}{u:Value}(r:RelV (kV k) u):(Zr P w).is k u=true:=by cases k with|inl i=>obtain⟨t,e⟩:=show∃t,u=Value.int i t from r;subst e;exact Qm8 P w i t|inr x=>obtain⟨t,e⟩:=show∃t,u=Value.str x t from r;subst e;exact Qm7 P w x t
theorem QjC{P:Program}{w:World}:∀{ks:List Key}{us:List Value},Vals (ks.map kV) us->ItemsAre (Zr P w) ks us|[],_,r=>by rw[map_nil]at r;cases r;exact .nil|k::ks,_,r=>by rw[map_cons]at r;cases r with|cons h t=>exact .cons (QfW h) (QjC t)
abbrev KT(H:Hp):List (List Key×V)->List (List Key×Addr×Value)->Prop:=Paired λp q=>p.1=q.1/\H q.2.1=some (.tup (p.1.map kV))/\RelV p.2 q.2.2
theorem KT.val{H:Hp}{ah:List (List Key×V)}{xs:List (List Key×Addr×Value)}(r:KT H ah xs)(k:List Key):RelO (Z5 ah k) ((atKey xs k).map (·.2)):=by induction r with|nil=>exact True.intro|@cons p q ps qs h t ih=>
  obtain⟨h1,_,h2⟩:=h;by_cases e:p.1=k
  ·have e':q.1=k:=h1.symm.trans e;have b:atKey (q::qs) k=some q.2:=by simp[atKey,find?_cons,e']
   rw[Qct e,b];exact h2
  ·have e':¬q.1=k:=λz=>e (h1.trans z);have b:atKey (q::qs) k=atKey qs k:=by simp[atKey,find?_cons,e']
   rw[Qba e,b];exact ih
theorem KT.repl{H:Hp}{ah:List (List Key×V)}{xs:List (List Key×Addr×Value)}(r:KT H ah xs)(k:List Key){y:V}{u:Value}(ry:RelV y u):KT H (ah.map λkv=>if kv.1=k then(kv.1,y)else kv) (xs.map (putAt k u)):=by induction r with
 |nil=>exact .nil|@cons p q ps qs h t ih=>
  rw[map_cons,map_cons];refine .cons ?_ ih;obtain⟨h1,h2,h3⟩:=h;unfold putAt;by_cases e:p.1=k;·rw[if_pos e,if_pos (h1.symm.trans e)];exact⟨h1,h2,ry⟩
  ·rw[if_neg e,if_neg (λz=>e (h1.trans z))];exact⟨h1,h2,h3⟩
theorem KT.put{H:Hp}{ah:List (List Key×V)}{xs:List (List Key×Addr×Value)}(r:KT H ah xs)(k:List Key){b:Addr}{y:V}{u:Value}(hb:H b=some (.tup (k.map kV)))(ry:RelV y u):KT H (Vr ah k y) (storedH xs k b u):=by
 have e:(ah.any λkv=>decide (kv.1=k))=(atKey xs k).isSome:=by rw[QgJ,(r.val k).isSome_eq,isSome_map]
 unfold Vr storedH;rw[e];by_cases q:(atKey xs k).isSome=true;·rw[if_pos q,if_pos q];exact r.repl k ry
 ·rw[if_neg q,if_neg q];exact Paired.snoc r ⟨rfl,hb,ry⟩
theorem KT.keeps{H H':Hp}{ah:List (List Key×V)}{xs:List (List Key×Addr×Value)}(r:KT H ah xs)(ht:∀b ys,H b=some (.tup ys)->H' b=some (.tup ys)):KT H' ah xs:=Paired.mapP r λ_ _ z=>⟨z.1,ht _ _ z.2.1,z.2.2⟩
section
variable{P:Program}{w:World}{H:Hp}{h:Heap}{a:Addr}
theorem Qtg{u:HO}(ok:HOk P w H h)(e:Rd H a u):ObjOk P w H h a u:=e.ok ok
theorem QfZ{ah:List (Key×V)}(ok:HOk P w H h)(e:Rd H a (.dK ah)):ah.length<=sizeLine/\(a==sysModules)=false/\∃vs,KV ah vs/\h.DictOf (Zr P w) a vs:=show ObjOk P w H h a (.dK ah)from Qtg ok e
theorem Qts{ah:List (Key×V)}(ok:HOk P w H h)(e:H a=some (.dK ah)):ah.length<=sizeLine/\(a==sysModules)=false/\∃vs,KV ah vs/\h.DictOf (Zr P w) a vs:=QfZ ok (.inl e)
theorem Qfi{ks:List Key}(ok:HOk P w H h)(e:H a=some (.tup (ks.map kV))):(tupleKind (Zr P w)).is h ks a:=by obtain⟨_,its,r,o,h1,h2,n,h3⟩:=show ObjOk P w H h a (.tup (ks.map kV))from ok a _ e;exact⟨o,its.toArray,n,h1,h2,h3,by simpa using QjC r⟩
theorem Qhp{ah:List (List Key×V)}(ok:HOk P w H h)(e:Rd H a (.dT ah)):ah.length<=sizeLine/\(a==sysModules)=false/\∃xs,KT H ah xs/\h.DictOfH (tupleKind (Zr P w)) a xs:=by
 obtain⟨z,y,xs,r,o,es,ep,h1,h2,h3,h4,h5⟩:=(show ObjOk P w H h a (.dT ah)from Qtg ok e);refine⟨z,y,xs,r,o,es,ep,h1,h2,h3,h4,λx hx=>?_,h5⟩;have all:∀{l:List (List Key×V)}{m:List (List Key×Addr×Value)},KT H l m->∀x∈m,(tupleKind (Zr P w)).is h x.1 x.2.1:=by intro l m q;induction q with
  |nil=>intro x hx;exact nomatch hx|@cons p q ps qs hq t ih=>
   intro x hx;rcases List.mem_cons.mp hx with e|hx
   ·subst e;exact Qfi ok (by rw[<-hq.1];exact hq.2.1)
   ·exact ih x hx
 exact all r x hx
theorem Qxh{ah:List (List Key×V)}(ok:HOk P w H h)(e:H a=some (.dT ah)):ah.length<=sizeLine/\(a==sysModules)=false/\∃xs,KT H ah xs/\h.DictOfH (tupleKind (Zr P w)) a xs:=Qhp ok (.inl e)
end
def Qe8(H:Hp)(a:Addr)(y:V)(r:Option V):Prop:=(∃ah k,Rd H a (.dK ah)/\y=kV k/\r=Z5 ah k)\/∃ah k b,Rd H a (.dT ah)/\y=.ref b/\H b=some (.tup (k.map kV))/\r=Z5 ah k
def DPut(H:Hp)(a:Addr)(y v:V)(H':Hp):Prop:=(∃ah k,H a=some (.dK ah)/\y=kV k/\ah.length<sizeLine/\H'=upd H a (.dK (Vr ah k v)))\/∃ah k b,H a=some (.dT ah)/\y=.ref b/\H b=some (.tup (k.map kV))/\ah.length<sizeLine/\H'=upd H a (.dT (Vr ah k v))
theorem DPut.k{H:Hp}{a:Addr}{ah:List (Key×V)}{k:Key}{v:V}(e:H a=some (.dK ah))(hl:ah.length<sizeLine):DPut H a (kV k) v (upd H a (.dK (Vr ah k v))):=.inl ⟨ah,k,e,rfl,hl,rfl⟩
section
variable{X:Cx}{aa:List (Addr×Obj)}{σ:St}{H:Hp}{s:Shared}{a:Addr}{y v:V}{u r:Value}{o:Option V}{A:Around}{E:Value->Shared->Prop}
theorem Inv.big(I:Inv X aa σ H s):sysModules<s.heap.objs.size:=by have h:mainGlobals<s.heap.objs.size:=(I.mod.glob.keeps I.bk).lt;exact Nat.lt_trans (by decide) h
theorem Qro{Q:Value->Shared->Prop}(hu:A.units+1<cLine)(I:Inv X aa σ H s)(g:Qe8 H a y (some v))(ry:RelV y u)(h:∀w' s',Inv X aa σ H s'->RelV v w'->Q w' s'):wpAny (model X.prog X.w) A (getItem (.ref a) u) Q E s:=by
 rcases g with⟨ah,k,e,ey,l⟩|⟨ah,k,b,e,ey,eb,l⟩
 ·subst ey;obtain⟨z,hd,vs,rel,dd⟩:=QfZ I.hok e;obtain⟨w',hw,cm⟩:=RelO.some_of (v:=v) (o:=valueAt vs k) (by rw[l];exact rel.val k);exact wpAny_getItem_of (QfW ry) dd.mapOf hw (h w' _ (I.tok _) cm)
 ·subst ey;cases(show u=Value.ref b from ry);obtain⟨z,hd,xs,rel,dd⟩:=Qhp I.hok e;obtain⟨w',hw,cm⟩:=RelO.some_of (v:=v) (o:=(atKey xs k).map (·.2)) (by rw[l];exact rel.val k);obtain⟨p,hp,kO⟩:=Option.map_eq_some_iff.mp hw;refine wpAny_getItem_heap (tupleKind_room_in1 hu) (Qfi I.hok eb) dd hp ?_;rw[kO];exact h w' _ (I.tok _) cm
theorem QxQ{Q:Value->Shared->Prop}(hu:A.units+1<cLine)(I:Inv X aa σ H s)(g:Qe8 H a y o)(ry:RelV y u)(h:∀s',Inv X aa σ H s'->Q (.bool o.isSome) s'):wpAny (model X.prog X.w) A (compareOp .In u (.ref a)) Q E s:=by
 rcases g with⟨ah,k,e,ey,l⟩|⟨ah,k,b,e,ey,eb,l⟩
 ·subst ey;obtain⟨z,hd,vs,rel,dd⟩:=QfZ I.hok e;refine wpAny_in_of (QfW ry) hd dd.mapOf ?_;rw[<-(rel.val k).isSome_eq,<-l];exact h _ (I.tok _)
 ·subst ey;cases(show u=Value.ref b from ry);obtain⟨z,hd,xs,rel,dd⟩:=Qhp I.hok e;refine wpAny_in_heap (tupleKind_room_in1 hu) (Qfi I.hok eb) hd dd ?_;have q:=(rel.val k).isSome_eq;rw[isSome_map]at q;rw[<-q,<-l];exact h _ (I.tok _)
theorem QuU{Q:Value->Shared->Prop}(hu:A.units+1<cLine)(I:Inv X aa σ H s)(g:Qe8 H a y o)(ry:RelV y u)(h:∀s',Inv X aa σ H s'->Q (.bool (!o.isSome)) s'):wpAny (model X.prog X.w) A (compareOp .NotIn u (.ref a)) Q E s:=by
 rcases g with⟨ah,k,e,ey,l⟩|⟨ah,k,b,e,ey,eb,l⟩
 ·subst ey;obtain⟨z,hd,vs,rel,dd⟩:=QfZ I.hok e;refine wpAny_notIn_of (QfW ry) hd dd.mapOf ?_;rw[<-(rel.val k).isSome_eq,<-l];exact h _ (I.tok _)
 ·subst ey;cases(show u=Value.ref b from ry);obtain⟨z,hd,xs,rel,dd⟩:=Qhp I.hok e;refine wpAny_notIn_heap (tupleKind_room_in1 hu) (Qfi I.hok eb) hd dd ?_;have q:=(rel.val k).isSome_eq;rw[isSome_map]at q;rw[<-q,<-l];exact h _ (I.tok _)
theorem QiR{h':Heap}{t':Nat}{ob:HO}(I:Inv X aa σ H s)(mu:Mut (H a))(hs:Heap.SameBut a s.heap h')(he:∃q,h'.get? a=some q)(new:ObjOk X.prog X.w (upd H a ob) h' a ob):Inv X aa σ (upd H a ob) {s with heap:=h',toks:=t'}:=I.write (x:=a) (e:=a) mu (.inl rfl) (λb q hb z=>(hs.2 b hb).trans z) he new
theorem Qqf{P:Program}{w:World}{H':Hp}{h':Heap}{ah:List (Key×V)}{vs:List (Key×Value)}(z:ah.length<=sizeLine)(hd:(a==sysModules)=false)(rel:KV ah vs)(dd:h'.DictOf (Zr P w) a vs):ObjOk P w H' h' a (.dK ah):=⟨z,hd,vs,rel,dd⟩
theorem Qrn{H':Hp}{Q:Unit->Shared->Prop}(hu:A.units+1<cLine)(I:Inv X aa σ H s)(g:DPut H a y v H')(ry:RelV y u)(rv:RelV v r)(h:∀s',Inv X aa σ H' s'->Q () s'):wpAny (model X.prog X.w) A (setItem (.ref a) u r) Q E s:=by
 rcases g with⟨ah,k,e,ey,l,eH⟩|⟨ah,k,b,e,ey,eb,l,eH⟩
 ·subst ey eH;obtain⟨z,hd,vs,rel,dd⟩:=Qts I.hok e;have hz:vs.length<=sizeLine:=by rw[<-rel.length];exact z
  have hl:(Vr ah k v).length<=sizeLine:=by have:=Qdq ah k v;omega
  refine wpAny_setItem_pairs (hsz:=hz) (QfW ry) dd λh' gO hs=>h _ ?_;have he:∃q,h'.get? a=some q:=let⟨q,_,_,hq,_⟩:=gO;⟨q,hq⟩;exact QiR I (by rw[e];exact True.intro) hs he (Qqf hl hd (rel.put k rv) gO)
 ·subst ey eH;cases(show u=Value.ref b from ry);obtain⟨z,hd,xs,rel,dd⟩:=Qxh I.hok e;have hz:xs.length<=sizeLine:=by rw[<-Paired.length rel];exact z
  have hl:(Vr ah k v).length<=sizeLine:=by have:=Qdq ah k v;omega
  refine wpAny_setItem_heap (hsz:=hz) (tupleKind_room_in1 hu) (Qfi I.hok eb) dd λh' gO hs=>h _ ?_;obtain⟨q,es,ep,hq,h2,h3,h4,_,h5⟩:=gO;refine QiR I (by rw[e];exact True.intro) hs ⟨q,hq⟩ ⟨hl,hd,_,(rel.put k eb rv).keeps λc ys ec=>?_,q,es,ep,hq,h2,h3,h4,h5⟩;rw[Qn (Qw2 ec e (λz=>nomatch z))];exact ec
end
def QrV(i:Expr):Prop:=∀ov iv,subscripted i false ov iv=operate [ov,iv] (getItem ov iv)
theorem Qtz{prog:Program}{w:World}{A:Around}{E:Value->Shared->Prop}{s:Shared}{env:Env}{value slice:Expr}{pos:Pos}{T id:String}{Q:Value->Shared->Prop}(hl:typeLookup (.type T) "__getitem__"=pure (some (.builtin id)))(hs:QrV slice)(h:wpAny (model prog w) A (eval value env) (λo s₁=>wpAny (model prog w) A (eval slice env) (λi s₂=>s₂.TypeIs o T/\wpAny (model prog w) A (getItem o i) Q E s₂) E s₁) E s):wpAny (model prog w) A (eval (.Subscript value slice pos) env) Q E s:=by
 refine Subscript_ (wpAny_mono h (λo s₁ h₁=>wpAny_mono h₁ (λi s₂ h₂=>?_) λ_ _ x=>x) λ_ _ x=>x);obtain⟨hT,h₂⟩:=h₂;unfold subscriptTail;refine wpAny_bind ?_;rw[getitemInPython_of_ne hT.not_modules];refine wpAny_bind (wpAny_specialOf hT hl ?_);have fin:wpAny (model prog w) A (subscripted slice false o i) (λr s₃=>wpAny (model prog w) A (letTemporaryGo value o r>>=λ_=>pure r) Q E s₃) E s₂:=by rw[hs o i];exact wpAny_operating (wpAny_mono h₂ (λr s₃ h₃=>wpAny_bind (wpAny_letTemporaryGo (wpAny_pure h₃))) λ_ _ x=>x)
 first|exact wpAny_pure (wpAny_bind fin)|exact wpAny_bind (wpAny_pure (wpAny_bind fin))|exact wpAny_bind fin
theorem Qni{X:Cx}{aa:List (Addr×Obj)}{σ:St}{H:Hp}{s:Shared}{a:Addr}{y:V}{o:Option V}(I:Inv X aa σ H s)(g:Qe8 H a y o):s.TypeIs (.ref a) "dict":=by
 rcases g with⟨ah,k,e,_,_⟩|⟨ah,k,b,e,_,_,_⟩
 ·obtain⟨_,_,vs,_,dd⟩:=QfZ I.hok e;exact dd.typeIs
 ·obtain⟨_,_,xs,_,dd⟩:=Qhp I.hok e;exact dd.typeIs
def QwO(td ty:TE):TE:=λσ H Q=>td σ H λx H1=>ty σ H1 λy H2=>∃a v,x=.ref a/\Qe8 H2 a y (some v)/\Q v H2
def QxA(ty td:TE):TE:=λσ H Q=>ty σ H λy H1=>td σ H1 λx H2=>∃a o,x=.ref a/\Qe8 H2 a y o/\Q (.bl o.isSome) H2
def Qty(ty td:TE):TE:=λσ H Q=>ty σ H λy H1=>td σ H1 λx H2=>∃a o,x=.ref a/\Qe8 H2 a y o/\Q (.bl (!o.isSome)) H2
def QwR(td ty tv:TE):TS:=λD σ H=>tv σ H λv H1=>td σ H1 λx H2=>ty σ H2 λy H3=>∃a H4,x=.ref a/\DPut H3 a y v H4/\D.nx σ H4
section
variable{X:Cx}{o i e value:Expr}{pos pos' b9:Pos}{td ty tv:TE}
theorem QtZ(hu:X.A.units+1<cLine)(ho:PE X o td)(hi:PE X i ty)(hs:QrV i):PE X (.Subscript o i pos) (QwO td ty):=by intro aa s σ H Q I h;refine Qtz PySem.F.slot_dict_getitem.lookup hs (thn (ho aa s σ H _ I h) λu s1⟨x,H1,I1,rx,q1⟩=>thn (hi aa s1 σ H1 _ I1 q1) λiv s2⟨y,H2,I2,ry,a,v,ex,g,q2⟩=>?_);subst ex;obtain rfl:u=Value.ref a:=rx;exact⟨Qni I2 g,Qro hu I2 g ry λw' s3 I3 cm=>⟨v,H2,I3,cm,q2⟩⟩
theorem QvU(hu:X.A.units+1<cLine)(hi:PE X i ty)(ho:PE X o td):PC X .In i o (QxA ty td):=by intro aa s σ H Q I h;refine thn (hi aa s σ H _ I h) λiv s1⟨y,H1,I1,ry,q1⟩=>thn (ho aa s1 σ H1 _ I1 q1) λu s2⟨x,H2,I2,rx,a,ov,ex,g,q2⟩=>?_;subst ex;obtain rfl:u=Value.ref a:=rx;exact QxQ hu I2 g ry λs3 I3=>⟨.bl ov.isSome,H2,I3,rfl,q2⟩
theorem QqN(hu:X.A.units+1<cLine)(hi:PE X i ty)(ho:PE X o td):PC X .NotIn i o (Qty ty td):=by intro aa s σ H Q I h;refine thn (hi aa s σ H _ I h) λiv s1⟨y,H1,I1,ry,q1⟩=>thn (ho aa s1 σ H1 _ I1 q1) λu s2⟨x,H2,I2,rx,a,ov,ex,g,q2⟩=>?_;subst ex;obtain rfl:u=Value.ref a:=rx;exact QuU hu I2 g ry λs3 I3=>⟨.bl (!ov.isSome),H2,I3,rfl,q2⟩
theorem QtQ(hu:X.A.units+1<cLine)(ho:PE X o td)(hi:PE X i ty)(hv:PE X value tv)(hs:swapsWith value (some (.Subscript o i pos')) pos.line X.env=pure false):PS X (.Assign [.Subscript o i pos'] value pos) (QwR td ty tv):=by intro aa s σ H D I h;refine wpAny_Assign_Subscript (thn (hv aa s σ H _ I h) λr s1⟨v,H1,I1,rv,q1⟩=>thn (ho aa s1 σ H1 _ I1 q1) λu s2⟨x,H2,I2,rx,q2⟩=>thn (hi aa s2 σ H2 _ I2 q2) λiv s3⟨y,H3,I3,ry,a,H4,ex,g,q3⟩=>?_) hs;subst ex;obtain rfl:u=Value.ref a:=rx;exact Qrn hu I3 g ry rv λs4 I4=>⟨σ,H4,I4,q3⟩
end
theorem QsZ{P:Program}{w:World}{H:Hp}(h:Heap)(hb:sysModules<h.objs.size):ObjOk P w H (h.push {cls:=.type "dict",data:=.dict #[]}) h.objs.size (.dK []):=⟨zero_le _,beq_eq_false_iff_ne.mpr (Ne.symm (ne_of_lt hb)),[],.nil,Heap.DictOf.new h⟩
def Qvt:TE:=λ_ H Q=>∀p,H p=none->Q (.ref p) (upd H p (.dK []))
section
variable{X:Cx}{pos:Pos}
theorem Qsl:PE X (.Dict [] [] pos) Qvt:=λaa s σ H Q I h=>wpAny_Dict_empty ⟨.ref s.heap.objs.size,_,I.laid (a:=s.heap.objs.size) (o:=.dK []) (t':=s.toks) (λ_ _ q=>Heap.get?_push_of_some _ q) (le_refl _) (QsZ s.heap I.big),rfl,h _ (I.hok.fresh (le_refl _))⟩
end
end L2
namespace Wd
open PySem
abbrev Kd:=Sum Int Str
inductive D where|non|bl(b:Bool)|int(i:Int)|str(x:Str)|tup(xs:List D)|lst(xs:List D)|scr(ns:List Int)|dic(ks:List Kd)(xs:List D)
abbrev Qj:=List (Option D)
abbrev EvE:=Qj->Option D
abbrev EvL:=Qj->Option (List D)
abbrev EvO:=Qj->Option (Option Int)
abbrev EvG:=D->Qj->Option Qj
inductive Fl where|nx(e:Qj)|rt(d:D)|bk(e:Qj)|ct(e:Qj)
abbrev EvS:=Qj->Option Fl
def lI:Nat:=16777216
def ifO{α:Type}:Option D->Option α->Option α->Option α|some (.bl c),x,y=>if c=true then x else y|_,_,_=>none
noncomputable def QgB:Option D->Option D|some (.bl c)=>some (.bl (!c))|_=>none
theorem Qk{α:Type}(c:Bool)(x y:Option α):ifO (some (.bl c)) x y=if c=true then x else y:=rfl
theorem JW(c:Bool):QgB (some (.bl c))=some (.bl (!c)):=rfl
theorem JY{α:Type}{p:Prop}[Decidable p](a b:Option D)(x y:Option α):ifO (if p then a else b) x y=if p then ifO a x y else ifO b x y:=by split<;>rfl
theorem JC{p:Prop}[Decidable p](a b:Option D):QgB (if p then a else b)=if p then QgB a else QgB b:=by split<;>rfl
mutual noncomputable def D.dep:D->Nat|.tup xs=>D.depL xs+1|.lst xs=>D.depL xs+1|.scr _=>1|.dic _ xs=>D.depL xs+1|_=>0 noncomputable def D.depL:List D->Nat|[]=>0|x::xs=>max (D.dep x) (D.depL xs)end
theorem JN:D.dep .non=0:=by rw[D.dep];all_goals simp
theorem Zl(b:Bool):D.dep (.bl b)=0:=by rw[D.dep];all_goals simp
theorem Qr(i:Int):D.dep (.int i)=0:=by rw[D.dep];all_goals simp
theorem Qw(x:Str):D.dep (.str x)=0:=by rw[D.dep];all_goals simp
theorem Q9(xs:List D):D.dep (.tup xs)=D.depL xs+1:=by rw[D.dep]
theorem Q6(xs:List D):D.dep (.lst xs)=D.depL xs+1:=by rw[D.dep]
theorem Q5:D.depL []=0:=by rw[D.depL]
theorem QV(x:D)(xs:List D):D.depL (x::xs)=max (D.dep x) (D.depL xs):=by rw[D.depL]
noncomputable def b2i(b:Bool):Int:=if b then 1 else 0
noncomputable def QoA:Option Bool->Option Bool->Option Bool|some a,some b=>some (a&&b)|_,_=>none
theorem Q7(a b:Bool):QoA (some a) (some b)=some (a&&b):=rfl
noncomputable def D.oth:D->Option Bool|.scr _=>none|.dic _ _=>none|_=>some false
mutual noncomputable def D.eq:D->D->Option Bool
 |.non,e=>match e with|.non=>some true|e=>e.oth
 |.bl a,e=>match e with
  |.bl b=>some (a==b)|.int j=>some (decide (b2i a=j))|e=>e.oth
 |.int i,e=>match e with
  |.bl b=>some (decide (i=b2i b))|.int j=>some (decide (i=j))|e=>e.oth
 |.str x,e=>match e with
  |.str y=>some (decide (x=y))|e=>e.oth
 |.tup xs,e=>match e with
  |.tup ys=>D.eqL xs ys|e=>e.oth
 |.lst xs,e=>match e with
  |.lst ys=>D.eqL xs ys|e=>e.oth
 |.scr _,_=>none|.dic _ _,_=>none noncomputable def D.eqL:List D->List D->Option Bool|[],[]=>some true|x::xs,y::ys=>QoA (D.eq x y) (D.eqL xs ys)|_,_=>some false end
theorem QC(i j:Int):D.eq (.int i) (.int j)=some (decide (i=j)):=by rw[D.eq]
theorem ZV(i j:Bool):D.eq (.bl i) (.bl j)=some (i==j):=by rw[D.eq]
theorem QF(i j:Str):D.eq (.str i) (.str j)=some (decide (i=j)):=by rw[D.eq]
theorem Ji(xs ys:List D):D.eq (.tup xs) (.tup ys)=D.eqL xs ys:=by rw[D.eq]
theorem JQ(xs ys:List D):D.eq (.lst xs) (.lst ys)=D.eqL xs ys:=by rw[D.eq]
theorem Jr:D.eqL [] []=some true:=by rw[D.eqL]
theorem Jj(x y:D)(xs ys:List D):D.eqL (x::xs) (y::ys)=QoA (D.eq x y) (D.eqL xs ys):=by rw[D.eqL]
noncomputable def D.cmp(o:Option Bool):Option D:=o.map .bl
noncomputable def D.cmpN(o:Option Bool):Option D:=o.map λb=>.bl (!b)
def D.eqO(x y:D):Option D:=if x.dep<=40 then D.cmp (D.eq x y)else none
def D.neO(x y:D):Option D:=if x.dep<=40 then D.cmpN (D.eq x y)else none
noncomputable def intsOf:List D->Option (List Int)|[]=>some []|.int i::r=>(intsOf r).map (i::·)|_=>none
noncomputable def Qad:List Int->List Int->Bool|[],_=>true|_::_,[]=>false|x::xs,y::ys=>if x=y then Qad xs ys else decide (x<y)
noncomputable def D.lt:D->D->Option D|.int i,.int j=>some (.bl (decide (i<j)))|_,_=>none
def D.le:D->D->Option D
 |.int i,.int j=>some (.bl (decide (i<=j)))|.tup xs,.tup ys=>match intsOf xs,intsOf ys with
  |some a,some b=>some (.bl (Qad a b))|_,_=>none
 |_,_=>none
noncomputable def D.gt:D->D->Option D|.int i,.int j=>some (.bl (decide (j<i)))|_,_=>none
noncomputable def D.ge:D->D->Option D|.int i,.int j=>some (.bl (decide (j<=i)))|_,_=>none
noncomputable def D.len:D->Option D|.str x=>if x.length<=lI then some (.int x.length)else none|.tup xs=>some (.int xs.length)|.lst xs=>some (.int xs.length)|.scr ns=>some (.int ns.length)|_=>none
noncomputable def D.add:D->D->Option D|.int i,.int j=>some (.int (i+j))|.str x,.str y=>if x.length+y.length<=lI then some (.str (x++y))else none|.lst xs,.lst ys=>if xs.length+ys.length<=lI then some (.lst (xs++ys))else none|.tup (x::xs),.tup ys=>if xs.length+1+ys.length<=lI then some (.tup (x::xs++ys))else none|_,_=>none
noncomputable def D.addI:D->D->Option D|.int i,.int j=>some (.int (i+j))|.str x,.str y=>if x.length+y.length<=lI then some (.str (x++y))else none|_,_=>none
noncomputable def D.sub:D->D->Option D|.int i,.int j=>some (.int (i-j))|_,_=>none
noncomputable def D.mul:D->D->Option D|.int i,.int j=>if-2^64<i/\i<2^64\/-2^64<j/\j<2^64 then some (.int (i*j))else none|_,_=>none
noncomputable def D.mod:D->D->Option D|.int i,.int j=>if 0<j then some (.int (i%j))else none|_,_=>none
noncomputable def D.fdiv:D->D->Option D|.int i,.int j=>if 0<j/\j<1073741824 then some (.int (i/j))else none|_,_=>none
noncomputable def D.pow:D->D->Option D|.int i,.int j=>if 0<=j/\j<=1000000/\i.natAbs<2^64 then some (.int (i^j.toNat))else none|_,_=>none
noncomputable def D.neg:D->Option D|.int i=>some (.int (-i))|_=>none
theorem QfV{i j:Int}(h:-2^64<i/\i<2^64):D.mul (.int i) (.int j)=some (.int (i*j)):=if_pos (.inl h)
theorem Qky{i j:Int}(h:-2^64<j/\j<2^64):D.mul (.int i) (.int j)=some (.int (i*j)):=if_pos (.inr h)
theorem Qbt{i j:Int}(h:0<j):D.mod (.int i) (.int j)=some (.int (i%j)):=if_pos h
theorem Qwq{i j:Int}(h:0<j/\j<1073741824):D.fdiv (.int i) (.int j)=some (.int (i/j)):=if_pos h
theorem Qti{i j:Int}(h:0<=j/\j<=1000000/\i.natAbs<2^64):D.pow (.int i) (.int j)=some (.int (i^j.toNat)):=if_pos h
noncomputable def D.strI:D->Option D|.int i=>if i.natAbs<2^1900 then some (.str (Str.ofString (toString i)))else none|_=>none
noncomputable def D.intB:D->Option D|.int i=>some (.int i)|.bl b=>some (.int (if b then 1 else 0))|_=>none
noncomputable def D.min2:D->D->Option D|.int i,.int j=>some (.int (if j<i then j else i))|_,_=>none
noncomputable def D.max2:D->D->Option D|.int i,.int j=>some (.int (if j>i then j else i))|_,_=>none
noncomputable def D.isT:D->Option D|.bl b=>some (.bl b)|.int _=>some (.bl false)|_=>none
noncomputable def tyD:D->String|.non=>"NoneType"|.bl _=>"bool"|.int _=>"int"|.str _=>"str"|.tup _=>"tuple"|.lst _=>"list"|.scr _=>"list"|.dic _ _=>"dict"
def D.inst(t:String)(d:D):Option D:=match d with|.scr _=>none|d=>some (.bl (decide (tyD d=t)||decide (t="int")&&decide (tyD d="bool")))
noncomputable def ixD(n:Nat)(i:Int):Option Nat:=if 0<=i then(if i<n then some i.toNat else none)else if-(n:Int)<=i then some (i+n).toNat else none
def D.ix:D->D->Option D|.tup xs,.int i=>(ixD xs.length i).bind λk=>xs[k]?|.lst xs,.int i=>(ixD xs.length i).bind λk=>xs[k]?|.scr ns,.int i=>(ixD ns.length i).bind λk=>(ns[k]?).map .int|.str x,.int i=>if x.length<=lI then(ixD x.length i).bind λk=>(x.cps[k]?).map λc=>.str ⟨#[c]⟩else none|_,_=>none
noncomputable def YA(n d:Nat):Option Int->Nat|none=>d|some v=>if v<0 then(v+(n:Int)).toNat else min v.toNat n
def Z1{α:Type}(xs:List α)(lo hi:Option Int):List α:=(xs.drop (YA xs.length 0 lo)).take (YA xs.length xs.length hi-YA xs.length 0 lo)
def D.cut:D->Option Int->Option Int->Option D|.lst xs,lo,hi=>some (.lst (Z1 xs lo hi))|.tup xs,lo,hi=>if YA xs.length 0 lo=0/\YA xs.length xs.length hi=xs.length then none else some (.tup (Z1 xs lo hi))|.scr ns,lo,hi=>some (.lst ((Z1 ns lo hi).map .int))|_,_,_=>none
def QxR(x:D)(lo hi:Option Int):Option D:=D.cut x lo hi
def eV(i:Nat):EvE:=λe=>(e[i]?).join
def eC(d:D):EvE:=λ_=>some d
noncomputable def eOp(g:D->D->Option D)(a b:EvE):EvE:=λe=>(a e).bind λx=>(b e).bind λy=>g x y
noncomputable def eUn(g:D->Option D)(a:EvE):EvE:=λe=>(a e).bind λx=>g x
def Ja(a:EvE):EvE:=λe=>QgB (a e)
noncomputable def QM(a b:EvE):EvE:=λe=>ifO (a e) (b e) (some (.bl false))
noncomputable def eOr(a b:EvE):EvE:=λe=>ifO (a e) (some (.bl true)) (b e)
noncomputable def eIf(c a b:EvE):EvE:=λe=>ifO (c e) (a e) (b e)
noncomputable def JR(g g':D->D->Option D)(a b c:EvE):EvE:=λe=>(a e).bind λx=>(b e).bind λy=>ifO (g x y) ((c e).bind λz=>g' y z) (some (.bl false))
def lN:EvL:=λ_=>some []
noncomputable def lC(a:EvE)(l:EvL):EvL:=λe=>(a e).bind λx=>(l e).map λxs=>x::xs
noncomputable def Qm(l:EvL):EvE:=λe=>(l e).map .tup
noncomputable def Qg(l:EvL):EvE:=λe=>(l e).map .lst
noncomputable def eK(f:List D->Option D)(l:EvL):EvE:=λe=>(l e).bind f
def JO(t:String)(a:EvE):EvE:=λe=>(a e).bind λx=>D.inst t x
def oNo:EvO:=λ_=>some none
noncomputable def oAt(a:EvE):EvO:=λe=>(a e).bind λd=>match d with|.int i=>some (some i)|_=>none
def ZW(a:EvE)(lo hi:EvO):EvE:=λe=>(a e).bind λx=>(lo e).bind λl=>(hi e).bind λh=>QxR x l h
noncomputable def gS(i:Nat):EvG:=λd e=>some (e.set i (some d))
noncomputable def Zq:List EvG->List D->Qj->Option Qj|[],[],e=>some e|g::gs,d::ds,e=>(g d e).bind λe'=>Zq gs ds e'|_,_,_=>none
def Jp(gs:List EvG):EvG:=λd e=>match d with|.tup ds=>Zq gs ds e|_=>none
noncomputable def Qdg:Option Fl->EvS->Option Fl|some (.nx e),k=>k e|some (.rt d),_=>some (.rt d)|some (.bk e),_=>some (.bk e)|some (.ct e),_=>some (.ct e)|none,_=>none
theorem QK(e:Qj)(k:EvS):Qdg (some (.nx e)) k=k e:=rfl
theorem QW(d:D)(k:EvS):Qdg (some (.rt d)) k=some (.rt d):=rfl
theorem JV(e:Qj)(k:EvS):Qdg (some (.bk e)) k=some (.bk e):=rfl
theorem JU(e:Qj)(k:EvS):Qdg (some (.ct e)) k=some (.ct e):=rfl
theorem Jn(k:EvS):Qdg none k=none:=rfl
theorem JB{c:Prop}[Decidable c](a b:Option Fl)(k:EvS):Qdg (if c then a else b) k=if c then Qdg a k else Qdg b k:=by split<;>rfl
def sQ(a b:EvS):EvS:=λe=>Qdg (a e) b
noncomputable def sIf(c:EvE)(a b:EvS):EvS:=λe=>ifO (c e) (a e) (b e)
noncomputable def Qi(a:EvE):EvS:=λe=>(a e).map .rt
def ZU:EvS:=λ_=>some (.rt .non)
noncomputable def Qc(a:EvE)(g:EvG):EvS:=λe=>(a e).bind λd=>(g d e).map .nx
noncomputable def ZC(i:Nat)(g:D->D->Option D)(a:EvE):EvS:=λe=>(eV i e).bind λx=>(a e).bind λy=>(g x y).map λz=>.nx (e.set i (some z))
noncomputable def J5(a:EvE):EvS:=λe=>(a e).map λ_=>.nx e
def sNx:EvS:=λe=>some (.nx e)
def YK:EvS:=λe=>some (.bk e)
def Yb:EvS:=λe=>some (.ct e)
noncomputable def D.app:D->D->Option D|.lst xs,d=>if xs.length<lI then some (.lst (xs++[d]))else none|_,_=>none
noncomputable def D.ext:D->D->Option D|.lst xs,.lst ys=>if xs.length+ys.length<=lI then some (.lst (xs++ys))else none|_,_=>none
def sP(i:Nat)(a:EvE):EvS:=λe=>(eV i e).bind λx=>(a e).bind λd=>(D.app x d).map λz=>.nx (e.set i (some z))
def QrI(i:Nat)(a:EvE):EvS:=λe=>(eV i e).bind λx=>(a e).bind λd=>(D.ext x d).map λz=>.nx (e.set i (some z))
noncomputable def YX:Option Fl->EvS->Option Fl|some (.nx e),k=>k e|some (.ct e),k=>k e|some (.bk e),_=>some (.nx e)|some (.rt d),_=>some (.rt d)|none,_=>none
theorem Qlc(e:Qj)(k:EvS):YX (some (.nx e)) k=k e:=rfl
def Yn(g:EvG)(b:EvS):List D->EvS|[],e=>some (.nx e)|d::ds,e=>YX ((g d e).bind b) (Yn g b ds)
abbrev EvI:=Qj->Option (List D)
def Jg(it:EvI)(g:EvG)(b:EvS):EvS:=λe=>(it e).bind λds=>Yn g b ds e
noncomputable def rD(lo:Int)(n:Nat):List D:=(List.range n).map λi:Nat=>.int (lo+(i:Int))
noncomputable def VP:Nat->List D->List D|_,[]=>[]|n,d::ds=>.tup [.int n,d]::VP (n+1) ds
def D.rng:D->Option (List D)|.int n=>if n.natAbs<4611686018427387904 then some (rD 0 n.toNat)else none|_=>none
noncomputable def D.its:D->Option (List D)|.lst xs=>some xs|.scr ns=>some (ns.map .int)|_=>none
noncomputable def D.itsT:D->Option (List D)|.tup xs=>some xs|_=>none
def Vs(a:EvE):EvI:=λe=>(a e).bind λd=>D.rng d
def QL(a:EvE):EvI:=λe=>(a e).bind λd=>D.its d
def Qbv(a:EvE):EvI:=λe=>(a e).bind λd=>(D.its d).map λds=>VP 0 ds
noncomputable def Qea:Option Fl->Option D|some (.rt d)=>some d|some (.nx _)=>some .non|_=>none
theorem JZ(d:D):Qea (some (.rt d))=some d:=rfl
theorem J0(e:Qj):Qea (some (.nx e))=some .non:=rfl
theorem JD{c:Prop}[Decidable c](a b:Option Fl):Qea (if c then a else b)=if c then Qea a else Qea b:=by split<;>rfl
theorem JE{α β:Type}{c:Prop}[Decidable c](a b:Option α)(f:α->Option β):(if c then a else b).bind f=if c then a.bind f else b.bind f:=by split<;>rfl
theorem JX{α β:Type}{c:Prop}[Decidable c](a b:Option α)(f:α->β):(if c then a else b).map f=if c then a.map f else b.map f:=by split<;>rfl
noncomputable def sD(n:Nat)(ds:List D):Qj:=ds.map some++List.replicate (n-ds.length) none
def Qx(n k:Nat)(b:EvS)(ds:List D):Option D:=if ds.length=k then Qea (b (sD n ds))else none
noncomputable def QaE(g:EvG)(c el:EvE):List D->Qj->Option (List D)|[],_=>some []|d::ds,e=>(g d e).bind λe1=>ifO (c e1) ((el e1).bind λx=>(QaE g c el ds e1).map λr=>x::r) (QaE g c el ds e1)
noncomputable def Qdi(n:Nat)(caps:List Nat)(e:Qj):Qj:=List.replicate n none++caps.map λi=>(e[i]?).join
def Q2(n:Nat)(caps:List Nat)(it:EvI)(g:EvG)(c el:EvE):EvE:=λe=>(it e).bind λds=>if ds.length<=lI then(QaE g c el ds (Qdi n caps e)).map .lst else none
def QaA(x:Str)(lo hi:Option Int):Str:=⟨(Z1 x.cps.toList lo hi).toArray⟩
noncomputable def YV(x:Str)(n:Int):Str:=⟨(List.replicate n.toNat x.cps.toList).flatten.toArray⟩
def ZD(x:D)(lo hi:Option Int):Option D:=match x with|.str z=>if z.length<=lI then some (.str (QaA z lo hi))else none|d=>D.cut d lo hi
def JF(a:EvE)(lo hi:EvO):EvE:=λe=>(a e).bind λx=>(lo e).bind λl=>(hi e).bind λh=>ZD x l h
noncomputable def D.strip:D->Option D|.str x=>if x.length<=lI then some (.str (Txt.strip x))else none|_=>none
def D.mulA:D->D->Option D|.int i,.int j=>D.mul (.int i) (.int j)|.str x,.int n=>if-1073741824<n/\n<1073741824/\x.length*n.toNat<=lI then some (.str (YV x n))else none|.lst xs,.int n=>if-1073741824<n/\n<1073741824/\xs.length*n.toNat<=lI then some (.lst (List.replicate n.toNat xs).flatten)else none|_,_=>none
noncomputable def Zn:D->Bool|.non|.bl _|.int _|.str _=>true|_=>false
def inD(x:D):List D->Bool|[]=>false|y::ys=>D.eq y x==some true||inD x ys
def D.inO(x y:D):Option D:=match y with|.tup ys=>if Zn x=true/\ys.all Zn=true then some (.bl (inD x ys))else none|.lst ys=>if Zn x=true/\ys.all Zn=true then some (.bl (inD x ys))else none|_=>none
def D.notInO(x y:D):Option D:=match y with|.tup ys=>if Zn x=true/\ys.all Zn=true then some (.bl (!inD x ys))else none|.lst ys=>if Zn x=true/\ys.all Zn=true then some (.bl (!inD x ys))else none|_=>none
noncomputable def D.listOf:D->Option D|.lst xs=>some (.lst xs)|.tup xs=>some (.lst xs)|.scr ns=>some (.lst (ns.map .int))|_=>none
noncomputable def J1:Int->List Int->Int|m,[]=>m|m,n::ns=>J1 (if n>m then n else m) ns
theorem QbJ:∀(ns:List Int)(m:Int),(J1 m ns=m\/J1 m ns∈ns)/\m<=J1 m ns/\∀a∈ns,a<=J1 m ns
 |[],m=>⟨.inl rfl,Int.le_refl _,λ_ h=>by cases h⟩|n::ns,m=>by
  obtain⟨h1,h2,h3⟩:=QbJ ns (if n>m then n else m);show(J1 (if n>m then n else m) ns=m\/_)/\_;refine⟨?_,?_,λa ha=>?_⟩
  ·rcases h1 with h|h
   ·by_cases z:n>m;·right;show J1 (if n>m then n else m) ns∈n::ns;rw[h,if_pos z];exact mem_cons_self
    ·left;rw[h,if_neg z]
   ·right;exact mem_cons_of_mem _ h
  ·show m<=J1 (if n>m then n else m) ns;refine Int.le_trans ?_ h2;split<;>omega
  ·show a<=J1 (if n>m then n else m) ns;rcases List.mem_cons.mp ha with z|z
   ·subst z;refine Int.le_trans ?_ h2;split<;>omega
   ·exact h3 a z
def D.maxL:D->Option D
 |.lst xs=>match intsOf xs with
  |some (m::ns)=>some (.int (J1 m ns))|_=>none
 |_=>none
def D.sumL:D->Option D|.lst xs=>(intsOf xs).map λns=>.int ns.sum|_=>none
noncomputable def VU:List D->Option (List Bool)|[]=>some []|.bl b::r=>(VU r).map (b::·)|_=>none
def D.anyL:D->Option D|.lst xs=>(VU xs).map λbs=>.bl (bs.any id)|_=>none
def Ve:EvS:=λ_=>none
theorem QG(i j:Int):D.mulA (.int i) (.int j)=D.mul (.int i) (.int j):=rfl
theorem QtK{a:EvE}:∀e en,Qi a e≠some (.nx en):=λe en h=>by unfold Qi at h;cases q:a e with|none=>rw[q]at h;cases h|some d=>rw[q]at h;cases h
theorem QiC{a b:EvS}(hb:∀e en,b e≠some (.nx en)):∀e en,sQ a b e≠some (.nx en):=λe en h=>by unfold sQ at h;cases q:a e with|none=>rw[q]at h;cases h|some f=>rw[q]at h;cases f with|nx e1=>exact hb e1 en h|_=>cases h
noncomputable def kOf:D->Option Kd|.str x=>some (.inr x)|.int i=>some (.inl i)|_=>none
noncomputable def hasK(k:Kd)(ks:List Kd):Bool:=ks.any λc=>decide (c=k)
noncomputable def Qck:List Kd->List D->Kd->Option D|c::ks,d::ds,k=>if c=k then some d else Qck ks ds k|_,_,_=>none
noncomputable def Qoy:List Kd->List D->Kd->D->List D|c::ks,d::ds,k,v=>(if c=k then v else d)::Qoy ks ds k v|_,_,_,_=>[]
def D.dget:D->D->Option D|.dic ks ds,y=>(kOf y).bind λk=>Qck ks ds k|_,_=>none
def D.dIn(y d:D):Option D:=match d with|.dic ks _=>(kOf y).map λk=>.bl (hasK k ks)|_=>none
def D.dNotIn(y d:D):Option D:=match d with|.dic ks _=>(kOf y).map λk=>.bl (!hasK k ks)|_=>none
def Qe3(ks:List Kd)(ds:List D)(k:Kd)(v:D):D:=if hasK k ks=true then .dic ks (Qoy ks ds k v)else .dic (ks++[k]) (ds++[v])
def D.put(x y v:D):Option D:=match x with|.dic ks ds=>(kOf y).bind λk=>if ks.length<lI then some (Qe3 ks ds k v)else none|_=>none
def Qec(i:Nat)(key val:EvE):EvS:=λe=>(val e).bind λv=>(eV i e).bind λx=>(key e).bind λy=>(D.put x y v).map λz=>.nx (e.set i (some z))
def Qdh(n k:Nat)(b:EvS)(ds:List D):Option D:=if ds.length=k then match b (sD n ds)with|some (.nx e)=>(e[k-1]?).join|_=>none else none
noncomputable def VD(i:Nat)(f:List D->Option D)(l:EvL):EvS:=λe=>(l e).bind λds=>(eV i e).bind λd=>(f (ds++[d])).map λz=>.nx (e.set i (some z))
noncomputable def Qai:List D->List D->List D|a::as,b::bs=>.tup [a,b]::Qai as bs|_,_=>[]
def QgE(a b:EvE):EvI:=λe=>(a e).bind λx=>(b e).bind λy=>(D.its x).bind λxs=>(D.its y).map λys=>Qai xs ys
def Vd(c:EvE)(b:EvS):Nat->EvS|0,_=>none|n+1,e=>ifO (c e) (YX (b e) (Vd c b n)) (some (.nx e))
def QpS(c:EvE)(b:EvS):EvS:=Vd c b 100000
theorem QoT{o:Option Fl}{k k':EvS}{r:Fl}(h:∀e r,k e=some r->k' e=some r)(q:YX o k=some r):YX o k'=some r:=by cases o with|none=>cases q|some f=>cases f with|nx e=>exact h e r q|ct e=>exact h e r q|bk e=>exact q|rt d=>exact q
theorem Qgh(c:EvE)(b:EvS):∀(n m:Nat),n<=m->∀e r,Vd c b n e=some r->Vd c b m e=some r
 |0,_,_,e,r,h=>by cases h|n+1,0,hm,_,_,_=>by omega|n+1,m+1,hm,e,r,h=>by
  have h':ifO (c e) (YX (b e) (Vd c b n)) (some (.nx e))=some r:=h;show ifO (c e) (YX (b e) (Vd c b m)) (some (.nx e))=some r;cases q:c e with
  |none=>rw[q]at h';cases h'|some d=>cases d with
   |bl k=>
    rw[q]at h';cases k with|true=>exact QoT (Qgh c b n m (by omega)) h'|false=>exact h'
   |_=>rw[q]at h';cases h'
end Wd
namespace Wd
open PySem PySem.Spec PyProof.Rows L2
abbrev Fg:=W.Frag
def Sm(F H:Hp):Prop:=∀a o,F a=some o->H a=some o
theorem Sm.refl(F:Hp):Sm F F:=λ_ _ h=>h
theorem Sm.trans{F G H:Hp}(a:Sm F G)(b:Sm G H):Sm F H:=λx o h=>b x o (a x o h)
theorem Sm.none{F H:Hp}(s:Sm F H){a:Addr}(h:H a=none):F a=none:=by cases e:F a with|none=>rfl|some o=>rw[s a o e]at h;cases h
theorem Sm.upd{F H:Hp}(s:Sm F H){p:Addr}(o:HO)(h:F p=Option.none):Sm F (L2.upd H p o):=λa x e=>by
 have:a≠p:=λz=>by rw[z,h]at e;cases e
 rw[Qn this];exact s a x e
theorem Sm.upd2{F H:Hp}(s:Sm F H)(p:Addr)(o:HO):Sm (L2.upd F p o) (L2.upd H p o):=λa x e=>by
 by_cases z:a=p;·subst z;rw[QJ]at e⊢;exact e
 ·rw[Qn z]at e⊢;exact s a x e
theorem Sm.sqL{K:Fg}{F H:Hp}(s:Sm F H){a:Addr}{xs:List V}(h:SqL K F a xs):SqL K H a xs:=by
 rcases h with(h|⟨o,h⟩)|h;·exact .inl (.inl (s _ _ h))
 ·exact .inl (.inr ⟨o,s _ _ h⟩)
 ·exact .inr h
mutual inductive Rep(K:Fg)(F:Hp):V->D->Prop where|non:Rep K F .non .non|bl(b:Bool):Rep K F (.bl b) (.bl b)|int(i:Int):Rep K F (.int i) (.int i)|str(x:Str):Rep K F (.str x) (.str x)|tup{a:Addr}{xs:List V}{ds:List D}(h:F a=some (.tup xs))(r:Reps K F xs ds):Rep K F (.ref a) (.tup ds)|lst{a:Addr}{xs:List V}{ds:List D}(h:F a=some (.lst xs))(r:Reps K F xs ds):Rep K F (.ref a) (.lst ds)|scr{a:Addr}{ns:List Int}(h:SqL K F a (ns.map V.int)):Rep K F (.ref a) (.scr ns)|dic{a:Addr}{o:Obj}{ks:List Kd}{xs:List V}{ds:List D}(h:F a=some (.frz o (.dK (ks.zip xs))))(hl:ks.length=xs.length)(r:Reps K F xs ds):Rep K F (.ref a) (.dic ks ds)inductive Reps(K:Fg)(F:Hp):List V->List D->Prop where|nil:Reps K F [] []|cons{x:V}{d:D}{xs:List V}{ds:List D}(h:Rep K F x d)(r:Reps K F xs ds):Reps K F (x::xs) (d::ds)end
mutual theorem Rep.mono{K:Fg}{F F':Hp}(s:Sm F F'):∀{v:V}{d:D},Rep K F v d->Rep K F' v d|_,_,.non=>.non|_,_,.bl b=>.bl b|_,_,.int i=>.int i|_,_,.str x=>.str x|_,_,.tup h r=>.tup (s _ _ h) (Reps.mono s r)|_,_,.lst h r=>.lst (s _ _ h) (Reps.mono s r)|_,_,.scr h=>.scr (s.sqL h)|_,_,.dic h hl r=>.dic (s _ _ h) hl (Reps.mono s r)theorem Reps.mono{K:Fg}{F F':Hp}(s:Sm F F'):∀{vs:List V}{ds:List D},Reps K F vs ds->Reps K F' vs ds|_,_,.nil=>.nil|_,_,.cons h r=>.cons (Rep.mono s h) (Reps.mono s r)end
section
variable{K:Fg}{F H:Hp}
theorem Reps.length:∀{vs:List V}{ds:List D},Reps K F vs ds->vs.length=ds.length|_,_,.nil=>rfl|_,_,.cons _ r=>by rw[length_cons,length_cons,r.length]
theorem Reps.get:∀{vs:List V}{ds:List D}{i:Nat}{d:D},Reps K F vs ds->ds[i]?=some d->∃v,vs[i]?=some v/\Rep K F v d|_,_,_,_,.nil,e=>by simp at e|_,_,0,_,.cons h _,e=>by simp at e;subst e;exact⟨_,rfl,h⟩|_,_,i+1,d,.cons _ r,e=>by obtain⟨v,h1,h2⟩:=Reps.get (i:=i) (d:=d) r (by simpa using e);exact⟨v,by simpa using h1,h2⟩
theorem Reps.getV:∀{vs:List V}{ds:List D}{i:Nat}{v:V},Reps K F vs ds->vs[i]?=some v->∃d,ds[i]?=some d/\Rep K F v d|_,_,_,_,.nil,e=>by simp at e|_,_,0,_,.cons h _,e=>by simp at e;subst e;exact⟨_,rfl,h⟩|_,_,i+1,v,.cons _ r,e=>by obtain⟨d,h1,h2⟩:=Reps.getV (i:=i) (v:=v) r (by simpa using e);exact⟨d,by simpa using h1,h2⟩
theorem Reps.append:∀{vs ws:List V}{ds es:List D},Reps K F vs ds->Reps K F ws es->Reps K F (vs++ws) (ds++es)|_,_,_,_,.nil,s=>s|_,_,_,_,.cons h r,s=>.cons h (Reps.append r s)
theorem Reps.drop:∀{vs:List V}{ds:List D}(n:Nat),Reps K F vs ds->Reps K F (vs.drop n) (ds.drop n)|_,_,0,r=>r|_,_,_+1,.nil=>.nil|_,_,n+1,.cons _ r=>Reps.drop n r
theorem Reps.take:∀{vs:List V}{ds:List D}(n:Nat),Reps K F vs ds->Reps K F (vs.take n) (ds.take n)|_,_,0,_=>.nil|_,_,_+1,.nil=>.nil|_,_,n+1,.cons h r=>.cons h (Reps.take n r)
theorem Reps.ints:∀(ns:List Int),Reps K F (ns.map V.int) (ns.map D.int)|[]=>.nil|n::ns=>.cons (.int n) (Reps.ints ns)
theorem Reps.intsOf:∀{vs:List V}{ds:List D}{ns:List Int},Reps K F vs ds->Wd.intsOf ds=some ns->vs=ns.map V.int|_,_,ns,.nil,e=>by cases e;rfl|_,_,ns,.cons (d:=d) h r,e=>by cases h with
  |int i=>
   simp only[Wd.intsOf]at e;cases q:Wd.intsOf _ with
   |none=>rw[q]at e;cases e|some ms=>
    rw[q]at e;cases e;rw[Reps.intsOf r q];rfl
  |_=>simp[Wd.intsOf]at e
end
noncomputable def ho:Option (List Kd)->List V->HO|none,xs=>.lst xs|some ks,xs=>.dK (ks.zip xs)
noncomputable def dOf:Option (List Kd)->List D->D|none,ds=>.lst ds|some ks,ds=>.dic ks ds
noncomputable def Vv:Option (List Kd)->List V->Prop|none,_=>True|some ks,xs=>ks.length=xs.length
noncomputable def hz(o:Obj):Option (List Kd)->List V->HO|none,xs=>.lst xs|some ks,xs=>.frz o (.dK (ks.zip xs))
theorem Rep.hz{K:Fg}{F:Hp}{p:Addr}{o:Obj}:∀{k:Option (List Kd)}{xs:List V}{ds:List D},F p=some (hz o k xs)->Vv k xs->Reps K F xs ds->Rep K F (.ref p) (dOf k ds)|none,_,_,h,_,r=>.lst h r|some _,_,_,h,hl,r=>.dic h hl r
def RdD(K:Fg)(F H:Hp)(v:V)(d:D):Prop:=Rep K F v d\/∃p k xs ds,v=.ref p/\H p=some (ho k xs)/\Reps K F xs ds/\d=dOf k ds/\Vv k xs
structure Gr(F H F' H':Hp):Prop where
 ff:Sm F F'
 hh:Sm H H'
 fh:Sm F' H'
 fr:∀a o,F' a=some o->F a=some o\/H a=none
theorem Gr.refl{F H:Hp}(s:Sm F H):Gr F H F H:=⟨.refl _,.refl _,s,λ_ _ h=>.inl h⟩
theorem Gr.trans{F H F1 H1 F2 H2:Hp}(a:Gr F H F1 H1)(b:Gr F1 H1 F2 H2):Gr F H F2 H2:=⟨a.ff.trans b.ff,a.hh.trans b.hh,b.fh,λx o h=>by
  rcases b.fr x o h with h|h;·exact a.fr x o h
  ·exact .inr (a.hh.none h)⟩
theorem Gr.new{F H:Hp}(s:Sm F H){p:Addr}(h:H p=none)(o:HO):Gr F H (upd F p o) (upd H p o):=⟨(Sm.refl F).upd o (s.none h),(Sm.refl H).upd o h,s.upd2 p o,λa x e=>by
  by_cases z:a=p;·subst z;exact .inr h
  ·rw[Qn z]at e;exact .inl e⟩
theorem Gr.newO{F H:Hp}(s:Sm F H){p:Addr}(h:H p=none)(o:HO):Gr F H F (upd H p o):=⟨.refl F,(Sm.refl H).upd o h,s.upd o (s.none h),λ_ _ e=>.inl e⟩
theorem RdD.gr{K:Fg}{F H F' H':Hp}{v:V}{d:D}(g:Gr F H F' H')(r:RdD K F H v d):RdD K F' H' v d:=by
 rcases r with r|⟨p,k,xs,ds,rfl,h,r,rfl,hk⟩;·exact .inl (r.mono g.ff)
 ·exact .inr ⟨p,k,xs,ds,rfl,g.hh _ _ h,r.mono g.ff,rfl,hk⟩
structure Fz where
 f:Hp
 h:Hp
 p:Option Addr
def Q4(i:Nat):Nat:=1000+i
structure RS(K:Fg)(H₀:Hp)(F0:Fz)(F H:Hp)(σ:L2.St)(e:Qj)(O:List Nat):Prop where
 fh:Sm F H
 hh:Sm F0.h H
 ff:Sm F0.f F
 fr:∀a o,F a=some o->F0.f a=some o\/F0.h a=none
 slot:∀i d,e[i]?=some (some d)->i∉O->∃v,σ[i]?=some (some v)/\Rep K F v d
 own:∀i d,e[i]?=some (some d)->i∈O->∃p k xs ds,σ[i]?=some (some (.ref p))/\F0.h p=none/\F p=none/\H p=some (ho k xs)/\Reps K F xs ds/\d=dOf k ds/\Vv k xs
 dis:∀i j p d d',i∈O->j∈O->e[i]?=some (some d)->e[j]?=some (some d')->σ[i]?=some (some (.ref p))->σ[j]?=some (some (.ref p))->i=j
 pin:∀i,Q4 i∈O->∃p,F0.p=some p/\σ[i]?=some (some (.ref p))len:σ.length=e.length
theorem RS.grow{K:Fg}{H₀:Hp}{F0:Fz}{F H F' H':Hp}{σ:L2.St}{e:Qj}{O:List Nat}(r:RS K H₀ F0 F H σ e O)(g:Gr F H F' H'):RS K H₀ F0 F' H' σ e O where
 fh:=g.fh
 hh:=r.hh.trans g.hh
 ff:=r.ff.trans g.ff
 fr:=λa o h=>by
  rcases g.fr a o h with h|h;·exact r.fr a o h
  ·exact .inr (r.hh.none h)
 slot:=λi d h hi=>by obtain⟨v,h1,h2⟩:=r.slot i d h hi;exact⟨v,h1,h2.mono g.ff⟩
 own:=λi d h hi=>by
  obtain⟨p,k,xs,ds,h1,h2,h3,h4,h5,h6⟩:=r.own i d h hi;refine⟨p,k,xs,ds,h1,h2,?_,g.hh _ _ h4,h5.mono g.ff,h6⟩;cases q:F' p with|none=>rfl|some o=>
   rcases g.fr p o q with z|z;·rw[h3]at z;cases z
   ·rw[h4]at z;cases z
 dis:=r.dis
 pin:=r.pin
 len:=r.len
section
variable(X:Cx)(O:List Nat)
noncomputable def tD(ev:EvE):TE:=λσ H Q=>∃F0 F e d,RS X.K X.H₀ F0 F H σ e O/\ev e=some d/\∀v F' H',Gr F H F' H'->Rep X.K F' v d->Q v H'
def tR(ev:EvE):TE:=λσ H Q=>∃F0 F e d,RS X.K X.H₀ F0 F H σ e O/\ev e=some d/\∀v F' H',Gr F H F' H'->RdD X.K F' H' v d->Q v H'
def tO(ev:EvE):TE:=λσ H Q=>∃F0 F e d,RS X.K X.H₀ F0 F H σ e O/\ev e=some d/\∀p k xs ds F' H',Gr F H F' H'->H p=none->F' p=none->H' p=some (ho k xs)->Reps X.K F' xs ds->d=dOf k ds->Vv k xs->Q (.ref p) H'
def tDT(ev:EvE):TT:=λσ H Q=>∃F0 F e b,RS X.K X.H₀ F0 F H σ e O/\ev e=some (.bl b)/\∀F' H',Gr F H F' H'->Q b H'
def tL(l:EvL):TA:=λσ H Q=>∃F0 F e ds,RS X.K X.H₀ F0 F H σ e O/\l e=some ds/\∀vs F' H',Gr F H F' H'->Reps X.K F' vs ds->Q vs H'
def tOI(l:EvO):TO:=λσ H Q=>∃F0 F e o,RS X.K X.H₀ F0 F H σ e O/\l e=some o/\∀F' H',Gr F H F' H'->Q o H'
end
section
variable{X:Cx}{O:List Nat}{e a b c:Expr}{pos:Pos}
theorem PE.imp{t t':TE}(h:PE X e t)(q:∀σ H Q,t' σ H Q->t σ H Q):PE X e t':=λaa s σ H Q I z=>h aa s σ H Q I (q σ H Q z)
theorem PT.imp{t t':TT}(h:PT X e t)(q:∀σ H Q,t' σ H Q->t σ H Q):PT X e t':=λaa s σ H Q I z=>h aa s σ H Q I (q σ H Q z)
theorem PW.imp{t t':TT}(h:PW X e t)(q:∀σ H Q,t' σ H Q->t σ H Q):PW X e t':=λw aa s σ H Q I z=>h w aa s σ H Q I (q σ H Q z)
theorem PA.imp{es:List Expr}{t t':TA}(h:PA X es t)(q:∀σ H Q,t' σ H Q->t σ H Q):PA X es t':=λp aa s σ H Q I z=>h p aa s σ H Q I (q σ H Q z)
theorem PS.imp{st:Stmt}{t t':TS}(h:PS X st t)(q:∀D σ H,t' D σ H->t D σ H):PS X st t':=λaa s σ H D I z=>h aa s σ H D I (q D σ H z)
theorem PSs.imp{st:List Stmt}{t t':TS}(h:PSs X st t)(q:∀D σ H,t' D σ H->t D σ H):PSs X st t':=λaa s σ H D I z=>h aa s σ H D I (q D σ H z)
theorem dr{ev:EvE}(h:PE X e (tD X O ev)):PE X e (tR X O ev):=PE.imp h λσ H Q⟨F0,F,en,d,r,w,k⟩=>⟨F0,F,en,d,r,w,λv F' H' g q=>k v F' H' g (.inl q)⟩
theorem dC{v:V}{d:D}(hr:∀K F,Rep K F v d)(h:PE X e (tC v)):PE X e (tD X O (eC d)):=PE.imp h λσ H Q⟨F0,F,en,d',r,w,k⟩=>by cases w;exact k v F H (.refl r.fh) (hr _ _)
theorem QoM{b:Bool}{j}:PE X (.Constant (.bool b) j pos) (tD X O (eC (.bl b))):=dC (λ_ _=>.bl b) QwY
theorem QA{i:Int}{j}:PE X (.Constant (.int i) j pos) (tD X O (eC (.int i))):=dC (λ_ _=>.int i) Qhw
theorem Qd{x:Str}{j}:PE X (.Constant (.str x) j pos) (tD X O (eC (.str x))):=dC (λ_ _=>.str x) QpY
theorem QO{x:Str}{i:Int}(hm:∃t,X.mg x=some (.int i t))(hg:Gl X x)(hd:(x==("__debug__":Str))=false:=by decide):PE X (.Name x pos) (tD X O (eC (.int i))):=by obtain⟨t,hm⟩:=hm;exact dC (λ_ _=>.int i) (QtY hg hm (show RelV (.int i) _ from⟨t,rfl⟩) hd)
theorem Zd{i:Nat}{en:Qj}{d:D}(h:eV i en=some d):en[i]?=some (some d):=by unfold eV at h;cases q:en[i]? with|none=>rw[q]at h;cases h|some o=>rw[q]at h;cases o with|none=>cases h|some x=>cases h;rfl
theorem Qs(i:Nat){x:Str}(hN:X.N[i]?=some x:=by rfl)(hv:Vis X.env.scope x:=by first|exact Or.inl rfl|exact Or.inr (Or.inl rfl)|exact Or.inr (Or.inr rfl))(hO:i∉O:=by decide)(hd:(x==("__debug__":Str))=false:=by decide)(bQ:(x==("__classdict__":Str))=false:=by decide):PE X (.Name x pos) (tD X O (eV i)):=PE.imp (Yo hN hv hd bQ) λσ H Q⟨F0,F,en,d,r,w,k⟩=>by obtain⟨v,h1,h2⟩:=r.slot i d (Zd w) hO;exact⟨v,h1,k v F H (.refl r.fh) h2⟩
theorem ZS(i:Nat){x:Str}(hN:X.N[i]?=some x:=by rfl)(hv:Vis X.env.scope x:=by first|exact Or.inl rfl|exact Or.inr (Or.inl rfl)|exact Or.inr (Or.inr rfl))(hd:(x==("__debug__":Str))=false:=by decide)(bQ:(x==("__classdict__":Str))=false:=by decide):PE X (.Name x pos) (tR X O (eV i)):=PE.imp (Yo hN hv hd bQ) λσ H Q⟨F0,F,en,d,r,w,k⟩=>by
  by_cases hO:i∈O
  ·obtain⟨p,kk,xs,ds,h1,_,_,h4,h5,h6,h7⟩:=r.own i d (Zd w) hO;exact⟨_,h1,k _ F H (.refl r.fh) (.inr ⟨p,kk,xs,ds,rfl,h4,h5,h6,h7⟩)⟩
  ·obtain⟨v,h1,h2⟩:=r.slot i d (Zd w) hO;exact⟨v,h1,k v F H (.refl r.fh) (.inl h2)⟩
def Op2(X:Cx)(r:R2)(g:D->D->Option D):Prop:=∀(F H:Hp)(x y:V)(dx dy d:D)(Q:VK),Sm F H->RdD X.K F H x dx->RdD X.K F H y dy->g dx dy=some d->(∀v F' H',Gr F H F' H'->Rep X.K F' v d->Q v H')->r x y H Q
theorem QbY{α β γ:Type}{a:Option α}{b:Option β}{g:α->β->Option γ}{d:γ}(h:(a.bind λx=>b.bind λy=>g x y)=some d):∃x y,a=some x/\b=some y/\g x y=some d:=by cases a with|none=>cases h|some x=>cases b with|none=>cases h|some y=>exact⟨x,y,rfl,rfl,h⟩
theorem QY{α β:Type}{a:Option α}{g:α->Option β}{d:β}(h:(a.bind λx=>g x)=some d):∃x,a=some x/\g x=some d:=by cases a with|none=>cases h|some x=>exact⟨x,rfl,h⟩
theorem Zi{α β:Type}{a:Option α}{g:α->β}{d:β}(h:a.map g=some d):∃x,a=some x/\g x=d:=by cases a with|none=>cases h|some x=>cases h;exact⟨x,rfl,rfl⟩
theorem Qkv{r:R2}{g:D->D->Option D}{ea eb:EvE}(ho:Op2 X r g){σ:L2.St}{H:Hp}{Q:VK}(h:tD X O (eOp g ea eb) σ H Q):tOp r (tR X O ea) (tR X O eb) σ H Q:=by obtain⟨F0,F,en,d,rs,w,k⟩:=h;obtain⟨dx,dy,e1,e2,e3⟩:=QbY w;refine⟨F0,F,en,dx,rs,e1,λx F1 H1 g1 r1=>?_⟩;refine⟨F0,F1,en,dy,rs.grow g1,e2,λy F2 H2 g2 r2=>?_⟩;exact ho F2 H2 x y dx dy d Q g2.fh (r1.gr g2) r2 e3 λv F' H' g3 r3=>k v F' H' ((g1.trans g2).trans g3) r3
theorem Qb{op:Operator}{r:R2}{g:D->D->Option D}{ea eb:EvE}(ho:OpR X (binaryOp op) r/\Op2 X r g)(ha:PE X a (tR X O ea))(hb:PE X b (tR X O eb)):PE X (.BinOp a op b pos) (tD X O (eOp g ea eb)):=PE.imp (QwX ho.1 ha hb) λσ H Q=>Qkv ho.2
theorem Zx{op:CmpOp}{r:R2}{g:D->D->Option D}{ea eb:EvE}(ho:OpR X (compareOp op) r/\Op2 X r g)(ha:PE X a (tR X O ea))(hb:PE X b (tR X O eb))(hm:behindInMarks op b=false):PE X (.Compare a [op] [b] pos) (tD X O (eOp g ea eb)):=PE.imp (Qt0 ho.1 ha hb hm) λσ H Q=>Qkv ho.2
theorem QwA{ea eb:EvE}{r:R2}(ho:IxR X r/\Op2 X r D.ix)(ha:PE X a (tR X O ea))(hb:PE X b (tR X O eb))(hs:Qi1 b:=by intro _ _;rfl):PE X (.Subscript a b pos) (tD X O (eOp D.ix ea eb)):=PE.imp (Qku ho.1 ha hb hs) λσ H Q=>Qkv ho.2
end
section
variable{K:Fg}{F H:Hp}{v:V}
theorem RdD.int{i:Int}(r:RdD K F H v (.int i)):v=.int i:=by
 rcases r with r|⟨_,k,_,_,_,_,_,z,_⟩;·cases r;rfl
 ·cases k<;>cases z
theorem RdD.bl{b:Bool}(r:RdD K F H v (.bl b)):v=.bl b:=by
 rcases r with r|⟨_,k,_,_,_,_,_,z,_⟩;·cases r;rfl
 ·cases k<;>cases z
theorem RdD.str{x:Str}(r:RdD K F H v (.str x)):v=.str x:=by
 rcases r with r|⟨_,k,_,_,_,_,_,z,_⟩;·cases r;rfl
 ·cases k<;>cases z
theorem RdD.non(r:RdD K F H v .non):v=.non:=by
 rcases r with r|⟨_,k,_,_,_,_,_,z,_⟩;·cases r;rfl
 ·cases k<;>cases z
theorem RdD.tup{ds:List D}(r:RdD K F H v (.tup ds)):∃p xs,v=.ref p/\F p=some (.tup xs)/\Reps K F xs ds:=by
 rcases r with r|⟨_,k,_,_,_,_,_,z,_⟩;·cases r with|tup h r=>exact⟨_,_,rfl,h,r⟩
 ·cases k<;>cases z
theorem RdD.lst{ds:List D}(s:Sm F H)(r:RdD K F H v (.lst ds)):∃p xs,v=.ref p/\H p=some (.lst xs)/\Reps K F xs ds:=by
 rcases r with r|⟨p,k,xs,ck,h1,h2,h3,z,_⟩;·cases r with|lst h r=>exact⟨_,_,rfl,s _ _ h,r⟩
 ·cases k with|none=>cases z;exact⟨p,xs,h1,h2,h3⟩|some ks=>cases z
theorem RdD.dic{ks:List Kd}{ds:List D}(s:Sm F H)(r:RdD K F H v (.dic ks ds)):∃p xs,v=.ref p/\Rd H p (.dK (ks.zip xs))/\ks.length=xs.length/\Reps K F xs ds:=by
 rcases r with r|⟨p,k,xs,ck,h1,h2,h3,z,h4⟩;·cases r with|dic h hl r=>exact⟨_,_,rfl,.inr ⟨_,s _ _ h⟩,hl,r⟩
 ·cases k with|none=>cases z|some gy=>cases z;exact⟨p,xs,h1,.inl h2,h4,h3⟩
theorem RdD.scr{ns:List Int}(r:RdD K F H v (.scr ns)):∃p,v=.ref p/\SqL K F p (ns.map V.int):=by
 rcases r with r|⟨_,k,_,_,_,_,_,z,_⟩;·cases r with|scr h=>exact⟨_,rfl,h⟩
 ·cases k<;>cases z
theorem RdD.rep{d:D}(s:Sm F H)(hd:∀ks ds,d≠.dic ks ds)(r:RdD K F H v d):Rep K H v d:=by
 rcases r with r|⟨p,k,xs,ck,rfl,h2,h3,rfl,h4⟩;·exact r.mono s
 ·cases k with|none=>exact .lst h2 (h3.mono s)|some ks=>exact absurd rfl (hd ks ck)
end
section
variable{X:Cx}
theorem Ym:sizeLine=lI:=by decide
theorem Qe:OpR X (binaryOp .Add) (λx y H Q=>((∃i j,x=.int i/\y=.int j/\Q (.int (i+j)) H)\/∃i j,x=.str i/\y=.str j/\i.length+j.length<=sizeLine/\Q (.str (i++j)) H)\/QrL x y H Q\/QoF X.K x y H Q)/\Op2 X (λx y H Q=>((∃i j,x=.int i/\y=.int j/\Q (.int (i+j)) H)\/∃i j,x=.str i/\y=.str j/\i.length+j.length<=sizeLine/\Q (.str (i++j)) H)\/QrL x y H Q\/QoF X.K x y H Q) D.add:=by
 refine⟨OpR.or (OpR.or Qv2 Qo9) (OpR.or Qv1 Qt6),λF H x y dx dy d Q s rx ry e k=>? _⟩;cases dx<;>cases dy<;>try(simp[D.add]at e;done)
 case int.int i j=>
  cases e;exact .inl (.inl ⟨i,j,rx.int,ry.int,k _ F H (.refl s) (.int _)⟩)
 case str.str i j=>
  simp only[D.add]at e;split at e
  ·rename_i hz;cases e;exact .inl (.inr ⟨i,j,rx.str,ry.str,by rw[Ym];exact hz,k _ F H (.refl s) (.str _)⟩)
  ·cases e
 case lst.lst xs ys=>
  simp only[D.add]at e;split at e
  ·rename_i hz;cases e;obtain⟨p,us,rfl,h1,r1⟩:=rx.lst s;obtain⟨q,ws,rfl,h2,r2⟩:=ry.lst s;refine .inr (.inl ⟨p,q,us,ws,rfl,rfl,h1,h2,by rw[Ym,r1.length,r2.length];exact hz,λl hl=>? _⟩);have g:=Gr.new s hl (.lst (us++ws));exact k _ _ _ g (.lst QJ ((r1.append r2).mono g.ff))
  ·cases e
 case tup.tup xs ys=>cases xs with
  |nil=>simp[D.add]at e|cons z xs=>
   simp only[D.add]at e;split at e
   ·rename_i hz;cases e;obtain⟨p,us,rfl,h1,r1⟩:=rx.tup;obtain⟨q,ws,rfl,h2,r2⟩:=ry.tup;have hu:us≠[]:=λz=>by subst z;cases r1
    refine .inr (.inr ⟨p,q,us,ws,rfl,rfl,SqT.of (s _ _ h1),SqT.of (s _ _ h2),hu,? _,λz=>? _,λ_ l hl=>? _⟩);·rw[Ym,r1.length,r2.length];exact hz
    ·subst z;cases r2;refine k _ F H (.refl s) ? _;rw[append_nil];exact .tup h1 r1
    ·have g:=Gr.new s hl (.tup (us++ws));exact k _ _ _ g (.tup QJ ((r1.append r2).mono g.ff))
   ·cases e
theorem QkB{g:D->D->Option D}(h:∀dx dy d,g dx dy=some d->∃i j,dx=.int i/\dy=.int j){C:Int->Int->Prop}{f:Int->Int->V}{fd:Int->Int->D}(hg:∀i j d,g (.int i) (.int j)=some d->C i j/\d=fd i j)(hf:∀K F i j,Rep K F (f i j) (fd i j)):Op2 X (rI C f) g:=λF H x y dx dy d Q s rx ry e k=>by obtain⟨i,j,rfl,rfl⟩:=h dx dy d e;obtain⟨c,rfl⟩:=hg i j d e;exact⟨i,j,rx.int,ry.int,c,k _ F H (.refl s) (hf _ _ i j)⟩
theorem QhB{g:D->D->Option D}(h:∀dx dy d,g dx dy=some d->∃i j,dx=.int i/\dy=.int j){f:Int->Int->V}{fd:Int->Int->D}(hg:∀i j d,g (.int i) (.int j)=some d->d=fd i j)(hf:∀K F i j,Rep K F (f i j) (fd i j)):Op2 X (rI0 f) g:=λF H x y dx dy d Q s rx ry e k=>by obtain⟨i,j,rfl,rfl⟩:=h dx dy d e;cases hg i j d e;exact⟨i,j,rx.int,ry.int,k _ F H (.refl s) (hf _ _ i j)⟩
theorem VS:OpR X (binaryOp .Sub) (rI0 λi j=>.int (i-j))/\Op2 X (rI0 λi j=>.int (i-j)) D.sub:=⟨QvV,QhB (fd:=λi j=>.int (i-j)) (λdx dy d e=>by cases dx<;>cases dy<;>simp[D.sub]at e⊢) (λi j d e=>by cases e;rfl) λ_ _ _ _=>.int _⟩
theorem Qt4:OpR X (binaryOp .Mult) (rI CMul λi j=>.int (i*j))/\Op2 X (rI CMul λi j=>.int (i*j)) D.mul:=⟨Qp1,QkB (fd:=λi j=>.int (i*j)) (λdx dy d e=>by cases dx<;>cases dy<;>simp[D.mul]at e⊢) (λi j d e=>by
  simp only[D.mul]at e;split at e;·rename_i h;cases e;exact⟨h,rfl⟩
  ·cases e) λ_ _ _ _=>.int _⟩
theorem Q0:OpR X (binaryOp .Mod) (rI (λ_ j=>0<j) λi j=>.int (i%j))/\Op2 X (rI (λ_ j=>0<j) λi j=>.int (i%j)) D.mod:=⟨QvY,QkB (fd:=λi j=>.int (i%j)) (λdx dy d e=>by cases dx<;>cases dy<;>simp[D.mod]at e⊢) (λi j d e=>by
  simp only[D.mod]at e;split at e;·rename_i h;cases e;exact⟨h,rfl⟩
  ·cases e) λ_ _ _ _=>.int _⟩
theorem JG:OpR X (binaryOp .FloorDiv) (rI QrX λi j=>.int (i/j))/\Op2 X (rI QrX λi j=>.int (i/j)) D.fdiv:=⟨Qt5,QkB (fd:=λi j=>.int (i/j)) (λdx dy d e=>by cases dx<;>cases dy<;>simp[D.fdiv]at e⊢) (λi j d e=>by
  simp only[D.fdiv]at e;split at e;·rename_i h;cases e;exact⟨h,rfl⟩
  ·cases e) λ_ _ _ _=>.int _⟩
theorem QnG:OpR X (binaryOp .Pow) (rI QrW λi j=>.int (i^j.toNat))/\Op2 X (rI QrW λi j=>.int (i^j.toNat)) D.pow:=⟨QvX,QkB (fd:=λi j=>.int (i^j.toNat)) (λdx dy d e=>by cases dx<;>cases dy<;>simp[D.pow]at e⊢) (λi j d e=>by
  simp only[D.pow]at e;split at e;·rename_i h;cases e;exact⟨h,rfl⟩
  ·cases e) λ_ _ _ _=>.int _⟩
theorem QkR:OpR X (compareOp .Lt) (rI0 λi j=>.bl (decide (i<j)))/\Op2 X (rI0 λi j=>.bl (decide (i<j))) D.lt:=⟨QwZ,QhB (fd:=λi j=>.bl (decide (i<j))) (λdx dy d e=>by cases dx<;>cases dy<;>simp[D.lt]at e⊢) (λi j d e=>by cases e;rfl) λ_ _ _ _=>.bl _⟩
theorem QbE:OpR X (compareOp .Gt) (rI0 λi j=>.bl (decide (j<i)))/\Op2 X (rI0 λi j=>.bl (decide (j<i))) D.gt:=⟨Qw1,QhB (fd:=λi j=>.bl (decide (j<i))) (λdx dy d e=>by cases dx<;>cases dy<;>simp[D.gt]at e⊢) (λi j d e=>by cases e;rfl) λ_ _ _ _=>.bl _⟩
theorem Qk1{xs:List V}{ds:List D}{F:Hp}{i:Int}{d:D}(r:Reps X.K F xs ds)(e:((ixD ds.length i).bind λk=>ds[k]?)=some d):∃v,atI xs i=some v/\Rep X.K F v d:=by obtain⟨k,e1,e2⟩:=QY e;obtain⟨v,h1,h2⟩:=r.get e2;refine⟨v,?_,h2⟩;unfold atI;rw[r.length,show ixN ds.length i=some k from e1];exact h1
theorem Qv3:Op2 X (rIx X.K) D.ix:=λF H x y dx dy d Q s rx ry e k=>by
 cases dx<;>cases dy<;>try(simp[D.ix]at e;done)
 case str.int z i=>
  simp only[D.ix]at e;split at e
  ·rename_i hz;obtain⟨j,e1,e2⟩:=QY e;obtain⟨c,e3,rfl⟩:=Zi e2;refine .inr (.inr ⟨z,i,c,rx.str,ry.int,by rw[Ym];exact hz,?_,k _ F H (.refl s) (.str _)⟩);unfold atI;have hl:z.cps.toList.length=z.length:=by simp[Str.length]
   rw[hl,show ixN z.length i=some j from e1];simpa using e3
  ·cases e
 case tup.int ds i=>
  obtain⟨p,xs,rfl,h,r⟩:=rx.tup;obtain⟨v,h1,h2⟩:=Qk1 r e;exact .inr (.inl ⟨p,xs,i,v,rfl,ry.int,SqT.of (s _ _ h),h1,k _ F H (.refl s) h2⟩)
 case lst.int ds i=>
  obtain⟨p,xs,rfl,h,r⟩:=rx.lst s;obtain⟨v,h1,h2⟩:=Qk1 r e;exact .inl ⟨p,xs,i,v,rfl,ry.int,SqL.of h,h1,k _ F H (.refl s) h2⟩
 case scr.int ns i=>
  obtain⟨p,rfl,h⟩:=rx.scr;have r:Reps X.K F (ns.map V.int) (ns.map D.int):=Reps.ints ns;have e':((ixD (ns.map D.int).length i).bind λk=>(ns.map D.int)[k]?)=some d:=by
   rw[length_map];simp only[D.ix]at e;simpa using e
  obtain⟨v,h1,h2⟩:=Qk1 r e';exact .inl ⟨p,_,i,v,rfl,ry.int,s.sqL h,h1,k _ F H (.refl s) h2⟩
theorem Qv0:IxR X (rIx X.K)/\Op2 X (rIx X.K) D.ix:=⟨QhA,Qv3⟩
theorem Qz{O:List Nat}{a b:Expr}{pos:Pos}{ea eb:EvE}(ha:PE X a (tR X O ea))(hb:PE X b (tR X O eb))(hs:Qi1 b:=by intro _ _;rfl):PE X (.Subscript a b pos) (tD X O (eOp D.ix ea eb)):=QwA Qv0 ha hb hs
end
def eAt(ds es:List D)(j:Nat):Bool:=match ds[j]?,es[j]? with|some d,some e=>(D.eq d e).getD false|_,_=>false
theorem QsS(d e:D)(ds es:List D)(j:Nat):eAt (d::ds) (e::es) (j+1)=eAt ds es j:=by simp[eAt]
theorem Qem:∀(ds es:List D)(b:Bool),D.eqL ds es=some b->(∀(j:Nat)(d e:D),ds[j]?=some d->es[j]?=some e->∃c,D.eq d e=some c)/\b=((List.range (min ds.length es.length)).all (eAt ds es)&&ds.length==es.length)
 |[],[],b,h=>by
  rw[D.eqL]at h;cases h;exact⟨λj d e h=>by simp at h,by simp⟩|[],e::es,b,h=>by
  rw[D.eqL]at h;·cases h;exact⟨λj d e h=>by simp at h,by simp⟩
  all_goals simp|d::ds,[],b,h=>by
  rw[D.eqL]at h;·cases h;exact⟨λj d e _ h=>by simp at h,by simp⟩
  all_goals simp|d::ds,e::es,b,h=>by
  rw[D.eqL]at h;cases q1:D.eq d e with
  |none=>rw[q1]at h;cases h|some b1=>cases q2:D.eqL ds es with
   |none=>rw[q1,q2]at h;cases h|some b2=>
    rw[q1,q2,Q7]at h;cases h;obtain⟨i1,i2⟩:=Qem ds es b2 q2;refine⟨λj d' e' h1 h2=>?_,?_⟩;·cases j with
     |zero=>simp at h1 h2;subst h1 h2;exact⟨b1,q1⟩|succ j=>exact i1 j d' e' (by simpa using h1) (by simpa using h2)
    ·have hm:min (d::ds).length (e::es).length=min ds.length es.length+1:=by simp only[length_cons];omega
     rw[hm,List.range_succ_eq_map,all_cons,List.all_map];have h0:eAt (d::ds) (e::es) 0=b1:=by simp[eAt,q1]
     have hf:(eAt (d::ds) (e::es)∘Nat.succ)=eAt ds es:=funext λj=>QsS d e ds es j;rw[h0,hf,i2];simp[Bool.and_assoc]
mutual theorem QuG{K:Fg}{H:Hp}:∀{x:V}{d e:D}{b:Bool},Rep K H x d->Rep K H x e->D.eq d e=some b->b=true
 |_,_,_,b,.non,r,h=>by cases r;simp[D.eq,D.oth]at h;exact h|_,_,_,b,.bl c,r,h=>by cases r;simp[D.eq,D.oth]at h;exact h|_,_,_,b,.int c,r,h=>by cases r;simp[D.eq,D.oth]at h;exact h|_,_,_,b,.str c,r,h=>by cases r;simp[D.eq,D.oth]at h;exact h|_,_,_,b,.tup h1 r1,r,h=>by cases r with
  |tup h2 r2=>
   rw[h1]at h2;cases h2;rw[D.eq]at h;exact eqs_same r1 r2 h|lst h2 r2=>rw[h1]at h2;cases h2|scr h2=>simp[D.eq,D.oth]at h|dic h2 cQ r2=>simp[D.eq,D.oth]at h
 |_,_,_,b,.lst h1 r1,r,h=>by cases r with
  |lst h2 r2=>rw[h1]at h2;cases h2;rw[D.eq]at h;exact eqs_same r1 r2 h|tup h2 r2=>rw[h1]at h2;cases h2|scr h2=>simp[D.eq,D.oth]at h|dic h2 cQ r2=>simp[D.eq,D.oth]at h
 |_,_,_,b,.scr h1,r,h=>by
  rw[D.eq]at h;cases h|_,_,_,b,.dic h1 _ _,r,h=>by cases r<;>simp[D.eq,D.oth]at h theorem eqs_same{K:Fg}{H:Hp}:∀{xs:List V}{ds es:List D}{b:Bool},Reps K H xs ds->Reps K H xs es->D.eqL ds es=some b->b=true
 |_,_,_,b,.nil,r,h=>by cases r;rw[D.eqL]at h;cases h;rfl|_,_,_,b,.cons (d:=d) (ds:=ds) h1 r1,.cons (d:=e) (ds:=es) h2 r2,h=>by rw[D.eqL]at h;cases q1:D.eq d e with|none=>rw[q1]at h;cases h|some b1=>cases q2:D.eqL ds es with|none=>rw[q1,q2]at h;cases h|some b2=>rw[q1,q2,Q7]at h;cases h;rw[QuG h1 h2 q1,eqs_same r1 r2 q2];rfl end
theorem QiT(i j:Int):(i==j)=decide (i=j):=by by_cases h:i=j<;>simp[h]
theorem QlF:∀{ds:List D}{j:Nat}{d:D},ds[j]?=some d->d.dep<=D.depL ds|[],_,_,h=>by simp at h|d::ds,0,_,h=>by simp at h;subst h;rw[QV];exact Nat.le_max_left _ _|d::ds,j+1,x,h=>by rw[QV];exact le_trans (QlF (ds:=ds) (j:=j) (by simpa using h)) (Nat.le_max_right _ _)
section
variable{X:Cx}{aa:List (Addr×Obj)}{σ:L2.St}{H:Hp}{s:Shared}
def QoC(A:Around)(s:Shared)(v u:Value)(b:Bool):Prop:=SeqAt.RcAt A s v u b/\SeqAt.EqAt A s v u b/\SeqAt.RcNeAt A s v u (!b)
theorem Qly(I:Inv X aa σ H s){n:Nat}{ds es:List D}{xs ys:List V}{us ws:List Value}{A:Around}{b:Bool}(hn:D.depL ds<=n)(hA:A.units+n<cLine)(ih:∀(d e:D)(x y:V)(v u:Value)(b:Bool),d.dep<=n->Rep X.K H x d->Rep X.K H y e->RelV x v->RelV y u->D.eq d e=some b->QoC A s v u b)(r1:Reps X.K H xs ds)(r2:Reps X.K H ys es)(v1:Vals xs us)(v2:Vals ys ws)(h:D.eqL ds es=some b):∀j(h1:j<us.toArray.size)(h2:j<ws.toArray.size),SeqAt.EqAt A s us.toArray[j] ws.toArray[j] (eAt ds es j):=λj h1 h2=>by
 obtain⟨q1,q2⟩:=Qem ds es b h;have l1:=r1.length;have l2:=r2.length;have l3:=v1.length;have l4:=v2.length;simp only[size_toArray]at h1 h2;have hd:j<ds.length:=by omega
 have he:j<es.length:=by omega
 obtain⟨x,hx,rx⟩:=r1.get (getElem?_eq_getElem hd);obtain⟨y,hy,ry⟩:=r2.get (getElem?_eq_getElem he);obtain⟨u,hu,ru⟩:=v1.get hx;obtain⟨w,hw,cm⟩:=v2.get hy;obtain⟨c,hc⟩:=q1 j _ _ (getElem?_eq_getElem hd) (getElem?_eq_getElem he);have e1:us.toArray[j]=u:=by
  rw[getElem?_eq_getElem h1]at hu;simpa using Option.some.inj hu
 have e2:ws.toArray[j]=w:=by
  rw[getElem?_eq_getElem h2]at hw;simpa using Option.some.inj hw
 have e3:eAt ds es j=c:=by simp[eAt,getElem?_eq_getElem hd,getElem?_eq_getElem he,hc]
 rw[e1,e2,e3];exact(ih _ _ x y u w c (le_trans (QlF (getElem?_eq_getElem hd)) hn) rx ry ru cm hc).2.1
theorem QgS{A:Around}{p q:Addr}{b:Bool}(h:SeqAt.RcAt A s (.ref p) (.ref q) b)(hn:SeqAt.RcNeAt A s (.ref p) (.ref q) (!b))(hs:p=q->b=true):QoC A s (.ref p) (.ref q) b:=by
 refine⟨h,?_,hn⟩;by_cases e:p=q;·rw[hs e,e];exact SeqAt.EqAt.same _
 ·exact SeqAt.EqAt.of_refs e h
theorem QnX(I:Inv X aa σ H s){d e:D}{x y:V}{v u:Value}{A:Around}{b:Bool}(hd:d.dep=0)(hu:A.units<cLine)(rx:Rep X.K H x d)(ry:Rep X.K H y e)(rv:RelV x v)(ru:RelV y u)(h:D.eq d e=some b):QoC A s v u b:=by
 have L:∀{a:Addr}{xs:List V},H a=some (.lst xs)->∃its,s.heap.IsList a its:=λh=>let⟨its,_,pl,_⟩:=I.list (SqL.of h);⟨_,pl.isList⟩;have T:∀{a:Addr}{xs:List V},H a=some (.tup xs)->∃its,s.heap.IsTuple a its:=λh=>let⟨its,_,pl,_⟩:=I.tuple (SqT.of h);⟨_,pl⟩;cases rx with
 |tup h1 r1=>rw[Q9]at hd;omega|lst h1 r1=>rw[Q6]at hd;omega|scr h1=>rw[D.eq]at h;cases h|dic h1 kW r1=>cases ry<;>simp[D.eq,D.oth]at h|non=>
  cases show v=Value.none from rv;cases ry with
  |non=>
   cases show u=Value.none from ru;simp[D.eq,D.oth]at h;subst h;exact⟨SeqAt.RcAt.none_none,SeqAt.EqAt.same _,SeqAt.RcNeAt.none_none⟩|bl c2=>cases show u=Value.bool c2 from ru;simp[D.eq,D.oth]at h;subst h;exact⟨SeqAt.RcAt.none_bool _,SeqAt.EqAt.none_bool _,SeqAt.RcNeAt.none_bool _⟩|int i2=>obtain⟨tu,qu⟩:=show∃t,u=Value.int i2 t from ru;cases qu;simp[D.eq,D.oth]at h;subst h;exact⟨SeqAt.RcAt.none_int _ _,SeqAt.EqAt.none_int _ _,SeqAt.RcNeAt.none_int _ _⟩|str z2=>
   obtain⟨tu,qu⟩:=show∃t,u=Value.str z2 t from ru;cases qu;simp[D.eq,D.oth]at h;subst h;exact⟨SeqAt.RcAt.none_str _ _,SeqAt.EqAt.none_str _ _,SeqAt.RcNeAt.none_str _ _⟩|tup h2 r2=>
   cases show u=Value.ref _ from ru;simp[D.eq,D.oth]at h;subst h;obtain⟨its,hi⟩:=T h2;exact⟨SeqAt.RcAt.none_tuple hi hu,SeqAt.EqAt.none_tuple hi hu,SeqAt.RcNeAt.none_tuple hi hu⟩|lst h2 r2=>cases show u=Value.ref _ from ru;simp[D.eq,D.oth]at h;subst h;obtain⟨its,hi⟩:=L h2;exact⟨SeqAt.RcAt.none_list hi hu,SeqAt.EqAt.none_list hi hu,SeqAt.RcNeAt.none_list hi hu⟩|scr h2=>simp[D.eq,D.oth]at h|dic h2 cQ r2=>simp[D.eq,D.oth]at h
 |bl c=>cases show v=Value.bool c from rv;cases ry with
  |non=>cases show u=Value.none from ru;simp[D.eq,D.oth]at h;subst h;exact⟨SeqAt.RcAt.bool_none _,SeqAt.EqAt.bool_none _,SeqAt.RcNeAt.bool_none _⟩|bl c2=>
   cases show u=Value.bool c2 from ru;simp only[D.eq]at h;have hb:b=(c==c2):=(Option.some.inj h).symm;subst hb;exact⟨SeqAt.RcAt.bool_bool _ _,SeqAt.EqAt.bool_bool _ _,SeqAt.RcNeAt.bool_bool _ _⟩|int i2=>
   obtain⟨tu,qu⟩:=show∃t,u=Value.int i2 t from ru;cases qu;simp only[D.eq]at h;have hb:b=((if c then 1 else 0)==i2):=by rw[<-Option.some.inj h,QiT];rfl
   subst hb;exact⟨SeqAt.RcAt.bool_int _ _ _,SeqAt.EqAt.bool_int _ _ _,SeqAt.RcNeAt.bool_int _ _ _⟩|str z2=>obtain⟨tu,qu⟩:=show∃t,u=Value.str z2 t from ru;cases qu;simp[D.eq,D.oth]at h;subst h;exact⟨SeqAt.RcAt.bool_str _ _ _,SeqAt.EqAt.bool_str _ _ _,SeqAt.RcNeAt.bool_str _ _ _⟩|tup h2 r2=>
   cases show u=Value.ref _ from ru;simp[D.eq,D.oth]at h;subst h;obtain⟨its,hi⟩:=T h2;exact⟨SeqAt.RcAt.bool_tuple _ hi hu,SeqAt.EqAt.bool_tuple _ hi hu,SeqAt.RcNeAt.bool_tuple _ hi hu⟩|lst h2 r2=>
   cases show u=Value.ref _ from ru;simp[D.eq,D.oth]at h;subst h;obtain⟨its,hi⟩:=L h2;exact⟨SeqAt.RcAt.bool_list _ hi hu,SeqAt.EqAt.bool_list _ hi hu,SeqAt.RcNeAt.bool_list _ hi hu⟩|scr h2=>simp[D.eq,D.oth]at h|dic h2 cQ r2=>simp[D.eq,D.oth]at h
 |int i=>obtain⟨tv,qv⟩:=show∃t,v=Value.int i t from rv;cases qv;cases ry with
  |non=>
   cases show u=Value.none from ru;simp[D.eq,D.oth]at h;subst h;exact⟨SeqAt.RcAt.int_none _ _,SeqAt.EqAt.int_none _ _,SeqAt.RcNeAt.int_none _ _⟩|bl c2=>
   cases show u=Value.bool c2 from ru;simp only[D.eq]at h;have hb:b=(i==if c2 then 1 else 0):=by rw[<-Option.some.inj h,QiT];rfl
   subst hb;exact⟨SeqAt.RcAt.int_bool _ _ _,SeqAt.EqAt.int_bool _ _ _,SeqAt.RcNeAt.int_bool _ _ _⟩|int i2=>
   obtain⟨tu,qu⟩:=show∃t,u=Value.int i2 t from ru;cases qu;simp only[D.eq]at h;have hb:b=(i==i2):=by rw[<-Option.some.inj h,QiT]
   subst hb;exact⟨SeqAt.RcAt.int_int _ _ _ _,SeqAt.EqAt.int_int _ _ _ _,SeqAt.RcNeAt.int_int _ _ _ _⟩|str z2=>
   obtain⟨tu,qu⟩:=show∃t,u=Value.str z2 t from ru;cases qu;simp[D.eq,D.oth]at h;subst h;exact⟨SeqAt.RcAt.int_str _ _ _ _,SeqAt.EqAt.int_str _ _ _ _,SeqAt.RcNeAt.int_str _ _ _ _⟩|tup h2 r2=>cases show u=Value.ref _ from ru;simp[D.eq,D.oth]at h;subst h;obtain⟨its,hi⟩:=T h2;exact⟨SeqAt.RcAt.int_tuple _ _ hi hu,SeqAt.EqAt.int_tuple _ _ hi hu,SeqAt.RcNeAt.int_tuple _ _ hi hu⟩|lst h2 r2=>cases show u=Value.ref _ from ru;simp[D.eq,D.oth]at h;subst h;obtain⟨its,hi⟩:=L h2;exact⟨SeqAt.RcAt.int_list _ _ hi hu,SeqAt.EqAt.int_list _ _ hi hu,SeqAt.RcNeAt.int_list _ _ hi hu⟩|scr h2=>simp[D.eq,D.oth]at h|dic h2 cQ r2=>simp[D.eq,D.oth]at h
 |str z=>
  obtain⟨tv,qv⟩:=show∃t,v=Value.str z t from rv;cases qv;cases ry with
  |non=>
   cases show u=Value.none from ru;simp[D.eq,D.oth]at h;subst h;exact⟨SeqAt.RcAt.str_none _ _,SeqAt.EqAt.str_none _ _,SeqAt.RcNeAt.str_none _ _⟩|bl c2=>cases show u=Value.bool c2 from ru;simp[D.eq,D.oth]at h;subst h;exact⟨SeqAt.RcAt.str_bool _ _ _,SeqAt.EqAt.str_bool _ _ _,SeqAt.RcNeAt.str_bool _ _ _⟩|int i2=>obtain⟨tu,qu⟩:=show∃t,u=Value.int i2 t from ru;cases qu;simp[D.eq,D.oth]at h;subst h;exact⟨SeqAt.RcAt.str_int _ _ _ _,SeqAt.EqAt.str_int _ _ _ _,SeqAt.RcNeAt.str_int _ _ _ _⟩|str z2=>
   obtain⟨tu,qu⟩:=show∃t,u=Value.str z2 t from ru;cases qu;simp only[D.eq]at h;have hb:b=(z==z2):=by
    rw[<-Option.some.inj h];by_cases q:z=z2<;>simp[q]
   subst hb;exact⟨SeqAt.RcAt.str_str _ _ _ _,SeqAt.EqAt.str_str _ _ _ _,SeqAt.RcNeAt.str_str _ _ _ _⟩|tup h2 r2=>
   cases show u=Value.ref _ from ru;simp[D.eq,D.oth]at h;subst h;obtain⟨its,hi⟩:=T h2;exact⟨SeqAt.RcAt.str_tuple _ _ hi hu,SeqAt.EqAt.str_tuple _ _ hi hu,SeqAt.RcNeAt.str_tuple _ _ hi hu⟩|lst h2 r2=>cases show u=Value.ref _ from ru;simp[D.eq,D.oth]at h;subst h;obtain⟨its,hi⟩:=L h2;exact⟨SeqAt.RcAt.str_list _ _ hi hu,SeqAt.EqAt.str_list _ _ hi hu,SeqAt.RcNeAt.str_list _ _ hi hu⟩|scr h2=>simp[D.eq,D.oth]at h|dic h2 cQ r2=>simp[D.eq,D.oth]at h
theorem QnY(I:Inv X aa σ H s):∀(n:Nat)(d e:D)(x y:V)(v u:Value)(A:Around)(b:Bool),d.dep<=n->A.units+n<cLine->Rep X.K H x d->Rep X.K H y e->RelV x v->RelV y u->D.eq d e=some b->QoC A s v u b:=by
 have L:∀{a:Addr}{xs:List V},H a=some (.lst xs)->∃its:List Value,Vals xs its/\s.heap.IsList a its.toArray:=λh=>let⟨its,r,pl,_⟩:=I.list (SqL.of h);⟨its,r,pl.isList⟩;have T:∀{a:Addr}{xs:List V},H a=some (.tup xs)->∃its:List Value,Vals xs its/\s.heap.IsTuple a its.toArray:=λh=>let⟨its,r,pl,_⟩:=I.tuple (SqT.of h);⟨its,r,pl⟩;intro n;induction n with|zero=>intro d e x y v u A b hd hA rx ry rv ru h;exact QnX I (by omega) (by omega) rx ry rv ru h|succ n ih=>
  intro d e x y v u A b hd hA rx ry rv ru h;have hu:A.units<cLine:=by omega
  have gJ:A.in1.units+n<cLine:=by show A.units+1+n<cLine;omega
  by_cases h0:d.dep=0;·exact QnX I h0 hu rx ry rv ru h
  cases rx with
  |non=>exact absurd JN h0|bl c=>exact absurd (Zl c) h0|int c=>exact absurd (Qr c) h0|str c=>exact absurd (Qw c) h0|scr h1=>
   rw[D.eq]at h;·cases h
   all_goals simp|dic h1 kW r1=>cases ry<;>simp[D.eq,D.oth]at h|@tup p xs ds h1 r1=>
   cases show v=Value.ref p from rv;rw[Q9]at hd;obtain⟨us,v1,t1⟩:=T h1;cases ry with
   |scr h2=>simp[D.eq,D.oth]at h|dic h2 cQ r2=>simp[D.eq,D.oth]at h|non=>cases show u=Value.none from ru;simp[D.eq,D.oth]at h;subst h;exact⟨SeqAt.RcAt.tuple_none t1 hu,SeqAt.EqAt.tuple_none t1 hu,SeqAt.RcNeAt.tuple_none t1 hu⟩|bl c2=>
    cases show u=Value.bool c2 from ru;simp[D.eq,D.oth]at h;subst h;exact⟨SeqAt.RcAt.tuple_bool _ t1 hu,SeqAt.EqAt.tuple_bool _ t1 hu,SeqAt.RcNeAt.tuple_bool _ t1 hu⟩|int i2=>
    obtain⟨tu,qu⟩:=show∃t,u=Value.int i2 t from ru;cases qu;simp[D.eq,D.oth]at h;subst h;exact⟨SeqAt.RcAt.tuple_int _ _ t1 hu,SeqAt.EqAt.tuple_int _ _ t1 hu,SeqAt.RcNeAt.tuple_int _ _ t1 hu⟩|str z2=>
    obtain⟨tu,qu⟩:=show∃t,u=Value.str z2 t from ru;cases qu;simp[D.eq,D.oth]at h;subst h;exact⟨SeqAt.RcAt.tuple_str _ _ t1 hu,SeqAt.EqAt.tuple_str _ _ t1 hu,SeqAt.RcNeAt.tuple_str _ _ t1 hu⟩|@lst q ys es h2 r2=>cases show u=Value.ref q from ru;obtain⟨ws,v2,t2⟩:=L h2;simp[D.eq,D.oth]at h;subst h;exact⟨SeqAt.RcAt.tuple_list t1 t2 hu,SeqAt.EqAt.tuple_list t1 t2 hu,SeqAt.RcNeAt.tuple_list t1 t2 hu⟩|@tup q ys es h2 r2=>
    cases show u=Value.ref q from ru;obtain⟨ws,v2,t2⟩:=T h2;rw[D.eq]at h;have hi:=Qly (A:=A.in1) I (by omega) gJ (λd e x y v u b hd rx ry rv ru h=>ih d e x y v u A.in1 b hd gJ rx ry rv ru h) r1 r2 v1 v2 h;have hr:=SeqAt.RcAt.tuples t1 t2 hu hi;have hn:=SeqAt.RcNeAt.tuples t1 t2 hu hi;have hb:b=((List.range (min us.toArray.size ws.toArray.size)).all (eAt ds es)&&us.toArray.size==ws.toArray.size):=by
     rw[(Qem ds es b h).2];simp only[size_toArray];rw[<-v1.length,<-v2.length,r1.length,r2.length]
    rw[<-hb]at hr hn;refine QgS hr hn λz=>? _;subst z;rw[h1]at h2;cases h2;exact eqs_same r1 r2 h
  |@lst p xs ds h1 r1=>cases show v=Value.ref p from rv;rw[Q6]at hd;obtain⟨us,v1,t1⟩:=L h1;cases ry with
   |scr h2=>simp[D.eq,D.oth]at h|dic h2 cQ r2=>simp[D.eq,D.oth]at h|non=>cases show u=Value.none from ru;simp[D.eq,D.oth]at h;subst h;exact⟨SeqAt.RcAt.list_none t1 hu,SeqAt.EqAt.list_none t1 hu,SeqAt.RcNeAt.list_none t1 hu⟩|bl c2=>cases show u=Value.bool c2 from ru;simp[D.eq,D.oth]at h;subst h;exact⟨SeqAt.RcAt.list_bool _ t1 hu,SeqAt.EqAt.list_bool _ t1 hu,SeqAt.RcNeAt.list_bool _ t1 hu⟩|int i2=>
    obtain⟨tu,qu⟩:=show∃t,u=Value.int i2 t from ru;cases qu;simp[D.eq,D.oth]at h;subst h;exact⟨SeqAt.RcAt.list_int _ _ t1 hu,SeqAt.EqAt.list_int _ _ t1 hu,SeqAt.RcNeAt.list_int _ _ t1 hu⟩|str z2=>
    obtain⟨tu,qu⟩:=show∃t,u=Value.str z2 t from ru;cases qu;simp[D.eq,D.oth]at h;subst h;exact⟨SeqAt.RcAt.list_str _ _ t1 hu,SeqAt.EqAt.list_str _ _ t1 hu,SeqAt.RcNeAt.list_str _ _ t1 hu⟩|@tup q ys es h2 r2=>cases show u=Value.ref q from ru;obtain⟨ws,v2,t2⟩:=T h2;simp[D.eq,D.oth]at h;subst h;exact⟨SeqAt.RcAt.list_tuple t1 t2 hu,SeqAt.EqAt.list_tuple t1 t2 hu,SeqAt.RcNeAt.list_tuple t1 t2 hu⟩|@lst q ys es h2 r2=>
    cases show u=Value.ref q from ru;obtain⟨ws,v2,t2⟩:=L h2;rw[D.eq]at h;have hb:=(Qem ds es b h).2;have l1:=r1.length;have l2:=r2.length;have l3:=v1.length;have l4:=v2.length;by_cases hz:ds.length=es.length
    ·have hi:=Qly (A:=A.in1) I (by omega) gJ (λd e x y v u b hd rx ry rv ru h=>ih d e x y v u A.in1 b hd gJ rx ry rv ru h) r1 r2 v1 v2 h;have hr:=SeqAt.RcAt.lists t1 t2 (by simp only[size_toArray];omega) hu hi;have hn:=SeqAt.RcNeAt.lists t1 t2 (by simp only[size_toArray];omega) hu hi;have ef:b=(List.range us.toArray.size).all (eAt ds es):=by
      rw[hb];simp only[size_toArray];rw[<-l3,l1,hz,min_self];simp
     rw[<-ef]at hr hn;refine QgS hr hn λz=>? _;subst z;rw[h1]at h2;cases h2;exact eqs_same r1 r2 h
    ·have hr:=SeqAt.RcAt.lists_lengths (A:=A) t1 t2 (by simp only[size_toArray,bne_iff_ne];omega) hu;have hn:=SeqAt.RcNeAt.lists_lengths (A:=A) t1 t2 (by simp only[size_toArray,bne_iff_ne];omega) hu;have ef:b=false:=by rw[hb];simp[hz]
     rw[ef];refine QgS hr hn λz=>? _;subst z;rw[h1]at h2;cases h2;omega
theorem QlD{dx dy:D}{b:Bool}(h:D.eq dx dy=some b)(ks:List Kd)(ds:List D):dx≠.dic ks ds:=by rintro rfl;cases dy<;>simp[D.eq,D.oth]at h
theorem QlC{dx dy:D}{b:Bool}(h:D.eq dx dy=some b)(ks:List Kd)(ds:List D):dy≠.dic ks ds:=by rintro rfl;cases dx<;>simp[D.eq,D.oth]at h
def Qot(X:Cx)(g:Bool->Bool):R2:=λx y H Q=>∃F dx dy b,Sm F H/\RdD X.K F H x dx/\RdD X.K F H y dy/\dx.dep<=40/\D.eq dx dy=some b/\Q (.bl (g b)) H
theorem V1(hu:X.A.units+64<cLine):OpR X (compareOp .Eq) (Qot X id)/\Op2 X (Qot X id) D.eqO:=by
 refine⟨λaa s σ H x y v u Q I rx ry⟨F,dx,dy,b,sm,r1,r2,hd,h,q⟩=>?_,λF H x y dx dy d Q sm rx ry e k=>?_⟩
 ·have:=(QnY I 40 dx dy x y v u X.A b hd (by omega) (r1.rep sm (QlD h)) (r2.rep sm (QlC h)) rx ry h).1;exact this X.prog X.w X.xe _ ⟨.bl b,H,I,rfl,q⟩
 ·simp only[D.eqO]at e;split at e
  ·rename_i hd;obtain⟨b,e1,rfl⟩:=Zi e;exact⟨F,dx,dy,b,sm,rx,ry,hd,e1,k _ F H (.refl sm) (.bl b)⟩
  ·cases e
theorem Qp0(hu:X.A.units+64<cLine):OpR X (compareOp .NotEq) (Qot X (!·))/\Op2 X (Qot X (!·)) D.neO:=by
 refine⟨λaa s σ H x y v u Q I rx ry⟨F,dx,dy,b,sm,r1,r2,hd,h,q⟩=>?_,λF H x y dx dy d Q sm rx ry e k=>?_⟩
 ·have:=(QnY I 40 dx dy x y v u X.A b hd (by omega) (r1.rep sm (QlD h)) (r2.rep sm (QlC h)) rx ry h).2.2;exact this X.prog X.w X.xe _ ⟨.bl (!b),H,I,rfl,q⟩
 ·simp only[D.neO]at e;split at e
  ·rename_i hd;obtain⟨b,e1,rfl⟩:=Zi e;exact⟨F,dx,dy,b,sm,rx,ry,hd,e1,k _ F H (.refl sm) (.bl (!b))⟩
  ·cases e
end
theorem Qsc(A:Around)(s:Shared)(a:Int)(t:Tok)(c:Int)(u:Tok)(prog:Program)(w:World)(E:Value->Shared->Prop)(Q:Value->Shared->Prop)(h:Q (.bool (decide (a<=c))) s):wpAny (model prog w) A (richCompare .LtE (.int a t) (.int c u)) Q E s:=(PyProof.Rows.le_int h:wpAny (model prog w) A (compareOp .LtE (.int a t) (.int c u)) Q E s)
section
open PySem.SeqAt
open PySem.AutoSeq1(wpAny_loadPart')
open PySem.MeetsSeq PySem.MeetsSeq2 PySem.MeetsSeq3
theorem Qpf(x y:Int)(xs ys:List Int):Qad (x::xs) (y::ys)=if x=y then Qad xs ys else decide (x<y):=rfl
theorem Qj4(l b:Addr)(items aZ:Array Value)(n n2:Nat)(dd fm:Option Addr)(sl eL:Array (Option Value))(ns ms:List Int)(hi:IntsAre items.toList ns)(hj:IntsAre aZ.toList ms):Meets (Builtin.«tuple.__le__» ⟨[.ref l,.ref b],[]⟩) (λ_ R s=>s.heap.get? l=some {cls:=.type "tuple",dict:=dd,data:=.seq items n,slots:=sl}/\s.heap.get? b=some {cls:=.type "tuple",dict:=fm,data:=.seq aZ n2,slots:=eL}/\R (.ok (.ret (.bool (Qad ns ms)))) s):=.of_wp λprog w A R s h=>by
  obtain⟨hp,g,d,tk,os⟩:=s;obtain⟨hl,hb,h⟩:=h;have f2:=AutoSeq1.sub_tuple_tuple;have z1:items.size=ns.length:=by rw[<-hi.length];simp
  have z2:aZ.size=ms.length:=by rw[<-hj.length];simp
  wp_walk using wpAny_loadPart' hl,wpAny_loadPart' hb,wpAny_forIn_list _ (λJq b s'=>b.1=none/\s'=⟨hp,g,d,tk,os⟩/\∃(vs ws:List Value)(eN eO:List Int),Jq=vs.zip ws/\IntsAre vs eN/\IntsAre ws eO/\eN.length+aZ.size=eO.length+items.size/\R (.ok (.ret (.bool (Qad eN eO)))) ⟨hp,g,d,tk,os⟩) _;case turn=>rintro⟨y,x⟩Jq b s'⟨ef,rfl,vs,ws,eN,eO,hz,hV,hU,hlen,hR⟩;cases hV with|nil=>rw[List.zip_nil_left]at hz;cases hz|cons a t iU=>cases hU with|nil=>rw[List.zip_nil_right]at hz;cases hz|cons c u iS=>
     rw[zip_cons_cons]at hz;injection hz with kB gc;injection kB with hy hx;subst hy hx;rw[Qpf]at hR;simp only[length_cons]at hlen;obtain⟨e,he,f6⟩:=HT.eqAt_int A.in1 ⟨hp,g,d,tk,os⟩ a t c u;refine wpAny_bind (he prog w _ _ ?_);cases e with
     |true=>rw[if_pos (f6.mp rfl)]at hR;wp_walk;exact⟨rfl,rfl,_,_,_,_,gc,iU,iS,by omega,hR⟩|false=>
      have lG:a≠c:=λq=>absurd (f6.mpr q) Bool.false_ne_true;rw[if_neg lG]at hR;have hd:decide (a<c)=decide (a<=c):=by
       by_cases z:a<c;·rw[decide_eq_true z,decide_eq_true (by omega)]
       ·rw[decide_eq_false z,decide_eq_false (by omega)]
      rw[hd]at hR;have kK:=Qsc A.in1 ⟨hp,g,d,tk,os⟩ a t c u prog w;wp_walk using kK;exact⟨_,rfl,by simpa using hR⟩
  case fin=>
   rintro⟨b1,b2⟩s'⟨ef,rfl,vs,ws,eN,eO,hz,hV,hU,hlen,hR⟩;simp only at ef;subst ef;have hv:Qad eN eO=decide (items.size<=aZ.size):=by cases hV with
    |nil=>simp only[length_nil]at hlen;show true=_;exact(decide_eq_true (by omega)).symm|cons a t hv=>cases hU with
     |nil=>simp only[length_nil,length_cons]at hlen;show false=_;exact(decide_eq_false (by omega)).symm|cons c u hw=>
      rw[zip_cons_cons]at hz;cases hz
   rw[hv]at hR;wp_walk;exact⟨_,rfl,by simpa[Builtin.Tuple.tupleCompareSizes]using hR⟩
  case h=>exact⟨rfl,rfl,items.toList,aZ.toList,ns,ms,rfl,hi,hj,by omega,h⟩
end
theorem Qpg{prog:Program}{w:World}{A:Around}{E:Value->Shared->Prop}{s:Shared}{l b:Addr}{items aZ:Array Value}{ns ms:List Int}{Q:Value->Shared->Prop}(hl:IsTup s.heap l items)(hb:IsTup s.heap b aZ)(hi:IntsAre items.toList ns)(hj:IntsAre aZ.toList ms)(hu:A.units<cLine)(h:Q (.bool (Qad ns ms)) s):wpAny (model prog w) A (compareOp .LtE (.ref l) (.ref b)) Q E s:=by obtain⟨⟨cls,dd,data,sl⟩,ho,hc,n,hd⟩:=id hl;obtain⟨⟨jd,fm,data2,eL⟩,de,fK,n2,hd2⟩:=id hb;simp only at hc hd fK hd2;subst hc hd fK hd2;exact richCompare_meets_room (op:=.LtE) ⟨_,ho,rfl⟩ ⟨_,de,rfl⟩ PySem.F.slot_tuple_le PySem.F.entry_tuple_le (PySem.F.args_tuple_le_2 _ _) (Qj4 l b items aZ n n2 dd fm sl eL ns ms hi hj) ⟨ho,de,show Value.bool (Qad ns ms)≠Value.notImplemented/\Q (.bool (Qad ns ms)) s from⟨(λx=>nomatch x),h⟩⟩ hu
section
variable{X:Cx}{O:List Nat}{e a b c:Expr}{pos:Pos}
def QrK(K:Fg):R2:=λx y H Q=>∃a b ns ms,x=.ref a/\y=.ref b/\SqT K H a (ns.map V.int)/\SqT K H b (ms.map V.int)/\Q (.bl (Qad ns ms)) H
theorem QvZ(hu:X.A.units<cLine):OpR X (compareOp .LtE) (QrK X.K):=by intro aa s σ H x y v u Q I rx ry h;obtain⟨a,b,ns,ms,rfl,rfl,ha,hb,q⟩:=h;cases rx;cases ry;obtain⟨its,r1,p1,_⟩:=I.tuple ha;obtain⟨bK,r2,p2,_⟩:=I.tuple hb;have i1:IntsAre its.toArray.toList ns:=QhW r1;have i2:IntsAre bK.toArray.toList ms:=QhW r2;exact Qpg p1 p2 i1 i2 hu ⟨.bl (Qad ns ms),H,I,rfl,q⟩
theorem QdD(hu:X.A.units<cLine):OpR X (compareOp .LtE) (λx y H Q=>(rI0 λi j=>.bl (decide (i<=j))) x y H Q\/QrK X.K x y H Q)/\Op2 X (λx y H Q=>(rI0 λi j=>.bl (decide (i<=j))) x y H Q\/QrK X.K x y H Q) D.le:=by
 refine⟨OpR.or Qw0 (QvZ hu),λF H x y dx dy d Q s rx ry e k=>?_⟩;cases dx<;>cases dy<;>try(simp[D.le]at e;done)
 case int.int i j=>cases e;exact .inl ⟨i,j,rx.int,ry.int,k _ F H (.refl s) (.bl _)⟩
 case tup.tup xs ys=>
  simp only[D.le]at e;split at e
  ·rename_i na nb e1 e2;cases e;obtain⟨p,us,rfl,h1,r1⟩:=rx.tup;obtain⟨q,ws,rfl,h2,r2⟩:=ry.tup;have z1:=r1.intsOf e1;have z2:=r2.intsOf e2;subst z1 z2;exact .inr ⟨p,q,na,nb,rfl,rfl,SqT.of (s _ _ h1),SqT.of (s _ _ h2),k _ F H (.refl s) (.bl _)⟩
  ·cases e
theorem Qxz{ev:EvE}{σ:L2.St}{H:Hp}{Q:Bool->Hp->Prop}(h:tDT X O ev σ H Q):tD X O ev σ H λx H'=>∃k,x=.bl k/\Q k H':=by obtain⟨F0,F,en,b,rs,w,k⟩:=h;refine⟨F0,F,en,.bl b,rs,w,λv F' H' g r=>?_⟩;cases r;exact⟨b,rfl,k F' H' g⟩
theorem Qxw{ev:EvE}{σ:L2.St}{H:Hp}{Q:Bool->Hp->Prop}(h:tDT X O ev σ H Q):tR X O ev σ H λx H'=>∃k,x=.bl k/\Q k H':=by obtain⟨F0,F,en,b,rs,w,k⟩:=h;refine⟨F0,F,en,.bl b,rs,w,λv F' H' g r=>?_⟩;exact⟨b,r.bl,k F' H' g⟩
theorem Vg{op:CmpOp}{r:R2}{g:D->D->Option D}{ea eb:EvE}(ho:OpR X (compareOp op) r/\Op2 X r g)(ha:PE X a (tR X O ea))(hb:PE X b (tR X O eb))(hm:behindInMarks op b=false):PT X (.Compare a [op] [b] pos) (tDT X O (eOp g ea eb)):=PT.imp (QtP ho.1 ha hb hm) λσ H Q h=>Qkv ho.2 (Qxz h)
theorem Jy{ev:EvE}(h:PE X e (tR X O ev))(he:∀whole,isTrue e X.env whole=(do let v<-whole;standAt e.pos;holding [v] (truthy v)):=by intro _;rfl):PT X e (tDT X O ev):=PT.imp (QvH h he) λσ H Q h=>Qxw h
theorem Y2{α:Type}{o:Option D}{x y:Option α}{r:α}(h:ifO o x y=some r):∃c,o=some (.bl c)/\(if c=true then x else y)=some r:=by cases o with|none=>cases h|some d=>cases d with|bl c=>exact⟨c,rfl,h⟩|_=>cases h
theorem tDT.of{ev:EvE}{F0:Fz}{F:Hp}{en:Qj}{σ:L2.St}{H:Hp}{Q:Bool->Hp->Prop}{b:Bool}(rs:RS X.K X.H₀ F0 F H σ en O)(w:ev en=some (.bl b))(k:∀F' H',Gr F H F' H'->Q b H'):tDT X O ev σ H Q:=⟨F0,F,en,b,rs,w,k⟩
theorem Qxp{ea eb:EvE}{σ:L2.St}{H:Hp}{Q:Bool->Hp->Prop}(h:tDT X O (QM ea eb) σ H Q):Qvb (tDT X O ea) (tDT X O eb) σ H Q:=by obtain⟨F0,F,en,b,rs,w,k⟩:=h;obtain⟨c,e1,e2⟩:=Y2 w;refine⟨F0,F,en,c,rs,e1,λF1 H1 g1=>?_⟩;cases c with|true=>exact Qe2 (.of (rs.grow g1) e2 λF' H' g=>k F' H' (g1.trans g))|false=>cases e2;exact Qcj (k F1 H1 g1)
theorem QxJ{ea eb:EvE}{σ:L2.St}{H:Hp}{Q:Bool->Hp->Prop}(h:tDT X O (eOr ea eb) σ H Q):tOr (tDT X O ea) (tDT X O eb) σ H Q:=by obtain⟨F0,F,en,b,rs,w,k⟩:=h;obtain⟨c,e1,e2⟩:=Y2 w;refine⟨F0,F,en,c,rs,e1,λF1 H1 g1=>?_⟩;cases c with|true=>cases e2;exact Qe2 (k F1 H1 g1)|false=>exact Qcj (.of (rs.grow g1) e2 λF' H' g=>k F' H' (g1.trans g))
theorem Zw{ev:EvE}{op}(h:PT X a (tDT X O ev)):PW X (.BoolOp op [a] pos) (tDT X O ev):=by
 cases op;·exact QtN h
 ·exact QvF h
theorem V2{Jq:List Expr}{ea eb:EvE}(ha:PT X a (tDT X O ea))(hb:PW X (.BoolOp .And (b::Jq) pos) (tDT X O eb)):PW X (.BoolOp .And (a::b::Jq) pos) (tDT X O (QM ea eb)):=PW.imp (QvG ha hb) λσ H Q h=>Qxp h
theorem QaD{Jq:List Expr}{ea eb:EvE}(ha:PT X a (tDT X O ea))(hb:PW X (.BoolOp .Or (b::Jq) pos) (tDT X O eb)):PW X (.BoolOp .Or (a::b::Jq) pos) (tDT X O (eOr ea eb)):=PW.imp (QwT ha hb) λσ H Q h=>QxJ h
theorem QbG{ev:EvE}(ha:PT X a (tDT X O ev)):PT X (.UnaryOp .Not a pos) (tDT X O (Ja ev)):=PT.imp (QvJ ha) λσ H Q⟨F0,F,en,b,rs,w,k⟩=>by have w':QgB (ev en)=some (.bl b):=w;cases q:ev en with|none=>rw[q]at w';cases w'|some d=>rw[q]at w';cases d with|bl c=>cases w';exact⟨F0,F,en,c,rs,q,k⟩|_=>cases w'
theorem Qcq{ev:EvE}{op}(h:PE X a (tD X O ev)):PE X (.BoolOp op [a] pos) (tD X O ev):=QvQ h
theorem QdF{Jq:List Expr}{ea eb:EvE}(ha:PE X a (tR X O ea))(hb:PE X (.BoolOp .And (b::Jq) pos) (tD X O eb)):PE X (.BoolOp .And (a::b::Jq) pos) (tD X O (QM ea eb)):=PE.imp (QvT ha hb) λσ H Q⟨F0,F,en,d,rs,w,k⟩=>by obtain⟨c,e1,e2⟩:=Y2 w;refine⟨F0,F,en,.bl c,rs,e1,λv F1 H1 g1 r1=>⟨c,r1.bl,?_⟩⟩;cases c with|true=>exact Qe2 ⟨F0,F1,en,d,rs.grow g1,e2,λv F' H' g r=>k v F' H' (g1.trans g) r⟩|false=>cases e2;exact Qcj (k _ F1 H1 g1 (.bl _))
theorem Qxi{Jq:List Expr}{ea eb:EvE}(ha:PE X a (tR X O ea))(hb:PE X (.BoolOp .Or (b::Jq) pos) (tD X O eb)):PE X (.BoolOp .Or (a::b::Jq) pos) (tD X O (eOr ea eb)):=PE.imp (QwW ha hb) λσ H Q⟨F0,F,en,d,rs,w,k⟩=>by obtain⟨c,e1,e2⟩:=Y2 w;refine⟨F0,F,en,.bl c,rs,e1,λv F1 H1 g1 r1=>⟨c,r1.bl,?_⟩⟩;cases c with|true=>cases e2;exact Qe2 (k _ F1 H1 g1 (.bl _))|false=>exact Qcj ⟨F0,F1,en,d,rs.grow g1,e2,λv F' H' g r=>k v F' H' (g1.trans g) r⟩
theorem Qwz{ev:EvE}(ha:PE X a (tR X O ev)):PE X (.UnaryOp .Not a pos) (tD X O (Ja ev)):=PE.imp (QvR ha) λσ H Q⟨F0,F,en,d,rs,w,k⟩=>by have w':QgB (ev en)=some d:=w;cases q:ev en with|none=>rw[q]at w';cases w'|some x=>rw[q]at w';cases x with|bl c=>cases w';exact⟨F0,F,en,.bl c,rs,q,λv F' H' g r=>⟨c,r.bl,k _ F' H' g (.bl _)⟩⟩|_=>cases w'
theorem QkD{ec ea eb:EvE}(hc:PT X c (tDT X O ec))(ha:PE X a (tD X O ea))(hb:PE X b (tD X O eb)):PE X (.IfExp c a b pos) (tD X O (eIf ec ea eb)):=PE.imp (Qsk hc ha hb) λσ H Q⟨F0,F,en,d,rs,w,k⟩=>by obtain⟨c,e1,e2⟩:=Y2 w;refine⟨F0,F,en,c,rs,e1,λF1 H1 g1=>?_⟩;cases c with|true=>exact Qe2 ⟨F0,F1,en,d,rs.grow g1,e2,λv F' H' g r=>k v F' H' (g1.trans g) r⟩|false=>exact Qcj ⟨F0,F1,en,d,rs.grow g1,e2,λv F' H' g r=>k v F' H' (g1.trans g) r⟩
theorem QaH{ev:EvE}(ha:PE X a (tR X O ev)):PE X (.UnaryOp .USub a pos) (tD X O (eUn D.neg ev)):=PE.imp (QwV Qvp ha) λσ H Q⟨F0,F,en,d,rs,w,k⟩=>by obtain⟨x,e1,e2⟩:=QY w;cases x with|int i=>cases e2;exact⟨F0,F,en,.int i,rs,e1,λv F' H' g r=>⟨i,r.int,k _ F' H' g (.int _)⟩⟩|_=>cases e2
theorem Qu4{g g':D->D->Option D}{r r':R2}{ea eb ec:EvE}(ho:Op2 X r g)(cB:Op2 X r' g'){σ:L2.St}{H:Hp}{Q:VK}(h:tD X O (JR g g' ea eb ec) σ H Q):QpO r r' (tR X O ea) (tR X O eb) (tR X O ec) σ H Q:=by obtain⟨F0,F,en,d,rs,w,k⟩:=h;obtain⟨dx,dy,e1,e2,e3⟩:=QbY w;obtain⟨c,e4,e5⟩:=Y2 e3;refine⟨F0,F,en,dx,rs,e1,λx F1 H1 g1 r1=>?_⟩;refine⟨F0,F1,en,dy,rs.grow g1,e2,λy F2 H2 g2 r2=>?_⟩;refine ho F2 H2 x y dx dy (.bl c) _ g2.fh (r1.gr g2) r2 e4 λv F3 H3 g3 r3=>?_;cases r3;refine⟨c,rfl,?_⟩;have dJ:=(g1.trans g2).trans g3;cases c with|true=>obtain⟨dz,e6,e7⟩:=QY e5;refine Qe2 ⟨F0,F3,en,dz,rs.grow dJ,e6,λz F4 H4 g4 r4=>?_⟩;exact cB F4 H4 y z dy dz d _ g4.fh ((r2.gr g3).gr g4) r4 e7 λv F' H' g5 r5=>k v F' H' ((dJ.trans g4).trans g5) r5|false=>cases e5;exact Qcj (k _ F3 H3 dJ (.bl _))
theorem QlH{op dX:CmpOp}{g g':D->D->Option D}{r r':R2}{ea eb ec:EvE}(ho:OpR X (compareOp op) r/\Op2 X r g)(cB:OpR X (compareOp dX) r'/\Op2 X r' g')(ha:PE X a (tR X O ea))(hb:PE X b (tR X O eb))(hc:PE X c (tR X O ec))(hm:lastMarks [op,dX] [b,c]=false:=by with_unfolding_all rfl):PE X (.Compare a [op,dX] [b,c] pos) (tD X O (JR g g' ea eb ec)):=PE.imp (Qsm ho.1 cB.1 ha hb hc hm) λσ H Q h=>Qu4 ho.2 cB.2 h
theorem Dz:PA X [] (tL X O lN):=PA.imp ZI λσ H Q⟨F0,F,en,ds,rs,w,k⟩=>by cases w;exact k [] F H (.refl rs.fh) .nil
theorem VT{es:List Expr}{ea:EvE}{l:EvL}(ha:PE X a (tD X O ea))(hr:PA X es (tL X O l))(hs:starEach (a::es) X.env=(false,eval a X.env)::starEach es X.env:=by rfl):PA X (a::es) (tL X O (lC ea l)):=PA.imp (Jw ha hr hs) λσ H Q⟨F0,F,en,ds,rs,w,k⟩=>by obtain⟨d,e1,e2⟩:=QY w;obtain⟨ck,e3,rfl⟩:=Zi e2;refine⟨F0,F,en,d,rs,e1,λv F1 H1 g1 r1=>?_⟩;exact⟨F0,F1,en,ck,rs.grow g1,e3,λvs F2 H2 g2 r2=>k (v::vs) F2 H2 (g1.trans g2) (.cons (r1.mono g2.ff) r2)⟩
theorem QcD:∀(e:Qj)(d:List D),lN e=some d->d.length<=0:=λe d h=>by cases h;exact le_refl 0
theorem Z7{n:Nat}{ea:EvE}{l:EvL}(h:∀(e:Qj)(d:List D),l e=some d->d.length<=n):∀(e:Qj)(d:List D),lC ea l e=some d->d.length<=n+1:=λe d w=>by obtain⟨x,e1,e2⟩:=QY w;obtain⟨ds,e3,rfl⟩:=Zi e2;exact succ_le_succ (h e ds e3)
theorem QR{es:List Expr}{l:EvL}{x1}(h:PA X es (tL X O l))(hz:∀(e:Qj)(d:List D),l e=some d->d.length<=lI):PE X (.Tuple es x1 pos) (tD X O (Qm l)):=PE.imp (QkQ h) λσ H Q⟨F0,F,en,d,rs,w,k⟩=>by obtain⟨ds,e1,rfl⟩:=Zi w;refine⟨F0,F,en,ds,rs,e1,λvs F1 H1 g1 r1=>⟨by rw[r1.length,Ym];exact hz en ds e1,λp hp=>?_⟩⟩;have g:=Gr.new g1.fh hp (.tup vs);exact k _ _ _ (g1.trans g) (.tup QJ (r1.mono g.ff))
theorem Jd{es:List Expr}{l:EvL}(h:PA X es (tL X O l))(hz:∀(e:Qj)(d:List D),l e=some d->d.length<=lI):PE X (.List es pos) (tD X O (Qg l)):=PE.imp (Qfb h) λσ H Q⟨F0,F,en,d,rs,w,k⟩=>by obtain⟨ds,e1,rfl⟩:=Zi w;refine⟨F0,F,en,ds,rs,e1,λvs F1 H1 g1 r1=>⟨by rw[r1.length,Ym];exact hz en ds e1,λp hp=>?_⟩⟩;have g:=Gr.new g1.fh hp (.lst vs);exact k _ _ _ (g1.trans g) (.lst QJ (r1.mono g.ff))
theorem Yp{es:List Expr}{l:EvL}(h:PA X es (tL X O l))(hz:∀(e:Qj)(d:List D),l e=some d->d.length<=lI):PE X (.List es pos) (tO X O (Qg l)):=PE.imp (Qfb h) λσ H Q⟨F0,F,en,d,rs,w,k⟩=>by obtain⟨ds,e1,rfl⟩:=Zi w;refine⟨F0,F,en,ds,rs,e1,λvs F1 H1 g1 r1=>⟨by rw[r1.length,Ym];exact hz en ds e1,λp hp=>?_⟩⟩;have g:=Gr.newO g1.fh hp (.lst vs);exact k p none vs ds F1 _ (g1.trans g) (g1.hh.none hp) (g1.fh.none hp) QJ r1 rfl trivial
theorem Vm:PO X none (tOI X O oNo):=λaa s σ H Q I⟨F0,F,en,o,rs,w,k⟩=>by cases w;exact QtT aa s σ H Q I (k F H (.refl rs.fh))
theorem Vl{ev:EvE}(h:PE X e (tR X O ev)):PO X (some e) (tOI X O (oAt ev)):=λaa s σ H Q I⟨F0,F,en,o,rs,w,k⟩=>by obtain⟨d,e1,e2⟩:=QY w;cases d with|int i=>cases e2;exact QtS h aa s σ H Q I ⟨F0,F,en,.int i,rs,e1,λv F' H' g r=>⟨i,r.int,k F' H' g⟩⟩|_=>cases e2
theorem Qg2{K:Fg}{F:Hp}{xs:List V}{ds:List D}(r:Reps K F xs ds)(lo hi:Option Int):Reps K F (QbP xs lo hi) (Z1 ds lo hi):=by unfold QbP Z1;rw[r.length];exact(r.drop _).take _
def C1(X:Cx)(r:List V->Hp->VK->Prop)(g:D->Option D):Prop:=∀(F H:Hp)(x:V)(dx d:D)(Q:VK),Sm F H->RdD X.K F H x dx->g dx=some d->(∀v F' H',Gr F H F' H'->Rep X.K F' v d->Q v H')->r [x] H Q
theorem Qe0{ev:EvE}(ha:PE X a (tR X O ev))(hs:starEach [a] X.env=[(false,eval a X.env)]:=by rfl):PA X [a] (YY (tR X O ev) Qa6):=Jw ha ZI hs
theorem Jb{id:String}{x:Str}{p:Pos}{r:List V->Hp->VK->Prop}{g:D->Option D}{ev:EvE}(hc:CallR X (.builtin id) r/\C1 X r g)(hg:Gl X x)(hm:X.mg x=none)(hv:bootBuiltins x=some (.builtin id))(ha:PE X a (tR X O ev))(hn:x≠"__name__":=by decide)(bJ:(x==("__debug__":Str))=false:=by decide)(he:starEach [a] X.env=[(false,eval a X.env)]:=by rfl):PE X (.Call (.Name x p) [a] [] pos) (tD X O (eUn g ev)):=PE.imp (Qcv hc.1 hg hm hv (Qe0 ha he) hn bJ he rfl) λσ H Q⟨F0,F,en,d,rs,w,k⟩=>by obtain⟨dx,e1,e2⟩:=QY w;exact⟨F0,F,en,dx,rs,e1,λv F' H' g r=>hc.2 F' H' v dx d Q g.fh r e2 λv2 F2 H2 g2 r2=>k v2 F2 H2 (g.trans g2) r2⟩
theorem QhG{T:String}{x:Str}{p:Pos}{r:List V->Hp->VK->Prop}{g:D->Option D}{ev:EvE}(hc:CallR X (.type T) r/\C1 X r g)(hg:Gl X x)(hm:X.mg x=none)(hv:bootBuiltins x=some (.type T))(ha:PE X a (tR X O ev))(hn:x≠"__name__":=by decide)(bJ:(x==("__debug__":Str))=false:=by decide)(he:starEach [a] X.env=[(false,eval a X.env)]:=by rfl):PE X (.Call (.Name x p) [a] [] pos) (tD X O (eUn g ev)):=PE.imp (Qjt hc.1 hg hm hv (Qe0 ha he) hn bJ he rfl) λσ H Q⟨F0,F,en,d,rs,w,k⟩=>by obtain⟨dx,e1,e2⟩:=QY w;exact⟨F0,F,en,dx,rs,e1,λv F' H' g r=>hc.2 F' H' v dx d Q g.fh r e2 λv2 F2 H2 g2 r2=>k v2 F2 H2 (g.trans g2) r2⟩
theorem QI:CallR X (.builtin "len") (λxs H Q=>(∃p ys,xs=[.ref p]/\(SqL X.K H p ys\/SqT X.K H p ys)/\Q (.int ys.length) H)\/∃z,xs=[.str z]/\z.length<=sizeLine/\Q (.int z.length) H)/\C1 X (λxs H Q=>(∃p ys,xs=[.ref p]/\(SqL X.K H p ys\/SqT X.K H p ys)/\Q (.int ys.length) H)\/∃z,xs=[.str z]/\z.length<=sizeLine/\Q (.int z.length) H) D.len:=by refine⟨CallR.or QmC QmB,λF H x dx d Q s rx e k=>?_⟩;cases dx with
 |str z=>
  simp only[D.len]at e;split at e
  ·rename_i hz;cases e;exact .inr ⟨z,by rw[rx.str],by rw[Ym];exact hz,k _ F H (.refl s) (.int _)⟩
  ·cases e|tup ds=>cases e;obtain⟨p,xs,rfl,h,r⟩:=rx.tup;exact .inl ⟨p,xs,rfl,.inr (SqT.of (s _ _ h)),by rw[r.length];exact k _ F H (.refl s) (.int _)⟩|lst ds=>cases e;obtain⟨p,xs,rfl,h,r⟩:=rx.lst s;exact .inl ⟨p,xs,rfl,.inl (SqL.of h),by rw[r.length];exact k _ F H (.refl s) (.int _)⟩|scr ns=>cases e;obtain⟨p,rfl,h⟩:=rx.scr;exact .inl ⟨p,_,rfl,.inl (s.sqL h),by rw[length_map];exact k _ F H (.refl s) (.int _)⟩|_=>cases e
theorem log2_lt{n:Nat}(h:n<2^1900):n.log2<1920:=by
 by_cases z:n=0;·subst z;decide
 ·have:=Nat.log2_lt z (k:=1900).mpr h;omega
theorem QjP:CallR X (.type "str") (λxs H Q=>∃i,xs=[.int i]/\i.natAbs.log2<1920/\Q (.str (toString i)) H)/\C1 X (λxs H Q=>∃i,xs=[.int i]/\i.natAbs.log2<1920/\Q (.str (toString i)) H) D.strI:=by
 refine⟨Qmz,λF H x dx d Q s rx e k=>?_⟩;cases dx with
 |int i=>
  simp only[D.strI]at e;split at e
  ·rename_i hz;cases e;exact⟨i,by rw[rx.int],log2_lt hz,k _ F H (.refl s) (.str _)⟩
  ·cases e|_=>cases e
theorem QjQ:CallR X (.type "int") (λxs H Q=>(∃i,xs=[.int i]/\Q (.int i) H)\/∃k,xs=[.bl k]/\Q (.int (if k then 1 else 0)) H)/\C1 X (λxs H Q=>(∃i,xs=[.int i]/\Q (.int i) H)\/∃k,xs=[.bl k]/\Q (.int (if k then 1 else 0)) H) D.intB:=by refine⟨QrB,λF H x dx d Q s rx e k=>?_⟩;cases dx with|int i=>cases e;exact .inl ⟨i,by rw[rx.int],k _ F H (.refl s) (.int _)⟩|bl b=>cases e;exact .inr ⟨b,by rw[rx.bl],k _ F H (.refl s) (.int _)⟩|_=>cases e
def C2(X:Cx)(r:List V->Hp->VK->Prop)(g:D->D->Option D):Prop:=∀(F H:Hp)(x y:V)(dx dy d:D)(Q:VK),Sm F H->RdD X.K F H x dx->RdD X.K F H y dy->g dx dy=some d->(∀v F' H',Gr F H F' H'->Rep X.K F' v d->Q v H')->r [x,y] H Q
theorem QbW{id:String}{x:Str}{p:Pos}{r:List V->Hp->VK->Prop}{g:D->D->Option D}{ea eb:EvE}(hc:CallR X (.builtin id) r/\C2 X r g)(hg:Gl X x)(hm:X.mg x=none)(hv:bootBuiltins x=some (.builtin id))(ha:PE X a (tR X O ea))(hb:PE X b (tR X O eb))(hn:x≠"__name__":=by decide)(bJ:(x==("__debug__":Str))=false:=by decide)(he:starEach [a,b] X.env=[(false,eval a X.env),(false,eval b X.env)]:=by rfl)(cR:starEach [b] X.env=[(false,eval b X.env)]:=by rfl):PE X (.Call (.Name x p) [a,b] [] pos) (tD X O (eOp g ea eb)):=PE.imp (Qcv hc.1 hg hm hv (Jw ha (Qe0 hb cR) (by rw[he,cR])) hn bJ (by rw[he,cR]) (by rw[cR];rfl)) λσ H Q⟨F0,F,en,d,rs,w,k⟩=>by obtain⟨dx,dy,e1,e2,e3⟩:=QbY w;refine⟨F0,F,en,dx,rs,e1,λv F1 H1 g1 r1=>?_⟩;exact⟨F0,F1,en,dy,rs.grow g1,e2,λu F2 H2 g2 r2=>hc.2 F2 H2 v u dx dy d Q g2.fh (r1.gr g2) r2 e3 λv3 F3 H3 g3 r3=>k v3 F3 H3 ((g1.trans g2).trans g3) r3⟩
theorem Yt(hc:X.calm=true):CallR X (.builtin "max") (λxs H Q=>∃i j,xs=[.int i,.int j]/\Q (.int (if j>i then j else i)) H)/\C2 X (λxs H Q=>∃i j,xs=[.int i,.int j]/\Q (.int (if j>i then j else i)) H) D.max2:=by
 refine⟨QrA hc,λF H x y dx dy d Q s rx ry e k=>?_⟩;cases dx<;>cases dy<;>try(simp[D.max2]at e;done)
 case int.int i j=>cases e;exact⟨i,j,by rw[rx.int,ry.int],k _ F H (.refl s) (.int _)⟩
noncomputable def QwS(X:Cx)(T:String):List V->Hp->VK->Prop:=λxs H Q=>∃x t b,xs=[x,.ty T]/\TyOf X.K H x t/\W.kitOne X.K t (.type T)=some b/\Q (.bl b) H
theorem QpH(T:String):CallR X (.builtin "isinstance") (QwS X T):=by intro aa s σ H xs us Q I r⟨x,t,b,hx,ty,e,q⟩;subst hx;obtain⟨u,w,rfl,rx,cm⟩:=Qkn r;cases show w=Value.type T from cm;exact Qra I rx ty e λtk=>⟨.bl b,H,I.tok tk,rfl,q⟩
def Kit(K:Fg)(T:String):Prop:=∀d:D,(∀ns,d≠.scr ns)->W.kitOne K (.type (tyD d)) (.type T)=some (decide (tyD d=T)||decide (T="int")&&decide (tyD d="bool"))
theorem Qtw{F H:Hp}{x:V}{d:D}(s:Sm F H)(hd:∀ns,d≠.scr ns)(r:RdD X.K F H x d):TyOf X.K H x (.type (tyD d)):=by cases d with|non=>rw[r.non];exact .non|bl b=>rw[r.bl];exact .bl b|int i=>rw[r.int];exact .int i|str z=>rw[r.str];exact .str z|tup ds=>obtain⟨p,xs,rfl,h,_⟩:=r.tup;exact .tup (s _ _ h)|lst ds=>obtain⟨p,xs,rfl,h,_⟩:=r.lst s;exact .lst h|dic ks ds=>obtain⟨p,xs,rfl,h,_⟩:=r.dic s;rcases h with h|⟨o,h⟩;exact .dK h;exact .frzD h|scr ns=>exact absurd rfl (hd ns)
theorem Qcd{T:String}{x y:Str}{p p2:Pos}{ev:EvE}(kt:Kit X.K T)(hg:Gl X x)(hm:X.mg x=none)(hv:bootBuiltins x=some (.builtin "isinstance"))(lh:Gl X y)(fH:X.mg y=none)(hZ:bootBuiltins y=some (.type T))(ha:PE X a (tR X O ev))(hn:x≠"__name__":=by decide)(bJ:(x==("__debug__":Str))=false:=by decide)(gE:y≠"__name__":=by decide)(i6:(y==("__debug__":Str))=false:=by decide)(he:starEach [a,.Name y p2] X.env=[(false,eval a X.env),(false,eval (.Name y p2) X.env)]:=by rfl)(cR:starEach [.Name y p2] X.env=[(false,eval (.Name y p2) X.env)]:=by rfl):PE X (.Call (.Name x p) [a,.Name y p2] [] pos) (tD X O (JO T ev)):=PE.imp (Qcv (QpH T) hg hm hv (Jw ha (Jw (Qt1 lh fH hZ (show RelV (.ty T) (.type T)from rfl) gE i6) ZI cR) (by rw[he,cR])) hn bJ (by rw[he,cR]) (by rw[cR];rfl)) λσ H Q⟨F0,F,en,d,rs,w,k⟩=>by
  obtain⟨dx,e1,e2⟩:=QY w;have hs:(∀ns,dx≠.scr ns)/\d=.bl (decide (tyD dx=T)||(decide (T="int")&&decide (tyD dx="bool"))):=by cases dx with|scr ns=>cases e2|_=>cases e2;exact⟨(λ_ z=>nomatch z),rfl⟩
  refine⟨F0,F,en,dx,rs,e1,λv F1 H1 g1 r1=>?_⟩;refine⟨v,_,_,rfl,Qtw g1.fh hs.1 r1,kt dx hs.1,?_⟩;rw[hs.2]at k;exact k _ F1 H1 g1 (.bl _)
end
structure Ex(H₀:Hp)(F0:Fz)(F H:Hp):Prop where
 fh:Sm F H
 hh:Sm F0.h H
 ff:Sm F0.f F
 fr:∀a o,F a=some o->F0.f a=some o\/F0.h a=none
theorem RS.ex{K:Fg}{H₀:Hp}{F0:Fz}{F H:Hp}{σ:L2.St}{e:Qj}{O:List Nat}(r:RS K H₀ F0 F H σ e O):Ex H₀ F0 F H:=⟨r.fh,r.hh,r.ff,r.fr⟩
theorem Ex.gr{H₀:Hp}{F0:Fz}{F H:Hp}(x:Ex H₀ F0 F H):Gr F0.f F0.h F H:=⟨x.ff,x.hh,x.fh,x.fr⟩
def QrT(K:Fg)(H₀ F H:Hp)(w:Bool)(v:V)(d:D):Prop:=if w=true then∃p k xs ds,v=.ref p/\H₀ p=none/\F p=none/\H p=some (ho k xs)/\Reps K F xs ds/\d=dOf k ds/\Vv k xs else Rep K F v d
def FlOk(X:Cx)(O' OL:List Nat)(w:Bool)(F0:Fz)(F:Hp)(Dn:Ends):Fl->Prop|.nx e'=>∀σ' F' H',Sm F F'->RS X.K X.H₀ F0 F' H' σ' e' O'->Dn.nx σ' H'|.bk e'=>∀σ' F' H',Sm F F'->RS X.K X.H₀ F0 F' H' σ' e' OL->Dn.bk σ' H'|.ct e'=>∀σ' F' H',Sm F F'->RS X.K X.H₀ F0 F' H' σ' e' OL->Dn.ct σ' H'|.rt d=>∀v F' H',Ex X.H₀ F0 F' H'->QrT X.K F0.h F' H' w v d->Dn.rt v H'
def tS(X:Cx)(O O' OL:List Nat)(w:Bool)(b:EvS):TS:=λDn σ H=>∃F0 F e fl,RS X.K X.H₀ F0 F H σ e O/\b e=some fl/\FlOk X O' OL w F0 F Dn fl
theorem FlOk.mono{X:Cx}{O' OL:List Nat}{w:Bool}{F0:Fz}{F F1:Hp}{Dn:Ends}{fl:Fl}(h:FlOk X O' OL w F0 F Dn fl)(s:Sm F F1):FlOk X O' OL w F0 F1 Dn fl:=by cases fl with|nx e=>exact λσ' F' H' q r=>h σ' F' H' (s.trans q) r|bk e=>exact λσ' F' H' q r=>h σ' F' H' (s.trans q) r|ct e=>exact λσ' F' H' q r=>h σ' F' H' (s.trans q) r|rt d=>exact h
section
variable{X:Cx}{O O1 O2 O' OL:List Nat}{w:Bool}{st:Stmt}{Jq:List Stmt}{e:Expr}{pos:Pos}
theorem Sn:PSs X [] (tS X O O OL w sNx):=PSs.imp QdJ λDn σ H⟨F0,F,en,fl,rs,z,k⟩=>by cases z;exact k σ F H (.refl _) rs
theorem So{b:EvS}(h:PS X st (tS X O O' OL w b)):PSs X [st] (tS X O O' OL w b):=Qf8 h
theorem Ss{a b:EvS}(h1:PS X st (tS X O O1 OL w a))(h2:PSs X Jq (tS X O1 O' OL w b)):PSs X (st::Jq) (tS X O O' OL w (sQ a b)):=PSs.imp (Qbb h1 h2) λDn σ H⟨F0,F,en,fl,rs,z,k⟩=>by have z':Qdg (a en) b=some fl:=z;cases q:a en with|none=>rw[q]at z';cases z'|some f1=>rw[q]at z';refine⟨F0,F,en,f1,rs,q,?_⟩;cases f1 with|nx e1=>exact λσ' F' H' s r=>⟨F0,F',e1,fl,r,z',k.mono s⟩|bk e1=>cases z';exact k|ct e1=>cases z';exact k|rt d=>cases z';exact k
theorem QuL:PS X (.Continue pos) (tS X O O' O w Yb):=PS.imp QmU λDn σ H⟨F0,F,en,fl,rs,z,k⟩=>by cases z;exact k σ F H (.refl _) rs
theorem RS.exg{K:Fg}{H₀:Hp}{F0:Fz}{F H F' H':Hp}{σ:L2.St}{e:Qj}{O:List Nat}(r:RS K H₀ F0 F H σ e O)(g:Gr F H F' H'):Ex H₀ F0 F' H':=(r.grow g).ex
theorem Ql{ev:EvE}(h:PE X e (tD X O ev)):PS X (.Return (some e) pos) (tS X O O' OL false (Qi ev)):=PS.imp (QpW h) λDn σ H⟨F0,F,en,fl,rs,z,k⟩=>by obtain⟨d,e1,rfl⟩:=Zi z;exact⟨F0,F,en,d,rs,e1,λv F' H' g r=>k v F' H' (rs.exg g) r⟩
theorem QuJ{ev:EvE}(h:PE X e (tO X O ev)):PS X (.Return (some e) pos) (tS X O O' OL true (Qi ev)):=PS.imp (QpW h) λDn σ H⟨F0,F,en,fl,rs,z,k⟩=>by obtain⟨d,e1,rfl⟩:=Zi z;exact⟨F0,F,en,d,rs,e1,λp kk xs ds F' H' g n1 n2 h r e2 hk=>k _ F' H' (rs.exg g) (show QrT X.K F0.h F' H' true (.ref p) d from⟨p,kk,xs,ds,rfl,rs.hh.none n1,n2,h,r,e2,hk⟩)⟩
theorem QiP{ev:EvE}(h:PE X e (tD X O ev))(hs:swapsWith e none pos.line X.env=pure false:=by rfl):PS X (.Expr e pos) (tS X O O OL w (J5 ev)):=PS.imp (VR h hs) λDn σ H⟨F0,F,en,fl,rs,z,k⟩=>by obtain⟨d,e1,rfl⟩:=Zi z;exact⟨F0,F,en,d,rs,e1,λv F' H' g r=>k σ F' H' g.ff (rs.grow g)⟩
theorem Qy{c:Expr}{a b:List Stmt}{ec:EvE}{ea eb:EvS}(hc:PT X c (tDT X O ec))(ha:PSs X a (tS X O O' OL w ea))(hb:PSs X b (tS X O O' OL w eb)):PS X (.If c a b pos) (tS X O O' OL w (sIf ec ea eb)):=PS.imp (Qho hc ha hb) λDn σ H⟨F0,F,en,fl,rs,z,k⟩=>by obtain⟨c,e1,e2⟩:=Y2 z;refine⟨F0,F,en,c,rs,e1,λF1 H1 g1=>?_⟩;cases c with|true=>exact Qe2 ⟨F0,F1,en,fl,rs.grow g1,e2,k.mono g1.ff⟩|false=>exact Qcj ⟨F0,F1,en,fl,rs.grow g1,e2,k.mono g1.ff⟩
noncomputable def dl(i:Nat)(O:List Nat):List Nat:=O.filter λj=>! j==i
noncomputable def ad(i:Nat)(O:List Nat):List Nat:=O.filter (λj=>decide (j<i))++i::O.filter λj=>decide (i<j)
theorem mem_dl{i j:Nat}:j∈dl i O↔j∈O/\j≠i:=by unfold dl;simp
theorem mem_ad{i j:Nat}:j∈ad i O↔j=i\/j∈O:=by
 unfold ad;simp only[mem_append,List.mem_filter,mem_cons,decide_eq_true_eq];constructor
 ·rintro(h|h|h);·exact .inr h.1
  ·exact .inl h
  ·exact .inr h.1
 ·rintro(h|h);·exact .inr (.inl h)
  ·rcases Nat.lt_trichotomy j i with z|z|z;·exact .inl ⟨h,z⟩
   ·exact .inr (.inl z)
   ·exact .inr (.inr ⟨h,z⟩)
theorem JT{α:Type}{l:List α}{i j:Nat}{x:α}(hi:i<l.length):(l.set i x)[j]?=if i=j then some x else l[j]?:=by
 rw[getElem?_set];split;·rename_i h;subst h;simp[hi]
 ·rfl
theorem RS.put{K:Fg}{H₀:Hp}{F0:Fz}{F H:Hp}{σ:L2.St}{en:Qj}{i:Nat}{v:V}{d:D}(r:RS K H₀ F0 F H σ en O)(h:Rep K F v d)(hi:i<en.length)(hq:Q4 i∉O):RS K H₀ F0 F H (σ.set i (some v)) (en.set i (some d)) (dl i O)where
 fh:=r.fh
 hh:=r.hh
 ff:=r.ff
 fr:=r.fr
 slot:=λj d' e1 hj=>by
  rw[JT hi]at e1;rw[JT (by rw[r.len];exact hi)];split at e1;·rename_i z;cases e1;rw[if_pos z];exact⟨v,rfl,h⟩
  ·rename_i z;rw[if_neg z];exact r.slot j d' e1 λq=>hj (mem_dl.mpr ⟨q,λw=>z w.symm⟩)
 own:=λj d' e1 hj=>by
  obtain⟨h1,h2⟩:=mem_dl.mp hj;rw[JT hi,if_neg (Ne.symm h2)]at e1;rw[JT (by rw[r.len];exact hi),if_neg (Ne.symm h2)];exact r.own j d' e1 h1
 dis:=λj k p d1 d2 hj hk f1 f2 e1 e2=>by
  obtain⟨h1,h2⟩:=mem_dl.mp hj;obtain⟨h3,h4⟩:=mem_dl.mp hk;rw[JT (by rw[r.len];exact hi),if_neg (Ne.symm h2)]at e1;rw[JT (by rw[r.len];exact hi),if_neg (Ne.symm h4)]at e2;rw[JT hi,if_neg (Ne.symm h2)]at f1;rw[JT hi,if_neg (Ne.symm h4)]at f2;exact r.dis j k p d1 d2 h1 h3 f1 f2 e1 e2
 pin:=λj hj=>by
  obtain⟨h1,_⟩:=mem_dl.mp hj;obtain⟨p,e1,e2⟩:=r.pin j h1;refine⟨p,e1,? _⟩;rw[getElem?_set_ne λz:i=j=>hq (by rw[z];exact h1)];exact e2
 len:=by rw[length_set,length_set];exact r.len
theorem RS.putO{K:Fg}{H₀:Hp}{F0:Fz}{F H:Hp}{σ:L2.St}{en:Qj}{i:Nat}{p:Addr}{kk:Option (List Kd)}{xs:List V}{ds:List D}(r:RS K H₀ F0 F H σ en O)(h0:F0.h p=none)(hf:F p=none)(hp:H p=some (ho kk xs))(hk:Vv kk xs)(hr:Reps K F xs ds)(hi:i<en.length)(hq:Q4 i∉O)(gG:∀j,i≠Q4 j)(hn:∀j d,j∈O->en[j]?=some (some d)->j≠i->σ[j]?≠some (some (.ref p))):RS K H₀ F0 F H (σ.set i (some (.ref p))) (en.set i (some (dOf kk ds))) (ad i O)where
 fh:=r.fh
 hh:=r.hh
 ff:=r.ff
 fr:=r.fr
 slot:=λj d' e1 hj=>by
  have jC:j≠i:=λz=>hj (mem_ad.mpr (.inl z));have kY:j∉O:=λz=>hj (mem_ad.mpr (.inr z));rw[JT hi,if_neg (Ne.symm jC)]at e1;rw[JT (by rw[r.len];exact hi),if_neg (Ne.symm jC)];exact r.slot j d' e1 kY
 own:=λj d' e1 hj=>by
  rw[JT hi]at e1;rw[JT (by rw[r.len];exact hi)];split at e1;·rename_i z;cases e1;rw[if_pos z];exact⟨p,kk,xs,ds,rfl,h0,hf,hp,hr,rfl,hk⟩
  ·rename_i z;rw[if_neg z];rcases mem_ad.mp hj with q|q;·exact absurd q.symm z
   ·exact r.own j d' e1 q
 dis:=λj k q d1 d2 hj hk f1 f2 e1 e2=>by
  rw[JT (by rw[r.len];exact hi)]at e1 e2;rw[JT hi]at f1 f2;by_cases z1:i=j
  ·by_cases z2:i=k;·rw[<-z1,<-z2]
   ·rw[if_pos z1]at e1;cases e1;rw[if_neg z2]at e2;rcases mem_ad.mp hk with w|w;·exact absurd w.symm z2
    ·rw[if_neg z2]at f2;exact absurd e2 (hn k d2 w f2 (Ne.symm z2))
  ·rw[if_neg z1]at e1;rcases mem_ad.mp hj with w|w;·exact absurd w.symm z1
   ·by_cases z2:i=k
    ·rw[if_pos z2]at e2;cases e2;rw[if_neg z1]at f1;exact absurd e1 (hn j d1 w f1 (Ne.symm z1))
    ·rw[if_neg z2]at e2;rcases mem_ad.mp hk with w2|w2;·exact absurd w2.symm z2
     ·rw[if_neg z1]at f1;rw[if_neg z2]at f2;exact r.dis j k q d1 d2 w w2 f1 f2 e1 e2
 pin:=λj hj=>by
  rcases mem_ad.mp hj with z|h1;·exact absurd z.symm (gG j)
  ·obtain⟨p,e1,e2⟩:=r.pin j h1;refine⟨p,e1,? _⟩;rw[getElem?_set_ne λz:i=j=>hq (by rw[z];exact h1)];exact e2
 len:=by rw[length_set,length_set];exact r.len
theorem RS.write{K:Fg}{H₀:Hp}{F0:Fz}{F H:Hp}{σ:L2.St}{en:Qj}{i:Nat}{p:Addr}{kk:Option (List Kd)}{xs:List V}{ds:List D}(r:RS K H₀ F0 F H σ en O)(hi:i∈O){d0:D}(he:en[i]?=some (some d0))(hσ:σ[i]?=some (some (.ref p)))(h0:F0.h p=none)(hf:F p=none)(hk:Vv kk xs)(hr:Reps K F xs ds):RS K H₀ F0 F (upd H p (ho kk xs)) σ (en.set i (some (dOf kk ds))) O:=have hl:i<en.length:=by cases lt_or_ge i en.length with|inl h=>exact h|inr h=>rw[getElem?_eq_none h]at he;cases he
 {
 fh:=r.fh.upd _ hf
 hh:=r.hh.upd _ h0
 ff:=r.ff
 fr:=r.fr
 slot:=λj d' e1 hj=>by
  have z:i≠j:=λz=>hj (z▸hi);rw[JT hl,if_neg z]at e1;exact r.slot j d' e1 hj
 own:=λj d' e1 hj=>by
  rw[JT hl]at e1;split at e1
  ·rename_i z;cases e1;subst z;exact⟨p,kk,xs,ds,hσ,h0,hf,QJ,hr,rfl,hk⟩
  ·rename_i z;obtain⟨q,k2,ys,es,h1,h2,h3,h4,h5,h6⟩:=r.own j d' e1 hj;refine⟨q,k2,ys,es,h1,h2,h3,? _,h5,h6⟩;rw[Qn λw:q=p=>z (r.dis i j p _ _ hi hj he e1 hσ (by rw[<-w];exact h1))];exact h4
 dis:=λj k q d1 d2 hj hk f1 f2 g1 g2=>by
  rw[JT hl]at f1 f2;have k1:∃d,en[j]?=some (some d):=by
   split at f1;·rename_i z;subst z;exact⟨_,he⟩
   ·exact⟨_,f1⟩
  have k2:∃d,en[k]?=some (some d):=by
   split at f2;·rename_i z;subst z;exact⟨_,he⟩
   ·exact⟨_,f2⟩
  obtain⟨_,k1⟩:=k1;obtain⟨_,k2⟩:=k2;exact r.dis j k q _ _ hj hk k1 k2 g1 g2
 pin:=r.pin
 len:=by rw[length_set];exact r.len}
theorem RS.rel{K:Fg}{H₀:Hp}{F0:Fz}{F H:Hp}{σ:L2.St}{en:Qj}(ob:Addr->Obj)(i:Nat)(r:RS K H₀ F0 F H σ en O):∃F' H',Sm F F'/\RS K H₀ F0 F' H' σ en (dl i O)/\(H'=H\/∃p kk xs,H p=some (ho kk xs)/\H'=upd H p (hz (ob p) kk xs)):=by
 have none_:(∀d,en[i]?=some (some d)->i∉O)->∃F' H',Sm F F'/\RS K H₀ F0 F' H' σ en (dl i O)/\(H'=H\/∃p kk xs,H p=some (ho kk xs)/\H'=upd H p (hz (ob p) kk xs)):=λhn=>by
  refine⟨F,H,.refl F,⟨r.fh,r.hh,r.ff,r.fr,λj d e1 hj=>?_,λj d e1 hj=>r.own j d e1 (mem_dl.mp hj).1,λj k p d1 d2 hj hk=>r.dis j k p d1 d2 (mem_dl.mp hj).1 (mem_dl.mp hk).1,λj hj=>r.pin j (mem_dl.mp hj).1,r.len⟩,.inl rfl⟩;exact r.slot j d e1 λw=>hj (mem_dl.mpr ⟨w,λz=>hn d (z▸e1) (z▸w)⟩)
 by_cases hi:i∈O;·cases q:en[i]? with
  |none=>exact none_ λd e=>by rw[q]at e;cases e|some o=>cases o with
   |none=>exact none_ λd e=>by rw[q]at e;cases e|some d0=>
    obtain⟨p,kk,xs,ds,h1,h2,h3,h4,h5,h6,h7⟩:=r.own i d0 q hi;have sf:Sm F (upd F p (hz (ob p) kk xs)):=(Sm.refl F).upd _ h3;refine⟨upd F p (hz (ob p) kk xs),upd H p (hz (ob p) kk xs),sf,⟨λa o e1=>?_,λa o e1=>?_,r.ff.trans sf,λa o e1=>?_,λj d e1 hj=>?_,λj d e1 hj=>?_,λj k p d1 d2 hj hk=>r.dis j k p d1 d2 (mem_dl.mp hj).1 (mem_dl.mp hk).1,λj hj=>r.pin j (mem_dl.mp hj).1,r.len⟩,.inr ⟨p,kk,xs,h4,rfl⟩⟩
    ·by_cases z:a=p;·subst z;rw[QJ]at e1⊢;exact e1
     ·rw[Qn z]at e1⊢;exact r.fh a o e1
    ·have z:a≠p:=λz=>by rw[z,h2]at e1;cases e1
     rw[Qn z];exact r.hh a o e1
    ·by_cases z:a=p;·subst z;exact .inr h2
     ·rw[Qn z]at e1;exact r.fr a o e1
    ·by_cases z:j=i
     ·subst z;rw[q]at e1;cases e1;subst h6;exact⟨_,h1,Rep.hz QJ h7 (h5.mono sf)⟩
     ·obtain⟨v,w1,w2⟩:=r.slot j d e1 λw=>hj (mem_dl.mpr ⟨w,z⟩);exact⟨v,w1,w2.mono sf⟩
    ·obtain⟨w1,w2⟩:=mem_dl.mp hj;obtain⟨p',ky,ys,es,k1,k2,k3,k4,k5,k6⟩:=r.own j d e1 w1;have ne:p'≠p:=λz:p'=p=>w2 (r.dis j i p _ _ w1 hi e1 q (by rw[<-z];exact k1) h1);refine⟨p',ky,ys,es,k1,k2,?_,?_,k5.mono sf,k6⟩;·rw[Qn ne];exact k3
     ·rw[Qn ne];exact k4
 ·exact none_ λ_ _=>hi
theorem RS.put'{K:Fg}{H₀:Hp}{F0:Fz}{F H:Hp}{σ:L2.St}{en:Qj}(i:Nat){v:V}{d:D}(r:RS K H₀ F0 F H σ en O)(h:Rep K F v d)(hq:Q4 i∉O):RS K H₀ F0 F H (σ.set i (some v)) (en.set i (some d)) (dl i O):=by
 by_cases hi:i<en.length;·exact r.put h hi hq
 ·have e1:en.set i (some d)=en:=List.set_eq_of_length_le (by omega);have e2:σ.set i (some v)=σ:=List.set_eq_of_length_le (by rw[r.len];omega);rw[e1,e2];refine⟨r.fh,r.hh,r.ff,r.fr,λj d f1 hj=>?_,λj d f1 hj=>r.own j d f1 (mem_dl.mp hj).1,λj k p d1 d2 hj hk=>r.dis j k p d1 d2 (mem_dl.mp hj).1 (mem_dl.mp hk).1,λj hj=>r.pin j (mem_dl.mp hj).1,r.len⟩;have:j≠i:=λz=>by
   rw[z,getElem?_eq_none (by omega)]at f1;cases f1
  exact r.slot j d f1 λw=>hj (mem_dl.mpr ⟨w,this⟩)
theorem RS.putO'{K:Fg}{H₀:Hp}{F0:Fz}{F H:Hp}{σ:L2.St}{en:Qj}(i:Nat){p:Addr}{kk:Option (List Kd)}{xs:List V}{ds:List D}(r:RS K H₀ F0 F H σ en O)(h0:F0.h p=none)(hf:F p=none)(hp:H p=some (ho kk xs))(hk:Vv kk xs)(hr:Reps K F xs ds)(hn:∀j d,j∈O->en[j]?=some (some d)->j≠i->σ[j]?≠some (some (.ref p)))(hq:Q4 i∉O)(gG:∀j,i≠Q4 j):RS K H₀ F0 F H (σ.set i (some (.ref p))) (en.set i (some (dOf kk ds))) (ad i O):=by
 by_cases hi:i<en.length;·exact r.putO h0 hf hp hk hr hi hq gG hn
 ·have e1:en.set i (some (dOf kk ds))=en:=List.set_eq_of_length_le (by omega);have e2:σ.set i (some (V.ref p))=σ:=List.set_eq_of_length_le (by rw[r.len];omega);have n1:en[i]?=none:=getElem?_eq_none (by omega);have n2:σ[i]?=none:=getElem?_eq_none (by rw[r.len];omega);rw[e1,e2];refine⟨r.fh,r.hh,r.ff,r.fr,λj d f1 hj=>r.slot j d f1 λw=>hj (mem_ad.mpr (.inr w)),λj d f1 hj=>?_,λj k q d1 d2 hj hk g1 g2 f1 f2=>?_,λj hj=>?_,r.len⟩
  ·rcases mem_ad.mp hj with z|z;·rw[z,n1]at f1;cases f1
   ·exact r.own j d f1 z
  ·rcases mem_ad.mp hj with z|z;·rw[z,n2]at f1;cases f1
   ·rcases mem_ad.mp hk with z2|z2;·rw[z2,n2]at f2;cases f2
    ·exact r.dis j k q d1 d2 z z2 g1 g2 f1 f2
  ·rcases mem_ad.mp hj with z|h1;·exact absurd z.symm (gG j)
   ·exact r.pin j h1
theorem Qto{X:Cx}{aa:List (Addr×Obj)}{σ:L2.St}{H:Hp}{s:Shared}(I:Inv X aa σ H s){p:Addr}{kk:Option (List Kd)}{xs:List V}(h:H p=some (ho kk xs)):Inv X aa σ (upd H p (hz ((s.heap.get? p).getD default) kk xs)) s:=by cases kk with
 |none=>
  have e:upd H p (hz ((s.heap.get? p).getD default) none xs)=H:=by
   funext b;by_cases z:b=p;·subst z;rw[QJ];exact h.symm
   ·rw[Qn z]
  rw[e];exact I|some ks=>
  have h':H p=some (.dK (ks.zip xs)):=h;have ok:ObjOk X.prog X.w H s.heap p (.dK (ks.zip xs)):=I.hok p _ h';obtain⟨z1,z2,vs,rel,o,es,ep,ho,Jq⟩:=ok;rw[ho];show Inv X aa σ (upd H p (.frz o (.dK (ks.zip xs)))) s;have ne:∀{b:Addr}{u:HO},H b=some u->(∀ah,u≠.dK ah)->b≠p:=λe n z=>by rw[z,h']at e;cases e;exact n _ rfl
  have I2:=I.step (h':=s.heap) (H':=upd H p (.frz o (.dK (ks.zip xs)))) (g':=s.gens) (d':=s.drawn) (t':=s.toks) (ch:=[]) (λb hb=>by cases hb) (λb o _ _ _ e _=>e) (λb o _ _ _ e _=>⟨o.slots,e⟩) (λb o _ e n=>by rw[Qn λz=>by rw[z,h']at n;cases n];exact n) (λb o _ e=>⟨o,e⟩) (λb xs e=>by rw[Qn (ne e λ_ z=>nomatch z)];exact e) (λb xs u e=>by rw[Qn (ne e λ_ z=>nomatch z)];exact e) (λb ps e=>⟨#[],by rw[Qn (ne e λ_ z=>nomatch z),e];simp⟩) (λm hm=>hm) (λb u e=>? _) I.bare;·exact I2
  ·by_cases hb:b=p
   ·subst hb;rw[QJ]at e;cases e;exact⟨ho,z1,z2,vs,rel,o,es,ep,ho,Jq⟩
   ·rw[Qn hb]at e;exact(I.hok b u e).stay (λc v _ q=>q) (λc q=>by rw[Qn (ne q λ_ z=>nomatch z)];exact q) λc xs q=>by rw[Qn (ne q λ_ z=>nomatch z)];exact q
theorem Qvc{X:Cx}{aa:List (Addr×Obj)}{F0:Fz}{F H:Hp}{σ:L2.St}{en:Qj}{s:Shared}(i:Nat)(I:Inv X aa σ H s)(r:RS X.K X.H₀ F0 F H σ en O):∃F' H',Inv X aa σ H' s/\Sm F F'/\RS X.K X.H₀ F0 F' H' σ en (dl i O):=by
 obtain⟨F',H',sf,r',h⟩:=r.rel (λp=>(s.heap.get? p).getD default) i;refine⟨F',H',?_,sf,r'⟩;rcases h with h|⟨p,kk,xs,hp,h⟩;·rw[h];exact I
 ·rw[h];exact Qto I hp
theorem Ze(i:Nat){b:EvS}{cY:List Stmt}(h:PSs X cY (tS X (dl i O) O' OL w b)):PSs X cY (tS X O O' OL w b):=by rintro aa s σ H D I⟨F0,F,en,fl,rs,z,k⟩;obtain⟨F',H',I',sf,bI⟩:=Qvc i I rs;exact h aa s σ H' D I' ⟨F0,F',en,fl,bI,z,k.mono sf⟩
theorem QsT(i:Nat)(O1:List Nat){b:EvS}{cY:List Stmt}(h:PSs X cY (tS X O O1 OL w b))(e:O'=dl i O1:=by rfl):PSs X cY (tS X O O' OL w b):=by
 subst e;rintro aa s σ H D I⟨F0,F,en,fl,rs,z,k⟩;refine thn (h aa s σ H {D with nx:=λσ' H'=>∃F' e',fl=.nx e'/\Sm F F'/\RS X.K X.H₀ F0 F' H' σ' e' O1} I ⟨F0,F,en,fl,rs,z,?_⟩) λf s' sp=>?_;·cases fl with
  |nx e=>exact λσ' F' H' s r=>⟨F',e,rfl,s,r⟩|bk e=>exact k|ct e=>exact k|rt d=>exact k
 ·cases f with
  |next=>obtain⟨σ',H',I',F',e',rfl,s1,r⟩:=sp;obtain⟨F2,H2,I2,s2,r2⟩:=Qvc i I' r;exact⟨σ',H2,I2,k σ' F2 H2 (s1.trans s2) r2⟩|_=>exact sp
end
section
variable{X:Cx}{O O1 O2 O' OL:List Nat}{w:Bool}{st:Stmt}{Jq:List Stmt}{e:Expr}{pos:Pos}
def tG(X:Cx)(O O':List Nat)(g:EvG):TG:=λv σ H Q=>∃F0 F en d e',RS X.K X.H₀ F0 F H σ en O/\Rep X.K F v d/\g d en=some e'/\∀σ' H' F',Gr F H F' H'->RS X.K X.H₀ F0 F' H' σ' e' O'->Q σ' H'
def tGs(X:Cx)(O O':List Nat)(gs:List EvG):TGs:=λvs σ H Q=>∃F0 F en ds e',RS X.K X.H₀ F0 F H σ en O/\Reps X.K F vs ds/\Zq gs ds en=some e'/\∀σ' H' F',Gr F H F' H'->RS X.K X.H₀ F0 F' H' σ' e' O'->Q σ' H'
theorem PG.imp{t t':TG}(h:PG X e t)(q:∀v σ H Q,t' v σ H Q->t v σ H Q):PG X e t':=λaa s σ H v u Q I r z=>h aa s σ H v u Q I r (q v σ H Q z)
theorem PGs.imp{es:List Expr}{t t':TGs}(h:PGs X es t)(q:∀v σ H Q,t' v σ H Q->t v σ H Q):PGs X es t':=λaa s σ H v u Q I r z=>h aa s σ H v u Q I r (q v σ H Q z)
theorem Qq(i:Nat){x:Str}(hN:X.N.Nodup)(hi:X.N[i]?=some x:=by rfl)(hx:Loc X.env.scope x:=by first|exact Or.inl rfl|exact Or.inr rfl)(hf:X.fn x=true\/X.env.scope.names.lookup x=some .local:=by first|exact .inl rfl|exact .inr rfl)(hq:Q4 i∉O:=by decide):PG X (.Name x pos) (tG X O (dl i O) (gS i)):=PG.imp (QnE hN hi hx hf) λv σ H Q⟨F0,F,en,d,e',rs,r,z,k⟩=>by cases z;exact k _ H F (.refl rs.fh) (rs.put' i r hq)
theorem Vn:PGs X [] (tGs X O O []):=PGs.imp QtV λvs σ H Q⟨F0,F,en,ds,e',rs,r,z,k⟩=>by cases r with|nil=>cases z;exact⟨rfl,k σ H F (.refl rs.fh) rs⟩|cons h r=>simp[Zq]at z
theorem Ju{es:List Expr}{g:EvG}{gs:List EvG}(h1:PG X e (tG X O O1 g))(h2:PGs X es (tGs X O1 O' gs))(hs:(assignEach (e::es) X.env).map (·.2)=assign e X.env::(assignEach es X.env).map (·.2):=by rfl):PGs X (e::es) (tGs X O O' (g::gs)):=PGs.imp (Qsi h1 h2 hs) λvs σ H Q⟨F0,F,en,ds,e',rs,r,z,k⟩=>by cases r with|nil=>simp[Zq]at z|@cons x d xs ds h r=>have z':((g d en).bind λe'=>Zq gs ds e')=some e':=z;obtain⟨e1,q1,q2⟩:=QY z';refine⟨x,xs,rfl,F0,F,en,d,e1,rs,h,q1,λσ' H' F' s bI=>?_⟩;exact⟨F0,F',e1,ds,e',bI,r.mono s.ff,q2,λσ2 H2 F2 s2 dA=>k σ2 H2 F2 (s.trans s2) dA⟩
theorem V3{es:List Expr}{k0:Nat}{gs:List EvG}(hc:X.calm=true)(h:PGs X es (tGs X O O' gs))(hl:gs.length=es.length)(hn:(assignEach es X.env).length=es.length:=by rfl)(cI:(assignEach es X.env).findIdx? (·.1)=none:=by rfl):PG X (.Tuple es k0 pos) (tG X O O' (Jp gs)):=PG.imp (QvP hc h hn cI) λv σ H Q⟨F0,F,en,d,e',rs,r,z,k⟩=>by cases r with
  |@tup a xs ds h r=>
   have z':Zq gs ds en=some e':=z;have len:∀(gs:List EvG)(ds:List D)(en e':Qj),Zq gs ds en=some e'->ds.length=gs.length:=by intro gs;induction gs with
    |nil=>intro ds en e' h;cases ds with|nil=>rfl|cons _ _=>simp[Zq]at h
    |cons g gs ih=>intro ds en e' h;cases ds with
     |nil=>simp[Zq]at h|cons d ds=>
      have h':((g d en).bind λe'=>Zq gs ds e')=some e':=h;obtain⟨e1,_,q2⟩:=QY h';rw[length_cons,length_cons,ih ds e1 e' q2]
   exact⟨a,xs,rfl,SqT.of (rs.fh _ _ h),by rw[r.length,len gs ds en e' z',hl],F0,F,en,ds,e',rs,r,z',k⟩|_=>cases z
theorem Qxn{ev:EvE}{g:EvG}{Dn:Ends}{σ:L2.St}{H:Hp}(h:tS X O O' OL w (Qc ev g) Dn σ H):Qos (tD X O ev) (tG X O O' g) Dn σ H:=by obtain⟨F0,F,en,fl,rs,z,k⟩:=h;obtain⟨d,e1,e2⟩:=QY z;obtain⟨e',e3,rfl⟩:=Zi e2;refine⟨F0,F,en,d,rs,e1,λv F1 H1 g1 r1=>?_⟩;exact⟨F0,F1,en,d,e',rs.grow g1,r1,e3,λσ' H' F' s bI=>k σ' F' H' (g1.ff.trans s.ff) bI⟩
theorem Qqe{tg:Expr}{ev:EvE}{g:EvG}(he:PE X e (tD X O ev))(hg:PG X tg (tG X O O' g))(hs:swapsWithSole [tg] e pos.line X.env=pure false:=by rfl)(hw:swappedStores [tg] e X.env=pure none:=by rfl)(h1:(assignEach [tg] X.env).map (·.2)=[assign tg X.env]:=by rfl):PS X (.Assign [tg] e pos) (tS X O O' OL w (Qc ev g)):=PS.imp (QvL he hg hs hw h1) λDn σ H h=>Qxn h
theorem Qf(i:Nat){x:Str}{p:Pos}{ev:EvE}(hN:X.N.Nodup)(he:PE X e (tD X O ev))(hi:X.N[i]?=some x:=by rfl)(hx:Loc X.env.scope x:=by first|exact Or.inl rfl|exact Or.inr rfl)(hs:swapsWith e (some (.Name x p)) pos.line X.env=pure false:=by rfl)(hf:X.fn x=true\/X.env.scope.names.lookup x=some .local:=by first|exact .inl rfl|exact .inr rfl)(hq:Q4 i∉O:=by decide):PS X (.Assign [.Name x p] e pos) (tS X O (dl i O) OL w (Qc ev (gS i))):=PS.imp (QkO hN hi hx he hs hf) λDn σ H⟨F0,F,en,fl,rs,z,k⟩=>by obtain⟨d,e1,e2⟩:=QY z;obtain⟨e',e3,rfl⟩:=Zi e2;cases e3;exact⟨F0,F,en,d,rs,e1,λv F1 H1 g1 r1=>k _ F1 H1 g1.ff ((rs.grow g1).put' i r1 hq)⟩
theorem Zs(i:Nat){x:Str}{p:Pos}{ev:EvE}(hN:X.N.Nodup)(he:PE X e (tO X O ev))(hi:X.N[i]?=some x:=by rfl)(hx:Loc X.env.scope x:=by first|exact Or.inl rfl|exact Or.inr rfl)(hs:swapsWith e (some (.Name x p)) pos.line X.env=pure false:=by rfl)(hf:X.fn x=true\/X.env.scope.names.lookup x=some .local:=by first|exact .inl rfl|exact .inr rfl)(hq:Q4 i∉O:=by decide)(ij:i<1000:=by decide):PS X (.Assign [.Name x p] e pos) (tS X O (ad i O) OL w (Qc ev (gS i))):=PS.imp (QkO hN hi hx he hs hf) λDn σ H⟨F0,F,en,fl,rs,z,k⟩=>by obtain⟨d,e1,e2⟩:=QY z;obtain⟨e',e3,rfl⟩:=Zi e2;cases e3;refine⟨F0,F,en,d,rs,e1,λp kk xs ds F1 H1 g1 n1 n2 h r e4 hk=>?_⟩;subst e4;refine k _ F1 H1 g1.ff ((rs.grow g1).putO' i (rs.hh.none n1) n2 h hk r (λj d' hj q2 _ q=>?_) hq (λj z=>by unfold Q4 at z;omega));obtain⟨p',_,ys,es,h1,_,_,h4,_⟩:=rs.own j d' q2 hj;rw[h1]at q;cases q;rw[n1]at h4;cases h4
end
section
variable{X:Cx}{O O1 O2 O' OL:List Nat}{w:Bool}{st:Stmt}{Jq:List Stmt}{e a:Expr}{pos:Pos}
theorem QiL:PIp X .Add (λx y H Q=>(rI0 λi j=>.int (i+j)) x y H Q\/∃i j,x=.str i/\y=.str j/\i.length+j.length<=sizeLine/\Q (.str (i++j)) H)/\Op2 X (λx y H Q=>(rI0 λi j=>.int (i+j)) x y H Q\/∃i j,x=.str i/\y=.str j/\i.length+j.length<=sizeLine/\Q (.str (i++j)) H) D.addI:=by
 refine⟨OpR.or QuD Qnd,λF H x y dx dy d Q s rx ry e k=>?_⟩;cases dx<;>cases dy<;>try(simp[D.addI]at e;done)
 case int.int i j=>
  cases e;exact .inl ⟨i,j,rx.int,ry.int,k _ F H (.refl s) (.int _)⟩
 case str.str i j=>
  simp only[D.addI]at e;split at e
  ·rename_i hz;cases e;exact .inr ⟨i,j,rx.str,ry.str,by rw[Ym];exact hz,k _ F H (.refl s) (.str _)⟩
  ·cases e
theorem QuB:PIp X .Sub (rI0 λi j=>.int (i-j))/\Op2 X (rI0 λi j=>.int (i-j)) D.sub:=⟨QuC,QhB (fd:=λi j=>.int (i-j)) (λdx dy d e=>by cases dx<;>cases dy<;>simp[D.sub]at e⊢) (λi j d e=>by cases e;rfl) λ_ _ _ _=>.int _⟩
theorem QhE(i:Nat){x:Str}{p:Pos}{op:Operator}{r:R2}{g:D->D->Option D}{ev:EvE}(hN:X.N.Nodup)(hO:i∉O)(he:PE X e (tR X O ev))(ho:PIp X op r/\Op2 X r g)(hi:X.N[i]?=some x:=by rfl)(hx:Loc X.env.scope x:=by first|exact Or.inl rfl|exact Or.inr rfl)(hf:X.fn x=true\/X.env.scope.names.lookup x=some .local:=by first|exact .inl rfl|exact .inr rfl)(hq:Q4 i∉O:=by decide):PS X (.AugAssign (.Name x p) op e pos) (tS X O (dl i O) OL w (ZC i g ev)):=PS.imp (QvK hN hi hx he ho.1 hf) λDn σ H⟨F0,F,en,fl,rs,z,k⟩=>by obtain⟨dx,dy,e1,e2,e3⟩:=QbY z;obtain⟨dz,e4,rfl⟩:=Zi e3;obtain⟨v,h1,h2⟩:=rs.slot i dx (Zd e1) hO;refine⟨v,h1,F0,F,en,dy,rs,e2,λy F1 H1 g1 r1=>?_⟩;exact ho.2 F1 H1 v y dx dy dz _ g1.fh (.inl (h2.mono g1.ff)) r1 e4 λu F2 H2 g2 r2=>k _ F2 H2 (g1.ff.trans g2.ff) ((rs.grow (g1.trans g2)).put' i r2 hq)
theorem Zk(i:Nat)(hi:i∈O){x:Str}{p apos aH:Pos}{ev:EvE}(he:PE X e (tD X O ev))(hN:X.N[i]?=some x:=by rfl)(hv:Vis X.env.scope x:=by first|exact Or.inl rfl|exact Or.inr (Or.inl rfl)|exact Or.inr (Or.inr rfl))(hd:(x==("__debug__":Str))=false:=by decide)(bQ:(x==("__classdict__":Str))=false:=by decide)(bH:attributeBase (.Name x p) "append" X.env (eval (.Name x p) X.env)=eval (.Name x p) X.env:=by rfl)(bG:(apos.endLine==aH.line)=true:=by rfl)(hs:starEach [e] X.env=[(false,eval e X.env)]:=by rfl)(cV:((backTo aH (starEach [e] X.env)).all (λx=>!x.1)&&(backToKw aH (keywordEach [] X.env)).all (λx=>x.1.isSome)&&decide ([e].length+([]:List Keyword).length+(if([]:List Keyword).isEmpty then 0 else 1)<30))=true:=by rfl)(d6:swapsWith (.Call (.Attribute (.Name x p) "append" apos) [e] [] aH) none pos.line X.env=pure false:=by rfl):PS X (.Expr (.Call (.Attribute (.Name x p) "append" apos) [e] [] aH) pos) (tS X O O OL w (sP i ev)):=PS.imp (VR (Qee PySem.F.plainAttrs_list PySem.F.slot_list_append PySem.F.type_list_append Qav (Yo hN hv hd bQ) (Jw he ZI hs) bH cV bG hs rfl) d6) λDn σ H⟨F0,F,en,fl,rs,z,k⟩=>by obtain⟨dx,dy,e1,e2,e3⟩:=QbY z;obtain⟨dz,e4,rfl⟩:=Zi e3;obtain⟨q,kk,xs,ds,h1,h2,h3,h4,h5,h6,h7⟩:=rs.own i dx (Zd e1) hi;subst h6;cases kk with|some ks=>cases e4|none=>
  simp only[ho,dOf]at h4 e4 e1;refine⟨_,h1,.inl ⟨rfl,xs,SqL.of h4⟩,F0,F,en,dy,rs,e2,λy F1 H1 g1 r1=>?_⟩;simp only[D.app]at e4;split at e4;·rename_i hz;cases e4;have bZ:=rs.grow g1;obtain⟨q',bX,bz,ck,k1,k2,k3,k4,k5,k6,k7⟩:=bZ.own i _ (Zd e1) hi;rw[h1]at k1;cases k1;cases bX with|some ks=>cases k6|none=>
   cases k6;simp only[ho]at k4;have hx:bz=xs:=by
    have:=g1.hh _ _ h4;rw[k4]at this;cases this;rfl
   subst hx;refine⟨q,bz,y,rfl,rfl,k4,?_,?_⟩;·rw[Ym,k5.length];exact hz
   ·exact k _ F1 _ g1.ff (bZ.write (kk:=none) hi (Zd e1) h1 k2 k3 trivial (k5.append (.cons r1 .nil)))
  ·cases e4
theorem Qwx(i:Nat)(hi:i∈O){x:Str}{p apos aH:Pos}{ev:EvE}(he:PE X e (tR X O ev))(hN:X.N[i]?=some x:=by rfl)(hv:Vis X.env.scope x:=by first|exact Or.inl rfl|exact Or.inr (Or.inl rfl)|exact Or.inr (Or.inr rfl))(hd:(x==("__debug__":Str))=false:=by decide)(bQ:(x==("__classdict__":Str))=false:=by decide)(bH:attributeBase (.Name x p) "extend" X.env (eval (.Name x p) X.env)=eval (.Name x p) X.env:=by rfl)(bG:(apos.endLine==aH.line)=true:=by rfl)(hs:starEach [e] X.env=[(false,eval e X.env)]:=by rfl)(cV:((backTo aH (starEach [e] X.env)).all (λx=>!x.1)&&(backToKw aH (keywordEach [] X.env)).all (λx=>x.1.isSome)&&decide ([e].length+([]:List Keyword).length+(if([]:List Keyword).isEmpty then 0 else 1)<30))=true:=by rfl)(d6:swapsWith (.Call (.Attribute (.Name x p) "extend" apos) [e] [] aH) none pos.line X.env=pure false:=by rfl):PS X (.Expr (.Call (.Attribute (.Name x p) "extend" apos) [e] [] aH) pos) (tS X O O OL w (QrI i ev)):=PS.imp (VR (Qee PySem.F.plainAttrs_list PySem.F.slot_list_extend PySem.F.type_list_extend Qq2 (Yo hN hv hd bQ) (Qe0 he hs) bH cV bG hs rfl) d6) λDn σ H⟨F0,F,en,fl,rs,z,k⟩=>by
  obtain⟨dx,dy,e1,e2,e3⟩:=QbY z;obtain⟨dz,e4,rfl⟩:=Zi e3;obtain⟨q,kk,xs,ds,h1,h2,h3,h4,h5,h6,h7⟩:=rs.own i dx (Zd e1) hi;subst h6;cases kk with
  |some ks=>cases e4|none=>
  simp only[ho,dOf]at h4 e4 e1;refine⟨_,h1,.inl ⟨rfl,xs,SqL.of h4⟩,F0,F,en,dy,rs,e2,λy F1 H1 g1 r1=>?_⟩;cases dy with
  |lst es=>
   simp only[D.ext]at e4;split at e4;·rename_i hz;cases e4;obtain⟨q2,ys,rfl,m1,m2⟩:=r1.lst g1.fh;have bZ:=rs.grow g1;obtain⟨q',bX,bz,ck,k1,k2,k3,k4,k5,k6,k7⟩:=bZ.own i _ (Zd e1) hi;rw[h1]at k1;cases k1;cases bX with|some ks=>cases k6|none=>
    cases k6;simp only[ho]at k4;have hx:bz=xs:=by
     have:=g1.hh _ _ h4;rw[k4]at this;cases this;rfl
    subst hx;refine⟨q,q2,bz,ys,rfl,rfl,k4,m1,?_,?_⟩;·rw[Ym,k5.length,m2.length];exact hz
    ·exact k _ F1 _ g1.ff (bZ.write (kk:=none) hi (Zd e1) h1 k2 k3 trivial (k5.append m2))
   ·cases e4|_=>cases e4
end
noncomputable def spD(K:Fg)(f:List D->Option D):Sp:=λvs H Q _=>∃F ds d,Sm F H/\Reps K F vs ds/\f ds=some d/\∀v F' H',Gr F H F' H'->Rep K F' v d->Q v H'
def spO(K:Fg)(f:List D->Option D):Sp:=λvs H Q _=>∃F ds d,Sm F H/\Reps K F vs ds/\f ds=some d/\∀p k xs es F' H',Gr F H F' H'->H p=none->F' p=none->H' p=some (ho k xs)->Reps K F' xs es->d=dOf k es->Vv k xs->Q (.ref p) H'
def Cal(P:Program)(w:World)(K:Fg)(mg:Str->Option Value)(ab:Heap)(k:Nat)(x:Str)(ps:List Str)(sp:Sp):Prop:=∃f fd,FnOk P w K mg ab CX0 k f fd ps sp/\Binds K fd ps []/\W.keepIn K (.ref f)=true/\mg x=some (.ref f)
def Df(K:Fg)(mg:Str->Option Value)(x:Str)(st:Stmt)(ps:List Str):Prop:=∃f fd,Fun K x x st f fd/\Binds K fd ps []/\mg x=some (.ref f)
section
variable{X:Cx}{O:List Nat}{e:Expr}{es:List Expr}{p pos:Pos}{x:Str}{ps:List Str}{k:Nat}
theorem Qs0{f:List D->Option D}{l:EvL}(c:Cal X.prog X.w X.K X.mg X.ab k x ps (spD X.K f))(hr:Room k X.A)(hg:Gl X x)(ha:PA X (e::es) (tL X O l))(bJ:(x==("__debug__":Str))=false:=by decide)(he:starEach (e::es) X.env=(false,eval e X.env)::starEach es X.env:=by rfl)(cn:(backTo pos (starEach es X.env)).any (·.1)=false:=by rfl):PE X (.Call (.Name x p) (e::es) [] pos) (tD X O (eK f l)):=by obtain⟨fa,fd,F,hb,hk,hm⟩:=c;refine PE.imp (QiG F hr hg hm hk hb (.nil:Vals [] []) QoG ha bJ he cn) λσ H Q⟨F0,F,en,d,rs,z,k⟩=>?_;obtain⟨ds,e1,e2⟩:=QY z;refine⟨F0,F,en,ds,rs,e1,λvs F1 H1 g1 r1=>⟨F1,ds,d,g1.fh,?_,e2,λv F' H' g r=>k v F' H' (g1.trans g) r⟩⟩;rw[append_nil];exact r1
theorem Zm{ev:EvE}(h:PE X e (tO X O ev)):PE X e (tD X O ev):=by
 rintro aa s σ H Q I⟨F0,F,en,d,rs,z,k⟩;refine thn (h aa s σ H (λx H'=>∃p kk xs ds F',x=.ref p/\Gr F H F' H'/\H p=none/\F' p=none/\H' p=some (ho kk xs)/\Reps X.K F' xs ds/\d=dOf kk ds/\Vv kk xs) I ⟨F0,F,en,d,rs,z,λp kk xs ds F' H' g n1 n2 hp r e3 hk=>⟨p,kk,xs,ds,F',rfl,g,n1,n2,hp,r,e3,hk⟩⟩) λv s1⟨x,H1,I1,r1,p,kk,xs,ds,F',hx,g,n1,n2,hp,r,e3,hk⟩=>?_;subst hx e3;have s2:Sm F' (upd F' p (hz ((s1.heap.get? p).getD default) kk xs)):=(Sm.refl F').upd _ n2;refine⟨.ref p,_,Qto I1 hp,r1,k _ (upd F' p (hz ((s1.heap.get? p).getD default) kk xs)) _ ⟨g.ff.trans s2,λa o q=>?_,λa o q=>?_,λa o q=>?_⟩ (Rep.hz QJ hk (r.mono s2))⟩;·rw[Qn (λw:a=p=>by rw[w,n1]at q;cases q)];exact g.hh a o q
 ·by_cases w:a=p;·subst w;rw[QJ]at q⊢;exact q
  ·rw[Qn w]at q⊢;exact g.fh a o q
 ·by_cases w:a=p;·subst w;exact .inr n1
  ·rw[Qn w]at q;exact g.fr a o q
end
section
variable{P:Program}{w:World}{K:Fg}{mg:Str->Option Value}{ab:Heap}{x:Str}{st:Stmt}{N ps:List Str}{k:Nat}{b:EvS}
theorem QgR{F H:Hp}{vs:List V}{ds:List D}(n:Nat)(s:Sm F H)(r:Reps K F vs ds):RS K H ⟨F,H,none⟩ F H (vs.map some++List.replicate (n-vs.length) none) (sD n ds) []where
 fh:=s
 hh:=.refl H
 ff:=.refl F
 fr:=λ_ _ h=>.inl h
 slot:=λi d h _=>by
  unfold sD at h;rcases lt_or_ge i ds.length with hi|hi
  ·rw[getElem?_append_left (by rw[length_map];exact hi),getElem?_map,getElem?_eq_getElem hi]at h;have hd:ds[i]?=some d:=by rw[getElem?_eq_getElem hi];simpa using h
   obtain⟨v,h1,h2⟩:=r.get hd;refine⟨v,?_,h2⟩;rw[getElem?_append_left (by rw[length_map,r.length];exact hi),getElem?_map,h1];rfl
  ·rw[getElem?_append_right (by rw[length_map];exact hi),getElem?_replicate]at h;split at h<;>cases h
 own:=λi d _ h=>by cases h
 dis:=λi j p _ _ h=>by cases h
 pin:=λi h=>by cases h
 len:=by unfold sD;simp[r.length]
theorem okC(h:Df K mg x st ps)(S:FnScope N ps (Qa st)){O' OL:List Nat}(hb:∀(f:Addr)(ax:Value)(A:Around)(ag:List Env)(s:Shared)(H:Hp)(E:XK),Room k (A.deeper (envOfC x (Qa st) s.heap.objs.size f ax))->PSs (Vu CX0 P w K mg ab N x (Qa st) f ax A ag s H E).nox (Zf st) (tS (Vu CX0 P w K mg ab N x (Qa st) f ax A ag s H E).nox [] O' OL false b)):Cal P w K mg ab (k+1) x ps (spD K (Qx N.length ps.length b)):=by
 obtain⟨f,fd,F,d9,hm⟩:=h;refine⟨f,fd,F.ok S (λvs H Q E⟨F,ds,d,s,r,e,_⟩=>?_) (λax A ag s H vs Q E hr⟨Fz,ds,d,sm,r,e,k⟩=>?_),d9,F.kp,hm⟩
 ·unfold Qx at e;split at e;·rename_i z;rw[r.length];exact z
  ·cases e
 ·refine⟨_,hb f ax A ag s H E hr,?_⟩;unfold Qx at e;split at e;·rename_i z;have e':Qea (b (sD N.length ds))=some d:=e;cases q:b (sD N.length ds)with
   |none=>rw[q]at e';cases e'|some fl=>
    rw[q]at e';have cI:start N vs=vs.map some++List.replicate (N.length-vs.length) none:=rfl;rw[cI];refine⟨⟨Fz,H,none⟩,Fz,sD N.length ds,fl,QgR N.length sm r,q,?_⟩;cases fl with
    |nx en=>cases e';exact λσ' F' H' s' rs=>k .non F' H' rs.ex.gr .non|rt d'=>cases e';exact λv F' H' x r=>k v F' H' x.gr r|bk en=>cases e'|ct en=>cases e'
  ·cases e
theorem QxK(h:Df K mg x st ps)(S:FnScope N ps (Qa st)){O' OL:List Nat}(hb:∀(f:Addr)(ax:Value)(A:Around)(ag:List Env)(s:Shared)(H:Hp)(E:XK),Room k (A.deeper (envOfC x (Qa st) s.heap.objs.size f ax))->PSs (Vu CX0 P w K mg ab N x (Qa st) f ax A ag s H E).nox (Zf st) (tS (Vu CX0 P w K mg ab N x (Qa st) f ax A ag s H E).nox [] O' OL true b))(ic:∀ds en,b (sD N.length ds)≠some (.nx en)):Cal P w K mg ab (k+1) x ps (spO K (Qx N.length ps.length b)):=by
 obtain⟨f,fd,F,d9,hm⟩:=h;refine⟨f,fd,F.ok S (λvs H Q E⟨F,ds,d,s,r,e,_⟩=>?_) (λax A ag s H vs Q E hr⟨Fz,ds,d,sm,r,e,k⟩=>?_),d9,F.kp,hm⟩
 ·unfold Qx at e;split at e;·rename_i z;rw[r.length];exact z
  ·cases e
 ·refine⟨_,hb f ax A ag s H E hr,?_⟩;unfold Qx at e;split at e
  ·rename_i z;have e':Qea (b (sD N.length ds))=some d:=e;cases q:b (sD N.length ds)with|none=>rw[q]at e';cases e'|some fl=>
    rw[q]at e';have cI:start N vs=vs.map some++List.replicate (N.length-vs.length) none:=rfl;rw[cI];refine⟨⟨Fz,H,none⟩,Fz,sD N.length ds,fl,QgR N.length sm r,q,?_⟩;cases fl with
    |nx en=>exact absurd q (ic ds en)|rt d'=>
     cases e';intro v F' H' x r;obtain⟨p,kk,xs,es,rfl,h1,h2,h3,h4,h5,h6⟩:=(show QrT K H F' H' true v d from r);exact k p kk xs es F' H' x.gr h1 h2 h3 h4 h5 h6|bk en=>cases e'|ct en=>cases e'
  ·cases e
end
structure ItOk(K:Fg)(F:Hp)(J:It)(ds:List D):Prop where
 go:∀i F' H',Sm F F'->Sm F' H'->i<ds.length->J.go i H'
 yld:∀i F' H' x H2,Sm F F'->Sm F' H'->i<ds.length->J.yld i H' x H2->∃F2 d,Gr F' H' F2 H2/\ds[i]?=some d/\Rep K F2 x d
 stop:∀i F' H',Sm F F'->Sm F' H'->ds.length<=i->J.stop i H'
noncomputable def tI(X:Cx)(O:List Nat)(it:EvI):TI:=λσ H R=>∃F0 F e ds,RS X.K X.H₀ F0 F H σ e O/\it e=some ds/\∀F' H' J,Gr F H F' H'->ItOk X.K F' J ds->R J H'
section
variable{X:Cx}{O OL:List Nat}{w:Bool}{tg iter:Expr}{body:List Stmt}{pos:Pos}
theorem PI.imp{t t':TI}(h:PI X tg iter t)(q:∀σ H R,t' σ H R->t σ H R):PI X tg iter t':=λaa s σ H R I z=>h aa s σ H R I (q σ H R z)
theorem Qjm{o:Option Fl}{k:EvS}{fl:Fl}(h:YX o k=some fl):∃f,o=some f/\YX (some f) k=some fl:=by cases o with|none=>cases h|some f=>exact⟨f,rfl,h⟩
theorem JL{it:EvI}{g:EvG}{b:EvS}(hc:X.calm=true)(hp:PassesOwn (model X.prog X.w) X.A X.env X.xe)(hi:PI X tg iter (tI X O it))(hg:PG X tg (tG X O O g))(hb:PSs X body (tS X O O O w b))(hs:∀x,foldedSetIterable iter X.env x=pure x:=by intro _;rfl):PS X (.For tg iter body [] pos) (tS X O O OL w (Jg it g b)):=PS.imp (QkP hp hc hi hg hb hs) λDn σ H⟨F0,F,en,fl,rs,z,k⟩=>by
  obtain⟨ds,e1,e2⟩:=QY z;refine⟨F0,F,en,ds,rs,e1,λF1 H1 J g1 io=>?_⟩;refine⟨λi m σ' H'=>m=ds.length-i/\i<=ds.length/\∃F' bg,Sm F1 F'/\RS X.K X.H₀ F0 F' H' σ' bg O/\Yn g b (ds.drop i) bg=some fl,⟨ds.length,by omega,by omega,F1,en,.refl F1,rs.grow g1,by rw[drop_zero];exact e2⟩,?_⟩;rintro i m σ' H'⟨rfl,hle,F',bg,s',bI,e3⟩;rcases lt_or_ge i ds.length with hi|hi
  ·refine .inr ⟨io.go i F' H' s' bI.fh hi,λσ2 H2=>∃m',m'<ds.length-i/\m'=ds.length-(i+1)/\i+1<=ds.length/\∃F' bg,Sm F1 F'/\RS X.K X.H₀ F0 F' H2 σ2 bg O/\Yn g b (ds.drop (i+1)) bg=some fl,λσ2 H2⟨m',h1,h2⟩=>⟨m',h1,h2⟩,λx H2 hy=>?_⟩;obtain⟨F2,d,g2,hd,r2⟩:=io.yld i F' H' x H2 s' bI.fh hi hy;have fI:ds.drop i=d::ds.drop (i+1):=by
    rw[drop_eq_getElem_cons hi];rw[getElem?_eq_getElem hi]at hd;cases hd;rfl
   rw[fI]at e3;obtain⟨f,e4,e5⟩:=Qjm (show YX ((g d bg).bind b) (Yn g b (ds.drop (i+1)))=some fl from e3);obtain⟨fN,e6,e7⟩:=QY (show((g d bg).bind λx=>b x)=some f from e4);refine⟨F0,F2,bg,d,fN,bI.grow g2,r2,e6,λσ3 H3 F3 s3 cL=>?_⟩;refine⟨F0,F3,fN,f,cL,e7,?_⟩;have sA:Sm F1 F3:=(s'.trans g2.ff).trans s3.ff;cases f with
   |nx e=>exact λσ4 F4 H4 s4 cF=>⟨_,by omega,rfl,hi,F4,e,sA.trans s4,cF,e5⟩|ct e=>exact λσ4 F4 H4 s4 cF=>⟨_,by omega,rfl,hi,F4,e,sA.trans s4,cF,e5⟩|bk e=>cases e5;exact λσ4 F4 H4 s4 cF=>k σ4 F4 H4 (g1.ff.trans (sA.trans s4)) cF|rt d=>cases e5;exact k
  ·have hz:ds.drop i=[]:=drop_eq_nil_of_le hi;rw[hz]at e3;cases e3;exact .inl ⟨io.stop i F' H' s' bI.fh hi,k σ' F' H' (g1.ff.trans s') bI⟩
theorem Qft(lo:Int)(n:Nat):(rD lo n).length=n:=by unfold rD;simp
theorem Jf{ev:EvE}(h:PE X iter (tD X O ev)):PI X tg iter (tI X O (QL ev)):=PI.imp (QiE h) λσ H R⟨F0,F,en,ds,rs,z,k⟩=>by obtain⟨d,e1,e2⟩:=QY z;refine⟨F0,F,en,d,rs,e1,λv F1 H1 g1 r1=>?_⟩;have fin:∀(a:Addr)(xs:List V),SqL X.K F1 a xs->Reps X.K F1 xs ds->R (Itl X.K a) H1:=λa xs ha r=>k F1 H1 _ g1 ⟨λi F' H' s s' hi=>by obtain⟨v,h1,_⟩:=r.get (getElem?_eq_getElem hi);exact⟨xs,v,s'.sqL (s.sqL ha),h1⟩,λi F' H' x H2 s s' hi⟨hH,hx⟩=>by subst hH;have dZ:=hx xs (s'.sqL (s.sqL ha));obtain⟨d,h1,h2⟩:=r.getV dZ;exact⟨F',d,.refl s',h1,h2.mono s⟩,λi F' H' s s' hi=>⟨xs,s'.sqL (s.sqL ha),by rw[r.length];exact hi⟩⟩;cases r1 with|@lst a xs ck ha r=>cases e2;exact⟨a,rfl,⟨xs,SqL.of (g1.fh _ _ ha)⟩,fin a xs (SqL.of ha) r⟩|@scr a ns ha=>cases e2;exact⟨a,rfl,⟨_,g1.fh.sqL ha⟩,fin a _ ha (Reps.ints ns)⟩|_=>cases e2
theorem QaG{a:Expr}{p:Pos}{ev:EvE}(hg:Gl X "range")(hm:X.mg "range"=none)(ha:PE X a (tR X O ev))(hs:starEach [a] X.env=[(false,eval a X.env)]:=by rfl):PI X tg (.Call (.Name "range" p) [a] [] pos) (tI X O (Vs ev)):=PI.imp (QqM hg hm (Qe0 ha hs) hs) λσ H R⟨F0,F,en,ds,rs,z,k⟩=>by obtain⟨d,e1,e2⟩:=QY z;cases d with
  |int n=>
   simp only[D.rng]at e2;split at e2
   ·rename_i hz;cases e2;refine⟨F0,F,en,.int n,rs,e1,λv F1 H1 g1 r1=>⟨n,by rw[r1.int],by omega,by omega,k F1 H1 _ g1 ⟨λi F' H' s s' hi=>?_,λi F' H' x H2 s s' hi⟨hH,hx⟩=>?_,λi F' H' s s' hi=>?_⟩⟩⟩;·rw[Qft]at hi;exact hi
    ·subst hH hx;have bY:i<n.toNat:=by rw[Qft]at hi;exact hi
     exact⟨F',.int (0+(i:Int)),.refl s',by simp[rD,bY],.int _⟩
    ·rw[Qft]at hi;exact hi
   ·cases e2|_=>cases e2
end
section
variable{P:Program}{w:World}{K:Fg}{mg:Str->Option Value}{ab:Heap}{x:Str}{st:Stmt}{N ps:List Str}{k:Nat}{b:EvS}
theorem okF{f:Addr}{fd:FuncData}(F:Fun K x x st f fd)(S:FnScope N ps (Qa st)){O' OL:List Nat}(hb:∀(ax:Value)(A:Around)(ag:List Env)(s:Shared)(H:Hp)(E:XK),Room k (A.deeper (envOfC x (Qa st) s.heap.objs.size f ax))->PSs (Vu CX0 P w K mg ab N x (Qa st) f ax A ag s H E).nox (Zf st) (tS (Vu CX0 P w K mg ab N x (Qa st) f ax A ag s H E).nox [] O' OL false b)):FnOk P w K mg ab CX0 (k+1) f fd ps (spD K (Qx N.length ps.length b)):=by
 refine F.ok S (λvs H Q E⟨F,ds,d,s,r,e,_⟩=>?_) (λax A ag s H vs Q E hr⟨Fz,ds,d,sm,r,e,k⟩=>?_)
 ·unfold Qx at e;split at e;·rename_i z;rw[r.length];exact z
  ·cases e
 ·refine⟨_,hb ax A ag s H E hr,?_⟩;unfold Qx at e;split at e
  ·rename_i z;have e':Qea (b (sD N.length ds))=some d:=e;cases q:b (sD N.length ds)with
   |none=>rw[q]at e';cases e'|some fl=>
    rw[q]at e';have cI:start N vs=vs.map some++List.replicate (N.length-vs.length) none:=rfl;rw[cI];refine⟨⟨Fz,H,none⟩,Fz,sD N.length ds,fl,QgR N.length sm r,q,?_⟩;cases fl with
    |nx en=>cases e';exact λσ' F' H' s' rs=>k .non F' H' rs.ex.gr .non|rt d'=>cases e';exact λv F' H' x r=>k v F' H' x.gr r|bk en=>cases e'|ct en=>cases e'
  ·cases e
section
variable{h:Heap}{f:Addr}{oc kV dc pm cd ct:Value}{od an:Option Addr}{cP:Array (Option Value)}
theorem df_mk(X:K.In h)(G:h.Ns mainGlobals mg)(hb:∀(kV doc pm:Value)(an:Option Addr)(ax ct:Value)(us:List Value),us.length=ps.length->bindArgs (W.fnOf x x (Yk st) (Zf st) (Qa st) .none kV doc pm an ax ct) ⟨us,[]⟩=pure (ps.zip us))(a:W.nsIn K mainGlobals x=some (some (.ref f)))(l:K.lookup f=some ⟨oc,od,.func (W.fnOf x x (Yk st) (Zf st) (Qa st) .none kV dc pm an cd ct),cP⟩)(c:W.codeIn K cd x=true)(k:W.keepIn K (.ref f)=true):Df K mg x st ps:=⟨f,_,QkU l c k,(QkU l c k).binds hb,W.mg_of X G a⟩
theorem gint_mk{v:Value}{i:Int}(X:K.In h)(G:h.Ns mainGlobals mg)(a:W.nsIn K mainGlobals x=some (some v))(e:∃t,v=.int i t):∃t,mg x=some (.int i t):=by obtain⟨t,rfl⟩:=e;exact⟨t,W.mg_of X G a⟩
theorem law_mk{fa:Addr}{y:Str}(X:K.In h)(G:h.Ns mainGlobals mg)(lu:mg x=some (.ref fa))(hb:∀(kV doc pm:Value)(an:Option Addr)(ax ct:Value)(u:Value),bindArgs (W.fnOf x x (Yk st) (Zf st) (Qa st) .none kV doc pm an ax ct) ⟨[u],[]⟩=pure [(y,u)])(a:W.nsIn K mainGlobals x=some (some (.ref f)))(l:K.lookup f=some ⟨oc,od,.func (W.fnOf x x (Yk st) (Zf st) (Qa st) .none kV dc pm an cd ct),cP⟩)(c:W.codeIn K cd x=true)(k:W.keepIn K (.ref f)=true):∃fd,(∀(s:Shared)(u:Value),BindsTo s fd ⟨[u],[]⟩ [(y,u)])/\Fun K x x st fa fd:=by have e:=lu.symm.trans (W.mg_of X G a);cases e;exact⟨_,λs u=>.of_eq (hb _ _ _ _ _ _ u),QkU l c k⟩
end
end
theorem Qwc(K:Fg)(f:List D->Option D)(h:∀ns,f [.scr ns]=some (.bl true))(H:Hp)(a:Addr)(ns:List Int)(hS:SqL K H a (ns.map V.int)):spD K f [.ref a] H (λv _=>v=.bl true) λ_ _ _=>False:=⟨H,[.scr ns],.bl true,.refl H,.cons (.scr hS) .nil,h ns,λv F' H' g r=>by cases r;rfl⟩
theorem Quy(K:Fg):Kit K "int":=λd hd=>by cases d<;>first|rfl|exact absurd rfl (hd _)
theorem QsK(K:Fg):Kit K "bool":=λd hd=>by cases d<;>first|rfl|exact absurd rfl (hd _)
theorem Qq7(K:Fg):Kit K "tuple":=λd hd=>by cases d<;>first|rfl|exact absurd rfl (hd _)
theorem Qlx(K:Fg):Kit K "list":=λd hd=>by cases d<;>first|rfl|exact absurd rfl (hd _)
theorem Qux(K:Fg):Kit K "str":=λd hd=>by cases d<;>first|rfl|exact absurd rfl (hd _)
section
variable{X:Cx}{aa:List (Addr×Obj)}{σ:L2.St}{H:Hp}{s:Shared}{h':Heap}
theorem Qnu{t':Nat}{ch:List Addr}{p:Addr}{o:HO}(I:Inv X aa σ H s)(k:∀b u,b∉ch->s.heap.get? b=some u->h'.get? b=some u)(hf:∀b∈ch,QaB X aa H b)(hp:s.heap.objs.size<=p)(new:ObjOk X.prog X.w (upd H p o) h' p o):Inv X aa σ (upd H p o) {s with heap:=h',toks:=t'}:=by
 have hn:H p=none:=I.hok.fresh hp;have dB:∀b u,H b=some u->b∉ch:=λb u e z=>by rw[(hf b z).1]at e;cases e
 refine I.step (g':=s.gens) (d':=s.drawn) (ch:=ch) (λb hb=>?_) (λb o _ _ hc e _=>k b o hc e) (λb o _ _ hc e _=>⟨o.slots,k b o hc e⟩) (λb o _ e n=>?_) (λb o hc e=>⟨o,k b o hc e⟩) (λb xs e=>?_) (λb xs u e=>?_) (λb ps e=>⟨#[],?_⟩) (λm hm=>?_) (λb u e=>?_) I.bare
 ·obtain⟨f0,f1,f2,f3,f4,f5⟩:=hf b hb;exact⟨f3,f1,f4,f5⟩
 ·rw[Qn (ne_of_lt (lt_of_lt_of_le (Heap.lt_size e) hp))];exact n
 ·rw[Qn (J6 e hn)];exact e
 ·rw[Qn (J6 e hn)];exact e
 ·rw[Qn (J6 e hn),e];simp
 ·obtain⟨o,es,ep,ho,r⟩:=hm;exact⟨o,es,ep,k _ o (λz=>(hf _ z).2.1 rfl) ho,r⟩
 ·by_cases hb:b=p;·subst hb;rw[QJ]at e;cases e;exact new
  ·rw[Qn hb]at e;refine(I.hok b u e).stay (λc v hc q=>k c v ?_ q) (λc q=>by rw[Qn (J6 q hn)];exact q) λc xs q=>by rw[Qn (J6 q hn)];exact q
   rcases hc with z|z;·rw[z];exact dB b u e
   ·exact dB c _ z
theorem Qnv{t':Nat}{ch:List Addr}(I:Inv X aa σ H s)(k:∀b u,b∉ch->s.heap.get? b=some u->h'.get? b=some u)(hf:∀b∈ch,QaB X aa H b):Inv X aa σ H {s with heap:=h',toks:=t'}:=by
 have dB:∀b u,H b=some u->b∉ch:=λb u e z=>by rw[(hf b z).1]at e;cases e
 refine I.step (g':=s.gens) (d':=s.drawn) (ch:=ch) (λb hb=>?_) (λb o _ _ hc e _=>k b o hc e) (λb o _ _ hc e _=>⟨o.slots,k b o hc e⟩) (λ_ _ _ _ n=>n) (λb o hc e=>⟨o,k b o hc e⟩) (λ_ _ e=>e) (λ_ _ _ e=>e) (λb ps e=>⟨#[],by rw[e];simp⟩) (λm hm=>?_) (λb u e=>?_) I.bare
 ·obtain⟨f0,f1,f2,f3,f4,f5⟩:=hf b hb;exact⟨f3,f1,f4,f5⟩
 ·obtain⟨o,es,ep,ho,r⟩:=hm;exact⟨o,es,ep,k _ o (λz=>(hf _ z).2.1 rfl) ho,r⟩
 ·refine(I.hok b u e).stay (λc v hc q=>k c v ?_ q) (λ_ q=>q) λ_ _ q=>q;rcases hc with z|z;·rw[z];exact dB b u e
  ·exact dB c _ z
end
def Ite(K:Fg)(a:Addr):It:=⟨λi H=>∃xs x,SqL K H a xs/\xs[i]?=some x,λi H x H'=>∃p y,H p=none/\x=.ref p/\H'=upd H p (.tup [.int i,y])/\∀xs,SqL K H a xs->xs[i]?=some y,λi H=>∃xs,SqL K H a xs/\xs.length<=i⟩
theorem Qqu{P:Program}{w:World}{K:Fg}{elts:List Expr}{x1:Nat}{pos:Pos}(a e it:Addr)(b8:e≠it):Turn P w K (.Tuple elts x1 pos) (Ite K a) [e,it] e (λi h=>∃old,IsEnum h e it i old/\h.IsListIter it a i)where
 mem:=by simp
 obj:=λi h st b hb=>by
  obtain⟨old,he,o,ho,c,d⟩:=st;rcases List.mem_cons.mp hb with z|z;·subst z;exact⟨_,he,λv z=>by have z':Data.fields _=Data.cell v:=z;cases z'⟩
  ·have z:=List.mem_singleton.mp z;subst z;exact⟨o,ho,λv z=>by rw[d]at z;cases z⟩
 keep:=λi h h' st k=>by
  obtain⟨old,he,hi⟩:=st;exact⟨old,k e (by simp) _ he,hi.at λo q=>k it (by simp) o q⟩
 item:=by
  intro X hP hw hK hc i aa s σ H E I hf st hg;subst hP hw hK;obtain⟨old,he,hi⟩:=st;obtain⟨xs,x,hq,hx⟩:=hg;obtain⟨its,rv,p,hz⟩:=I.list hq;obtain⟨u,hu,ru⟩:=rv.get hx;refine wpAny_pyNext_enum_item he hi p.isList (x:=u) (by simpa using hu) b8 λh' eo bY ht hsz kk=>?_;refine⟨_,rfl,wpAny_letOwnedTupleGo_enum eo λh2 cR sb=>?_⟩;have k2:∀b o,b∉[e,it]->s.heap.get? b=some o->h2.get? b=some o:=λb o hb q=>by
   have h1:b≠e:=λz=>hb (by simp[z]);have h3:b≠it:=λz=>hb (by simp[z]);exact(sb.2 b h1).trans (kk b o h1 h3 q)
  have fe:H s.heap.objs.size=none:=I.hok.fresh (le_refl _);have le:e<s.heap.objs.size:=Heap.lt_size he;have fE:h2.get? s.heap.objs.size=some {cls:=.type "tuple",data:=.seq #[.int i s.toks,u]}:=(sb.2 _ (ne_of_gt le)).trans ht;have li:it<s.heap.objs.size:=by obtain⟨o,ho,_⟩:=hi;exact Heap.lt_size ho
  have I2:Inv X aa σ (upd H s.heap.objs.size (.tup [.int i,x])) {s with heap:=h2,toks:=s.toks+1}:=Qnu (t':=s.toks+1) I k2 hf (le_refl _) (show ObjOk X.prog X.w _ h2 _ (.tup [.int i,x])from⟨by show 2<=sizeLine;decide,[.int i s.toks,u],.cons ⟨_,rfl⟩ (.cons ru .nil),⟨_,fE,rfl,_,rfl⟩⟩);refine⟨.ref s.heap.objs.size,_,I2,rfl,⟨_,x,fe,rfl,rfl,λys hy=>by rw[I.list_inj hy hq];exact hx⟩,⟨u,cR,?_⟩,λb hb=>?_⟩;·exact bY.at λo q=>(sb.2 it (Ne.symm b8)).trans q
  ·have:b≠s.heap.objs.size:=by
    rcases List.mem_cons.mp hb with z|z;·rw[z];exact ne_of_lt le
    ·rw[List.mem_singleton.mp z];exact ne_of_lt li
   rw[Qn this];exact(hf b hb).1
 done:=by
  intro X hP hw hK hc i aa s σ H E I hf st hg;subst hP hw hK;obtain⟨old,he,hi⟩:=st;obtain⟨xs,hq,hx⟩:=hg;obtain⟨its,rv,p,hz⟩:=I.list hq;have hl:=rv.length;exact wpAny_pyNext_enum_end (I.ok.hd hc) he hi p.isList (by simp;omega) λh' eb=>⟨rfl,Qnv (t':=s.toks) I (λb o hb q=>eb b o (λz=>hb (by simp[z])) q) hf⟩
 self:=λ_ _ _ _ _ st h=>by obtain⟨old,he,_⟩:=st;exact wpAny_pyIter_enum he h
section
variable{X:Cx}{O:List Nat}{a:Expr}{p pos:Pos}
def Qwo(K:Fg)(ta:TA):TI:=λσ H R=>ta σ H λvs H1=>∃l,vs=[.ref l]/\(∃xs,SqL K H1 l xs)/\R (Ite K l) H1
theorem QtU{elts:List Expr}{x1:Nat}{b9:Pos}{ta:TA}(hg:Gl X "enumerate")(hm:X.mg "enumerate"=none)(ha:PA X [a] ta)(hs:starEach [a] X.env=[(false,eval a X.env)]:=by rfl):PI X (.Tuple elts x1 b9) (.Call (.Name "enumerate" p) [a] [] pos) (Qwo X.K ta):=by
 intro aa s σ H R I h;refine Call_ (QdE I hg hm boot_enumerate (PyProof.Rows.callWith_type1 (thn (ha pos aa s σ H _ I h) λus s1⟨vs,H1,I1,r1,q1⟩=>?_) hs rfl));obtain⟨l,e,⟨xs,hq⟩,q⟩:=q1;subst e;obtain⟨u,rfl,rx⟩:=Qab r1;cases rx;obtain⟨its,rv,pl,hz⟩:=I1.list hq;refine call_enumerate_list pl.isList λh' he hi hsz hk=>?_;have I2:Inv X aa σ H1 {s1 with heap:=h'}:=I1.kept (t':=s1.toks) hk;have fe:∀b,s1.heap.objs.size<=b->H1 b=none:=λb hb=>I1.hok.fresh hb;refine wpAny_pyIter_enum he ⟨_,[s1.heap.objs.size+1,s1.heap.objs.size],_,_,H1,rfl,I2,Qqu l _ _ (Nat.succ_ne_self _),⟨.none,he,hi⟩,λb hb=>?_,q⟩;have:s1.heap.objs.size<=b:=by
  rcases List.mem_cons.mp hb with z|z;·rw[z];exact le_succ _
  ·rw[List.mem_singleton.mp z];exact le_refl _
 exact I1.fpOk this (fe b this)
theorem QjJ:∀(ds:List D)(n i:Nat)(d:D),ds[i]?=some d->(VP n ds)[i]?=some (.tup [.int ((n+i:Nat):Int),d])|[],_,_,_,h=>by simp at h|d::ds,n,0,_,h=>by simp at h;subst h;simp[VP]|d::ds,n,i+1,x,h=>by have:=QjJ ds (n+1) i x (by simpa using h);rw[VP,getElem?_cons_succ,this,show n+1+i=n+(i+1)by omega]
theorem Qfx:∀(ds:List D)(n:Nat),(VP n ds).length=ds.length|[],_=>rfl|d::ds,n=>by rw[VP,length_cons,length_cons,Qfx]
theorem Qge{elts:List Expr}{x1:Nat}{b9:Pos}{ev:EvE}(hg:Gl X "enumerate")(hm:X.mg "enumerate"=none)(ha:PE X a (tD X O ev))(hs:starEach [a] X.env=[(false,eval a X.env)]:=by rfl):PI X (.Tuple elts x1 b9) (.Call (.Name "enumerate" p) [a] [] pos) (tI X O (Qbv ev)):=PI.imp (QtU hg hm (Jw ha ZI hs) hs) λσ H R⟨F0,F,en,lZ,rs,z,k⟩=>by obtain⟨d,e1,e2⟩:=QY z;obtain⟨ds,e3,rfl⟩:=Zi e2;refine⟨F0,F,en,d,rs,e1,λv F1 H1 g1 r1=>?_⟩;have fin:∀(l:Addr)(xs:List V),SqL X.K F1 l xs->Reps X.K F1 xs ds->R (Ite X.K l) H1:=λl xs hl r=>k F1 H1 _ g1 ⟨λi F' H' s s' hi=>by rw[Qfx]at hi;obtain⟨v,h1,_⟩:=r.get (getElem?_eq_getElem hi);exact⟨xs,v,s'.sqL (s.sqL hl),h1⟩,λi F' H' x H2 s s' hi hy=>by obtain⟨p,y,hp,rfl,rfl,hx⟩:=hy;have dZ:=hx xs (s'.sqL (s.sqL hl));obtain⟨d,h1,h2⟩:=r.getV dZ;have g:=Gr.new s' hp (.tup [.int i,y]);refine⟨_,.tup [.int i,d],g,?_,.tup QJ (.cons (.int _) (.cons ((h2.mono s).mono g.ff) .nil))⟩;have:=QjJ ds 0 i d h1;rw[this,Nat.zero_add],λi F' H' s s' hi=>⟨xs,s'.sqL (s.sqL hl),by rw[Qfx]at hi;rw[r.length];exact hi⟩⟩;cases r1 with|@lst l xs ck hl r=>cases e3;exact⟨l,rfl,⟨xs,SqL.of (g1.fh _ _ hl)⟩,fin l xs (SqL.of hl) r⟩|@scr l ns hl=>cases e3;exact⟨l,rfl,⟨_,g1.fh.sqL hl⟩,fin l _ hl (Reps.ints ns)⟩|_=>cases e3
end
section
variable{env:Env}
theorem QeC:∀(names:List (Str×NameKind))(cs:List (Str×Addr)),(∀x∈names,x.2=.free->∃c,env.cells.lookup x.1=some c)->(∀x c,cs.lookup x=some c->env.cells.lookup x=some c)->∃cl,(forIn (m:=Sem) names cs ((λx r=>match x with|(name,kind)=>if(kind==NameKind.free)=true then do let c<-cellOf env name;pure (ForInStep.yield ((name,c)::r))else pure (ForInStep.yield r)):(Str×NameKind)->List (Str×Addr)->Sem (ForInStep (List (Str×Addr)))))=pure cl/\(∀x c,cl.lookup x=some c->env.cells.lookup x=some c)/\∀x,((∃c,cs.lookup x=some c)\/(x,NameKind.free)∈names)->∃c,cl.lookup x=some c
 |[],cs,_,hP=>⟨cs,rfl,hP,λx h=>by
   rcases h with h|h;·exact h
   ·cases h⟩|(n,k)::names,cs,hf,hP=>by
  rw[List.forIn_cons];by_cases hk:k=.free
  ·subst hk;obtain⟨c,hc⟩:=hf (n,.free) mem_cons_self rfl;have b7:cellOf env n=pure c:=by unfold cellOf;rw[hc]
   obtain⟨cl,h1,h2,h3⟩:=QeC names ((n,c)::cs) (λx hx=>hf x (mem_cons_of_mem _ hx)) (λx c' h=>by
    rw[lookup_cons]at h;split at h
    ·rename_i z;cases h;rw[eq_of_beq z];exact hc
    ·exact hP x c' h);refine⟨cl,?_,h2,λx h=>h3 x ?_⟩
   ·rw[<-h1];simp only[beq_self_eq_true,if_true,b7];rfl
   ·rcases h with⟨c',h⟩|h
    ·left;rw[lookup_cons];split;·exact⟨_,rfl⟩
     ·exact⟨c',h⟩
    ·rcases List.mem_cons.mp h with h|h
     ·cases h;left;exact⟨c,by simp⟩
     ·exact .inr h
  ·have hb:(k==NameKind.free)=false:=by simpa using hk
   obtain⟨cl,h1,h2,h3⟩:=QeC names cs (λx hx=>hf x (mem_cons_of_mem _ hx)) hP;refine⟨cl,?_,h2,λx h=>h3 x ?_⟩
   ·rw[<-h1];simp only[hb,Bool.false_eq_true,if_false];rfl
   ·rcases h with h|h;·exact .inl h
    ·rcases List.mem_cons.mp h with h|h
     ·cases h;exact absurd rfl hk
     ·exact .inr h
theorem Qkl{scope:Scope}(hf:∀x∈scope.names,x.2=.free->∃c,env.cells.lookup x.1=some c):∃cl,closureFor scope env=pure cl/\(∀x c,cl.lookup x=some c->env.cells.lookup x=some c)/\∀x,(x,NameKind.free)∈scope.names->∃c,cl.lookup x=some c:=by obtain⟨cl,h1,h2,h3⟩:=QeC scope.names [] hf (λx c h=>by cases h);refine⟨cl,?_,h2,λx h=>h3 x (.inr h)⟩;have e:closureFor scope env=((forIn (m:=Sem) scope.names [] ((λx r=>match x with|(name,kind)=>if(kind==NameKind.free)=true then do let c<-cellOf env name;pure (ForInStep.yield ((name,c)::r))else pure (ForInStep.yield r)):(Str×NameKind)->List (Str×Addr)->Sem (ForInStep (List (Str×Addr)))))>>=λr=>pure r):=rfl;rw[e,h1];rfl
theorem Qbk(env:Env):∀(names:List (Str×NameKind))(x:Str),(names.map λ(n,k)=>if(k==NameKind.free&&env.scope.kind==.function&&env.kindOf n==some .cell)then(n,NameKind.cell)else(n,k)).lookup x=(names.lookup x).map λk=>if(k==NameKind.free&&env.scope.kind==.function&&env.kindOf x==some .cell)then NameKind.cell else k
 |[],_=>rfl|(n,k)::names,x=>by
  have ih:=Qbk env names x;rw[map_cons,lookup_cons];show List.lookup x ((if(k==NameKind.free&&env.scope.kind==.function&&env.kindOf n==some .cell)=true then(n,NameKind.cell)else(n,k))::_)=_;cases hx:x==n with
  |true=>
   have:=eq_of_beq hx;subst this;by_cases hc:(k==NameKind.free&&env.scope.kind==.function&&env.kindOf x==some .cell)=true
   ·rw[if_pos hc,lookup_cons,hx];rw[lookup_cons,hx];simp only[map_some];rw[if_pos hc]
   ·rw[if_neg hc,lookup_cons,hx];rw[lookup_cons,hx];simp only[map_some];rw[if_neg hc]|false=>
   by_cases hc:(k==NameKind.free&&env.scope.kind==.function&&env.kindOf n==some .cell)=true;·rw[if_pos hc,lookup_cons,lookup_cons,hx];exact ih
   ·rw[if_neg hc,lookup_cons,lookup_cons,hx];exact ih
theorem mem_of_lookup{α β:Type}[BEq α][LawfulBEq α]:∀{l:List (α×β)}{x:α}{y:β},l.lookup x=some y->(x,y)∈l
 |[],_,_,h=>by cases h|(a,b)::l,x,y,h=>by
  rw[lookup_cons]at h;split at h;·rename_i z;cases h;rw[eq_of_beq z];exact mem_cons_self
  ·exact mem_cons_of_mem _ (mem_of_lookup h)
end
noncomputable def Qcs(X:Cx)(scope:Scope)(N':List Str)(cl:List (Str×Addr))(C:Addr)(ex:List Addr)(s:Shared)(H:Hp)(pn:List (Addr×Obj)):Cx:={X with N:=N',env:=compEnvC scope cl C X.env,s₀:=s,H₀:=H,ag:=X.stack,ex:=ex,fn:=λ_=>false,pn:=pn,xe:=λ_ _=>False}
structure CompSc(X:Cx)(scope:Scope)(n:Nat)(N':List Str)(caps:List Nat):Prop where
 kind:scope.kind=.function
 nocell:∀y∈scope.names,y.2≠.cell
 loc:∀x∈scope.names,x.2=.local->scope.names.lookup x.1=some .local
 fre:∀x∈scope.names,x.2=.free->X.env.kindOf x.1=some .cell\/X.env.kindOf x.1=some .free
 len:N'.length=n+caps.length
 cap:∀(j i:Nat),caps[j]?=some i->∃x,N'[n+j]?=some x/\X.N[i]?=some x/\scope.names.lookup x=some .free
 nd:N'.Nodup
section
variable{X:Cx}{aa:List (Addr×Obj)}{σ:L2.St}{H:Hp}{s:Shared}{scope:Scope}{n:Nat}{N':List Str}{caps:List Nat}{cl:List (Str×Addr)}{C:Addr}{ex:List Addr}
theorem Qru(S:CompSc X scope n N' caps){x:Str}(h:(compEnvC scope cl C X.env).kindOf x=some .cell\/(compEnvC scope cl C X.env).kindOf x=some .free):(x,NameKind.free)∈scope.names:=by have e:(compEnvC scope cl C X.env).kindOf x=(scope.names.lookup x).map λk=>if(k==NameKind.free&&X.env.scope.kind==.function&&X.env.kindOf x==some .cell)then NameKind.cell else k:=Qbk X.env scope.names x;rw[e]at h;cases q:scope.names.lookup x with|none=>rw[q]at h;rcases h with h|h<;>cases h|some k=>have m:=mem_of_lookup q;cases k with|free=>exact m|cell=>exact absurd rfl (S.nocell _ m)|_=>rw[q]at h;rcases h with h|h<;>simp at h
theorem Qrv(I:Inv X aa σ H s)(S:CompSc X scope n N' caps)(hC:s.heap.objs.size<=C)(cN:∀x c,cl.lookup x=some c->X.env.cells.lookup x=some c)(cK:∀x,(x,NameKind.free)∈scope.names->∃c,cl.lookup x=some c)(hex:∀b∈ex,QaB X aa H b/\b≠C)(pn:List (Addr×Obj)):(Qcs X scope N' cl C ex s H pn).Ok where
 mod:=I.ok.mod
 kind:=S.kind
 glob:=I.ok.glob
 blt:=I.ok.blt
 above:=hC
 inj:=λx y c h1 h2=>I.ok.inj x y c (cN x c h1) (cN y c h2)
 has:=λx h=>cK x (Qru (cl:=cl) (C:=C) S h)
 cab:=λx c h=>by cases h
 hd:=I.ok.hd
 frames:=I.ok.frames
 stk:=.inl rfl
 exf:=λb hb=>⟨(hex b hb).2,λx c h=>(hex b hb).1.2.2.2.2.1 x c (cN x c h)⟩
 bs:=I.bs
 bsz:=le_trans I.ok.bsz I.sz
 noex:=λb o e hb=>by
  rcases(hex b hb).1.2.2.2.1 with z|z;·exact I.ok.noex b o e z
  ·exact absurd (lt_of_lt_of_le (Heap.lt_size e) (le_trans I.ok.bsz z)) (lt_irrefl _)
 exfs:=λb hb hf=>by
  obtain⟨⟨_,h1,h2,_⟩,_⟩:=hex b hb;rcases List.mem_cons.mp (I.stkSub b hf)with z|z;·exact h1 z
  ·exact h2 z
 funs:=I.stack
 frf:=I.stkFree
end
theorem Qrt{prog:Program}{w:World}{A:Around}{R:Result->Shared->Prop}{s:Shared}{elt target iter:Expr}{ifs:List Expr}{scope:Scope}{pos:Pos}{it acc:Value}{env:Env}{E:Value->Shared->Prop}(hE:∀x s,¬E x s)(J:Nat->Shared->Prop)(turn:∀n s,J n s->wpAny (model prog w) A (pyNext it) (λr s₁=>match r with|none=>R (.ok .next) s₁|some v=>wpAny (model prog w) A (letOwnedTupleGo target it v) (λ_ s₁=>wpAny (model prog w) A (assign target env v) (λ_ s₂=>wpAny (model prog w) A (forIn ifs true λc r=>if r=true then do let ok<-isTrue c env (eval c env);pure (ForInStep.yield ok)else pure (ForInStep.yield r)) (λok s₃=>if ok=true then wpAny (model prog w) A (eval elt env) (λx s₄=>wpAny (model prog w) A (call (.builtin "list.append") [acc,x]) (λ_ s₅=>∃m,m<n/\J m s₅) E s₄) E s₃ else∃m,m<n/\J m s₃) E s₂) E s₁) E s₁) E s)(n:Nat)(h:J n s):codeAny (model prog w) A (.compLoop (.ListComp elt [⟨target,iter,ifs,0⟩] scope pos) 0 it acc env) R s:=by have no:∀{E':Value->Shared->Prop}x s,E x s->E' x s:=λx s h=>absurd h (hE x s);refine codeAny_loop rfl J (λn s hI=>?_) n h;show wpAny _ A ((compTurn (.ListComp elt [⟨target,iter,ifs,0⟩] scope pos) 0 it acc env).onRaise (λx=>do noteFrame x env;theTreesLotGoes x)) _ _ s;refine wpAny_noted ?_;rw[compTurn_list];refine wpAny_bind (wpAny_standAt (wpAny_bind (wpAny_mono (turn n s hI) (λr s₁ h₁=>?_) λx s h'=>no x s h')));cases r with|none=>exact wpAny_pure h₁|some v=>refine wpAny_bind (wpAny_mono h₁ (λ_ s₂ h₂=>wpAny_bind (wpAny_mono h₂ (λ_ s₂ h₂=>wpAny_bind (wpAny_mono h₂ (λok s₃ h₃=>?_) λx s h'=>no x s h')) λx s h'=>no x s h')) λx s h'=>no x s h');cases ok with|false=>exact wpAny_pure ⟨rfl,h₃⟩|true=>exact wpAny_bind (wpAny_bind (wpAny_mono h₃ (λx s₄ h₄=>wpAny_bind (wpAny_mono h₄ (λ_ s₅ h₅=>wpAny_pure (wpAny_pure ⟨rfl,h₅⟩)) λx s h'=>no x s h')) λx s h'=>no x s h'))
def PIf(X:Cx)(ifs:List Expr)(t:TT):Prop:=∀(aa:List (Addr×Obj))(s:Shared)(σ:L2.St)(H:Hp)(Q:Bool->Hp->Prop),Inv X aa σ H s->t σ H Q->wpAny (model X.prog X.w) X.A (forIn ifs true λc r=>if r=true then do let ok<-isTrue c X.env (eval c X.env);pure (ForInStep.yield ok)else pure (ForInStep.yield r)) (TP X aa σ Q) X.xe s
section
variable{X:Cx}
theorem Z3{O:List Nat}:PIf X [] (tDT X O (eC (.bl true))):=λaa s σ H Q I⟨F0,F,en,b,rs,w,k⟩=>by cases w;exact wpAny_pure ⟨H,I,k F H (.refl rs.fh)⟩
theorem Qau{O:List Nat}{c:Expr}{ev:EvE}(h:PT X c (tDT X O ev)):PIf X [c] (tDT X O ev):=λaa s σ H Q I t=>by simp only[List.forIn_cons,List.forIn_nil,if_true];exact wpAny_bind (wpAny_bind (wpAny_mono (h aa s σ H Q I t) (λb s' hb=>wpAny_pure (wpAny_pure hb)) λ_ _ x=>x))
end
section
variable{X:Cx}{aa:List (Addr×Obj)}{σ:L2.St}{H:Hp}{s:Shared}{scope:Scope}{n:Nat}{N':List Str}{caps:List Nat}{cl:List (Str×Addr)}{fp:List Addr}
noncomputable def Qe5(n:Nat)(caps:List Nat)(σ:L2.St):L2.St:=List.replicate n none++caps.map λi=>(σ[i]?).join
theorem QpD(I:Inv X aa σ H s)(S:CompSc X scope n N' caps)(cN:∀x c,cl.lookup x=some c->X.env.cells.lookup x=some c)(cK:∀x,(x,NameKind.free)∈scope.names->∃c,cl.lookup x=some c)(d7:∀b∈fp,QaB X aa H b/\b<s.heap.objs.size){h1:Heap}{tk:Nat}(eW:h1.Ns (s.heap.objs.size+1) λ_=>none)(old:∀b o,(s.heap.push {cls:=.type "list",data:=.seq #[]}).get? b=some o->h1.get? b=some o):Inv (Qcs X scope N' cl (s.heap.objs.size+1) (s.heap.objs.size::fp) {s with heap:=s.heap.push {cls:=.type "list",data:=.seq #[]}} H (X.pn++aa)) [] (Qe5 n caps σ) (upd H s.heap.objs.size (.lst [])) {s with heap:=h1,toks:=tk}:=by
 have hz:(s.heap.push {cls:=.type "list",data:=.seq #[]}).objs.size=s.heap.objs.size+1:=Heap.size_push ..;have up:∀b o,s.heap.get? b=some o->h1.get? b=some o:=λb o e=>old b o (Heap.get?_push_of_some _ e);have bF:H s.heap.objs.size=none:=I.hok.fresh (le_refl _);have hC:H (s.heap.objs.size+1)=none:=I.hok.fresh (le_succ _);have I3:Inv X aa σ H {s with heap:=s.heap.push {cls:=.type "list",data:=.seq #[]}}:=I.kept (t':=s.toks) λb o e=>Heap.get?_push_of_some _ e;have eI:∀x c,X.env.cells.lookup x=some c->c<s.heap.objs.size:=λx c e=>by
  obtain⟨v,o,ho,_⟩:=I.cell x c e;exact Heap.lt_size ho
 refine⟨Qrv I3 S (by rw[hz];exact le_refl _) cN cK (λb hb=>?_) _,rfl,I.bare,⟨λb o e _ _ _=>old b o e,λb o e _ _ _=>⟨o.slots,old b o e⟩,λb o e n hb=>?_,λb o e _=>⟨o,old b o e⟩,λb xs e=>?_,λb o u e=>?_,λb ps e=>⟨#[],?_⟩⟩,⟨_,eW,λi x v e1 e2 _=>?_⟩,λx c e=>?_,?_,λx c e=>?_,λp hp=>?_,I.hok.laid up (le_refl _) ⟨zero_le _,[],0,.nil,old _ _ (Heap.get?_push_size _ rfl)⟩,?_⟩
 ·rcases List.mem_cons.mp hb with z|z;·subst z;exact⟨I.fpOk (le_refl _) bF,ne_of_lt (Nat.lt_succ_self _)⟩
  ·exact⟨(d7 b z).1,ne_of_lt (lt_succ_of_lt (d7 b z).2)⟩
 ·rw[Qn (λz=>hb (by rw[z];exact mem_cons_self))];exact n
 ·rw[Qn (J6 e bF)];exact e
 ·rw[Qn (J6 e bF)];exact e
 ·have e':H b=some (.tbl ps):=e;rw[Qn (J6 e' bF),e'];simp
 ·unfold Qe5 at e2;rcases lt_or_ge i n with hi|hi
  ·rw[getElem?_append_left (by simpa using hi),getElem?_replicate,if_pos hi]at e2;cases e2
  ·rw[getElem?_append_right (by simpa using hi),length_replicate,getElem?_map]at e2;cases q:caps[i-n]? with
   |none=>rw[q]at e2;cases e2|some j=>
    rw[q]at e2;obtain⟨x',f1,f2,f3⟩:=S.cap (i-n) j q;rw[show n+(i-n)=i by omega]at f1;have gN:N'[i]?=some x:=e1;rw[f1]at gN;cases gN;have fO:(σ[j]?).join=some v:=Option.some.inj e2;have e3:σ[j]?=some (some v):=by cases w:σ[j]? with|none=>rw[w]at fO;cases fO|some o=>rw[w]at fO;cases o with|none=>cases fO|some u=>cases fO;rfl
    have hm:=mem_of_lookup f3;have kx:=S.fre _ hm rfl;obtain⟨m,_,hl⟩:=I.loc;obtain⟨u,r,lk⟩:=hl j x v f2 e3 (by
     rcases kx with z|z;·exact .inr (.inl z)
     ·exact .inr (.inr z));refine⟨u,r,.inr ⟨?_,?_⟩⟩
    ·have e:(compEnvC scope cl (s.heap.objs.size+1) X.env).kindOf x=(scope.names.lookup x).map λk=>if(k==NameKind.free&&X.env.scope.kind==.function&&X.env.kindOf x==some .cell)then NameKind.cell else k:=Qbk X.env scope.names x;have e':(compEnvC scope cl (s.heap.objs.size+1) X.env).kindOf x=some (if(NameKind.free==NameKind.free&&X.env.scope.kind==.function&&X.env.kindOf x==some .cell)then NameKind.cell else NameKind.free):=by rw[e,f3];rfl
     show(compEnvC scope cl (s.heap.objs.size+1) X.env).kindOf x=some .cell\/(compEnvC scope cl (s.heap.objs.size+1) X.env).kindOf x=some .free;rw[e'];split;·exact .inl rfl
     ·exact .inr rfl
    ·obtain⟨c,hc⟩:=cK x hm;rcases lk with⟨z,_⟩|⟨_,c',gI,o,ho,hd⟩;·rcases kx with w|w<;>(rw[z]at w;cases w)
     ·have:=cN x c hc;rw[gI]at this;cases this;exact⟨c,hc,o,up c o ho,hd⟩
 ·obtain⟨v,o,ho,hd⟩:=I.cell x c (cN x c e);exact⟨v,o,up c o ho,hd⟩
 ·show upd H s.heap.objs.size (.lst []) (s.heap.objs.size+1)=none;rw[Qn (Nat.succ_ne_self _)];exact hC
 ·rw[Qn (ne_of_lt (eI x c (cN x c e)))];exact I.freeC x c (cN x c e)
 ·have bW:p∈X.pn++aa:=by simpa[Qcs]using hp
  obtain⟨k1,k2,k3,k4,k5⟩:=I.pin p bW;have lt:p.1<s.heap.objs.size:=Heap.lt_size k1;refine⟨up _ _ k1,?_,ne_of_lt (lt_succ_of_lt lt),λhb=>?_,k5⟩;·rw[Qn (ne_of_lt lt)];exact k2
  ·rcases List.mem_cons.mp (I.stkSub _ hb)with z|z;·exact k3 z
   ·exact k4 z
 ·show(Qe5 n caps σ).length=N'.length;rw[S.len];simp[Qe5]
end
def QbZ(X:Cx)(scope:Scope)(N':List Str)(P:Cx->Prop):Prop:=∀(cl:List (Str×Addr))(C:Addr)(ex:List Addr)(s:Shared)(H:Hp)(pn:List (Addr×Obj)),P (Qcs X scope N' cl C ex s H pn)
section
variable{X:Cx}{O:List Nat}{scope:Scope}{n:Nat}{N':List Str}{caps:List Nat}{tg iter elt:Expr}{ifs:List Expr}{pos:Pos}{it:EvI}{g:EvG}{c el:EvE}
theorem QvC{K:Fg}{H₀:Hp}{F0:Fz}{F H:Hp}{σ:L2.St}{en:Qj}(r:RS K H₀ F0 F H σ en O)(hO:∀i∈caps,i∉O):RS K H ⟨F,H,none⟩ F H (Qe5 n caps σ) (Qdi n caps en) []where
 fh:=r.fh
 hh:=.refl H
 ff:=.refl F
 fr:=λ_ _ h=>.inl h
 slot:=λi d h _=>by
  unfold Qdi at h;unfold Qe5;rcases lt_or_ge i n with hi|hi;·rw[getElem?_append_left (by simpa using hi),getElem?_replicate,if_pos hi]at h;cases h
  ·rw[getElem?_append_right (by simpa using hi),length_replicate,getElem?_map]at h;rw[getElem?_append_right (by simpa using hi),length_replicate,getElem?_map];cases q:caps[i-n]? with
   |none=>rw[q]at h;cases h|some j=>
    rw[q]at h;have h':(en[j]?).join=some d:=Option.some.inj h;have e3:en[j]?=some (some d):=by cases w:en[j]? with|none=>rw[w]at h';cases h'|some o=>rw[w]at h';cases o with|none=>cases h'|some u=>cases h';rfl
    have hj:j∈caps:=mem_of_getElem? q;obtain⟨v,h1,h2⟩:=r.slot j d e3 (hO j hj);refine⟨v,?_,h2⟩;simp[h1]
 own:=λi d _ h=>by cases h
 dis:=λi j p _ _ h=>by cases h
 pin:=λi h=>by cases h
 len:=by unfold Qe5 Qdi;simp
theorem QpT{K:Fg}{H₀:Hp}{F0:Fz}{F H:Hp}{σ:L2.St}{en:Qj}{p:Addr}{o:HO}(r:RS K H₀ F0 F H σ en [])(h0:F0.h p=none)(hf:F p=none):RS K H₀ F0 F (upd H p o) σ en []where
 fh:=r.fh.upd o hf
 hh:=r.hh.upd o h0
 ff:=r.ff
 fr:=r.fr
 slot:=r.slot
 own:=λi d _ h=>by cases h
 dis:=λi j p _ _ h=>by cases h
 pin:=λi h=>by cases h
 len:=r.len
theorem QsN{α:Type}{o:Option D}{x y:Option α}{r:α}(h:ifO o x y=some r):∃b,o=some (.bl b)/\(b=true->x=some r)/\(b=false->y=some r):=by
 obtain⟨b,h1,h2⟩:=Y2 h;refine⟨b,h1,λz=>?_,λz=>?_⟩;·subst z;exact h2
 ·subst z;exact h2
structure ItOkH(K:Fg)(F H:Hp)(J:It)(ds:List D):Prop where
 go:∀i F' H',Sm F F'->Sm F' H'->Sm H H'->i<ds.length->J.go i H'
 yld:∀i F' H' x H2,Sm F F'->Sm F' H'->Sm H H'->i<ds.length->J.yld i H' x H2->∃F2 d,Gr F' H' F2 H2/\ds[i]?=some d/\Rep K F2 x d
 stop:∀i F' H',Sm F F'->Sm F' H'->Sm H H'->ds.length<=i->J.stop i H'
noncomputable def tIH(X:Cx)(O:List Nat)(it:EvI):TI:=λσ H R=>∃F0 F e ds,RS X.K X.H₀ F0 F H σ e O/\it e=some ds/\∀F' H' J,Gr F H F' H'->ItOkH X.K F' H' J ds->R J H'
theorem dih(h:PI X tg iter (tI X O it)):PI X tg iter (tIH X O it):=PI.imp h λσ H R⟨F0,F,en,ds,rs,z,k⟩=>⟨F0,F,en,ds,rs,z,λF' H' J g io=>k F' H' J g ⟨λi F2 H2 a b _=>io.go i F2 H2 a b,λi F2 H2 x H3 a b _=>io.yld i F2 H2 x H3 a b,λi F2 H2 a b _=>io.stop i F2 H2 a b⟩⟩
theorem Qwy(i:Nat){x:Str}{p:Pos}(hN:X.N[i]?=some x:=by rfl)(hv:Vis X.env.scope x:=by first|exact Or.inl rfl|exact Or.inr (Or.inl rfl)|exact Or.inr (Or.inr rfl))(hd:(x==("__debug__":Str))=false:=by decide)(bQ:(x==("__classdict__":Str))=false:=by decide):PI X tg (.Name x p) (tIH X O (QL (eV i))):=PI.imp (QiE (ZS (O:=O) i hN hv hd bQ)) λσ H R⟨F0,F,en,ds,rs,z,k⟩=>by obtain⟨d,e1,e2⟩:=QY z;refine⟨F0,F,en,d,rs,e1,λv F1 H1 g1 r1=>?_⟩;have fin:∀(a:Addr)(xs:List V),SqL X.K H1 a xs->Reps X.K F1 xs ds->R (Itl X.K a) H1:=λa xs ha r=>k F1 H1 _ g1 ⟨λi F' H' s s' sh hi=>by obtain⟨v,h1,_⟩:=r.get (getElem?_eq_getElem hi);exact⟨xs,v,sh.sqL ha,h1⟩,λi F' H' x H2 s s' sh hi⟨hH,hx⟩=>by subst hH;have dZ:=hx xs (sh.sqL ha);obtain⟨d,h1,h2⟩:=r.getV dZ;exact⟨F',d,.refl s',h1,h2.mono s⟩,λi F' H' s s' sh hi=>⟨xs,sh.sqL ha,by rw[r.length];exact hi⟩⟩;cases d with|lst ck=>cases e2;obtain⟨a,xs,rfl,h,r⟩:=r1.lst g1.fh;exact⟨a,rfl,⟨xs,SqL.of h⟩,fin a xs (SqL.of h) r⟩|scr ns=>cases e2;obtain⟨a,rfl,h⟩:=r1.scr;exact⟨a,rfl,⟨_,g1.fh.sqL h⟩,fin a _ (g1.fh.sqL h) (Reps.ints ns)⟩|_=>cases e2
theorem QjO(hx:X.xe=λ_ _=>False)(hc:X.calm=true)(S:CompSc X scope n N' caps)(hO:∀i∈caps,i∉O)(hi:PI X tg iter (tIH X O it))(hg:QbZ X scope N' λY=>PG Y tg (tG Y [] [] g))(ht:QbZ X scope N' λY=>PIf Y ifs (tDT Y [] c))(he:QbZ X scope N' λY=>PE Y elt (tD Y [] el))(hs:∀x,foldedSetIterable iter X.env x=pure x){use:Option (Value->Sem Unit)}{Qv:Value->Shared->Prop}{aH:Pos}{aa:List (Addr×Obj)}{σ:L2.St}{H:Hp}{s:Shared}(I:Inv X aa σ H s){F0:Fz}{F:Hp}{en:Qj}{ds tot:List D}(rs:RS X.K X.H₀ F0 F H σ en O)(e1:it en=some ds)(hlen:ds.length<=lI)(e3:QaE g c el ds (Qdi n caps en)=some tot)(jc:∀acc C s' H' F' xs m,H acc=none->Inv X aa σ H' s'->QaB X aa H' C->s'.heap.Ns C m->Gr F H F' H'->F' acc=none->H' acc=some (.lst xs)->Reps X.K F' xs tot->compPost (model X.prog X.w) X.A X.xe use Qv (.ref acc) C (.ok .next) s'):wpAny (model X.prog X.w) X.A (comprehension (.ListComp elt [⟨tg,iter,ifs,0⟩] scope pos) scope X.env aH (newList []) false (eval iter X.env) use) Qv X.xe s:=by
 obtain⟨cl,i8,cN,cK⟩:=Qkl (scope:=scope) (env:=X.env) λx hx hk=>I.ok.has x.1 (S.fre x hx hk);refine wpAny_comprehension_free (use:=use) rfl hs i8 S.kind S.loc ?_;refine thn (hi aa s σ H _ I ⟨F0,F,en,ds,rs,e1,λF' H' J gr io=>⟨F',gr,io⟩⟩:wpAny (model X.prog X.w) X.A (eval iter X.env) (λv s1=>wpAny (model X.prog X.w) X.A (pyIter v) (PIE X aa σ tg λJ H'=>∃F',Gr F H F' H'/\ItOkH X.K F' H' J ds) X.xe s1) X.xe s) λv s1 h1=>?_;refine thn h1 λgW s2 h2=>?_;obtain⟨gX,fp,tn,J,H2,rfl,I2,T,dw,f2,F2,gr,io⟩:=h2;have fM:∀b∈fp,QaB X aa H2 b/\b<s2.heap.objs.size:=λb hb=>by
  obtain⟨o,ho,_⟩:=T.obj 0 _ dw b hb;exact⟨f2 b hb,Heap.lt_size ho⟩
 have bF:H2 s2.heap.objs.size=none:=I2.hok.fresh (le_refl _);have hz:(s2.heap.push {cls:=.type "list",data:=.seq #[]}).objs.size=s2.heap.objs.size+1:=Heap.size_push ..;refine wpAny_newObj_type (wpAny_newFunctionEnv S.nocell (by intro y hy;simp at hy) (λh1 fY fX=>?_) S.kind);dsimp only at fY fX⊢;have eW:h1.Ns (s2.heap.objs.size+1) λ_=>none:=by
  have q:=fY;rw[hz]at q;exact q
 have old:∀b o,(s2.heap.push {cls:=.type "list",data:=.seq #[]}).get? b=some o->h1.get? b=some o:=λb o e=>fX.extBut b o (ne_of_lt (Heap.lt_size e)) (Heap.get?_push_of_some _ e);have I4:=QpD (tk:=s2.toks+([]:List (Str×Value)).length) I2 S cN cK fM eW old;have loop:∀(R:Result->Shared->Prop),(∀s' H' F' xs m,Inv (Qcs X scope N' cl (s2.heap.objs.size+1) (s2.heap.objs.size::fp) {s2 with heap:=s2.heap.push {cls:=.type "list",data:=.seq #[]}} H2 (X.pn++aa)) [] m H' s'->Gr F2 H2 F' H'->F' s2.heap.objs.size=none->H' s2.heap.objs.size=some (.lst xs)->Reps X.K F' xs tot->R (.ok .next) s')->codeAny (model X.prog X.w) X.A (.compLoop (.ListComp elt [⟨tg,iter,ifs,0⟩] scope pos) 0 (.ref gX) (.ref s2.heap.objs.size) (compEnvC scope cl (s2.heap.objs.size+1) X.env)) R {s2 with heap:=h1,toks:=s2.toks+([]:List (Str×Value)).length}:=by
  intro R hR;have gY:=hg cl (s2.heap.objs.size+1) (s2.heap.objs.size::fp) {s2 with heap:=s2.heap.push {cls:=.type "list",data:=.seq #[]}} H2 (X.pn++aa);have tY:=ht cl (s2.heap.objs.size+1) (s2.heap.objs.size::fp) {s2 with heap:=s2.heap.push {cls:=.type "list",data:=.seq #[]}} H2 (X.pn++aa);have eY:=he cl (s2.heap.objs.size+1) (s2.heap.objs.size::fp) {s2 with heap:=s2.heap.push {cls:=.type "list",data:=.seq #[]}} H2 (X.pn++aa);generalize hY:Qcs X scope N' cl (s2.heap.objs.size+1) (s2.heap.objs.size::fp) {s2 with heap:=s2.heap.push {cls:=.type "list",data:=.seq #[]}} H2 (X.pn++aa)=Y at I4 gY tY eY hR;have yK:Y.K=X.K:=by rw[<-hY];rfl
  have yP:Y.prog=X.prog:=by rw[<-hY];rfl
  have yW:Y.w=X.w:=by rw[<-hY];rfl
  have yA:Y.A=X.A:=by rw[<-hY];rfl
  have yH:Y.H₀=H2:=by rw[<-hY];rfl
  have yE:Y.env=compEnvC scope cl (s2.heap.objs.size+1) X.env:=by rw[<-hY];rfl
  have yX:Y.xe=λ_ _=>False:=by rw[<-hY];rfl
  have yc:Y.calm=true:=by rw[<-hY];exact hc
  have yf:Y.fs=frs X.stack:=by rw[<-hY];rfl
  have yx:Y.ex=s2.heap.objs.size::fp:=by rw[<-hY];rfl
  have yp:Y.pn=X.pn++aa:=by rw[<-hY];rfl
  have stat:∀{H':Hp},(∀b∈fp,H' b=none)->∀b∈fp,QaB Y [] H' b:=λhn b hb=>by
   obtain⟨⟨_,q1,q2,q3,q4,q5⟩,q6⟩:=fM b hb;refine⟨hn b hb,?_,?_,.inl ?_,λx c e=>?_,λp hp=>q5 p ?_⟩;·rw[yE];exact ne_of_lt (lt_succ_of_lt q6)
   ·rw[yf];intro hf;rcases List.mem_cons.mp (I2.stkSub b hf)with w|w;·exact q1 w
    ·exact q2 w
   ·rw[yx];exact mem_cons_of_mem _ hb
   ·rw[yE]at e;exact q4 x c (cN x c e)
   ·rw[yp]at hp;simpa using hp
  rw[<-yP,<-yW,<-yA,<-yE];have T':Turn Y.prog Y.w Y.K tg J fp gX tn:=by rw[yP,yW,yK];exact T
  have iP:∀b∈fp,b≠s2.heap.objs.size:=λb hb=>ne_of_lt (fM b hb).2;refine Qrt (E:=Y.xe) (λx s h=>by rw[yX]at h;exact h) (λm s'=>∃i σ' H' F' bg xs done Jq,m=ds.length-i/\i<=ds.length/\Inv Y [] σ' H' s'/\tn i s'.heap/\(∀b∈fp,H' b=none)/\RS X.K H2 ⟨F2,H2,none⟩ F' H' σ' bg []/\H' s2.heap.objs.size=some (.lst xs)/\F' s2.heap.objs.size=none/\Reps X.K F' xs done/\QaE g c el (ds.drop i) bg=some Jq/\done++Jq=tot/\done.length<=i) ?_ ds.length ⟨0,Qe5 n caps σ,_,F2,Qdi n caps en,[],[],tot,by omega,by omega,I4,T.keep 0 _ _ dw (λb hb o e=>old b o (Heap.get?_push_of_some _ e)),λb hb=>?_,QpT (QvC (rs.grow gr) hO) bF ((rs.grow gr).fh.none bF),QJ,(rs.grow gr).fh.none bF,.nil,by rw[drop_zero];exact e3,rfl,le_refl _⟩
  ·rintro m s3⟨i,σ3,H3,F3,iE,xs,done,Jq,rfl,hle,I3,dU,fL,cL,iu,jM,r3,q3,df,dl3⟩;have gL:Gr F2 H2 F3 H3:=cL.ex.gr;rcases lt_or_ge i ds.length with hi|hi
   ·refine thn (T'.item Y rfl rfl rfl yc i [] s3 σ3 H3 Y.xe I3 (stat fL) dU (io.go i F3 H3 gL.ff cL.fh cL.hh hi)) λr s4⟨u,hr,h4⟩=>?_;subst hr;refine thn h4 λ_ s5⟨x,H5,I5,r5,y5,dS,iA⟩=>?_;obtain⟨F5,dx,g5,jH,j5⟩:=io.yld i F3 H3 x H5 gL.ff cL.fh cL.hh hi y5;have fI:ds.drop i=dx::ds.drop (i+1):=by
     rw[drop_eq_getElem_cons hi];rw[getElem?_eq_getElem hi]at jH;cases jH;rfl
    rw[fI]at q3;obtain⟨fj,q4,q5⟩:=QY (show((g dx iE).bind λe1=>ifO (c e1) ((el e1).bind λx=>(QaE g c el (ds.drop (i+1)) e1).map λr=>x::r) (QaE g c el (ds.drop (i+1)) e1))=some Jq from q3);obtain⟨b,q6,qt,qf⟩:=QsN q5;have iI:=I5.pinned (stat iA) (T.obj _ _ dS);have a5:H5 s2.heap.objs.size=some (.lst xs):=g5.hh _ _ iu;have n5:F5 s2.heap.objs.size=none:=by cases w:F5 s2.heap.objs.size with|none=>rfl|some o=>
      rcases g5.fr _ o w with z|z;·rw[jM]at z;cases z
      ·rw[iu]at z;cases z
    have ka:RS Y.K Y.H₀ ⟨F2,H2,none⟩ F5 H5 σ3 iE []:=by rw[yK,yH];exact cL.grow g5
    refine thn (gY _ s5 σ3 H5 x u (λσ' H'=>∃F',Gr F5 H5 F' H'/\RS Y.K Y.H₀ ⟨F2,H2,none⟩ F' H' σ' fj []) iI r5 ⟨⟨F2,H2,none⟩,F5,iE,dx,fj,ka,by rw[yK];exact j5,q4,λσ' H' F' g' r'=>⟨F',g',r'⟩⟩) λ_ s6⟨σ6,H6,I6,F6,g6,jh⟩=>?_;have keepN:∀{Fa Ha Fb Hb:Hp},Gr Fa Ha Fb Hb->Ha s2.heap.objs.size=some (.lst xs)->Fa s2.heap.objs.size=none->Hb s2.heap.objs.size=some (.lst xs)/\Fb s2.heap.objs.size=none:=λ{Fa Ha Fb Hb}gg ha fa=>by refine⟨gg.hh _ _ ha,?_⟩;cases w:Fb s2.heap.objs.size with|none=>rfl|some o=>
      rcases gg.fr _ o w with z|z;·rw[fa]at z;cases z
      ·rw[ha]at z;cases z
    obtain⟨a6,n6⟩:=keepN g6 a5 n5;refine thn (tY _ s6 σ6 H6 (λb' H'=>b'=b/\∃F',Gr F6 H6 F' H') I6 ⟨⟨F2,H2,none⟩,F6,fj,b,jh,q6,λF' H' g'=>⟨rfl,F',g'⟩⟩) λok s7⟨H7,I7,hb,F7,g7⟩=>?_;subst hb;obtain⟨a7,n7⟩:=keepN g7 a6 n6;have gn:=jh.grow g7;have je:Sm F3 F7:=(g5.ff.trans g6.ff).trans g7.ff;have back:∀{σ8:L2.St}{H8:Hp}{s8:Shared},Inv Y ([]++Qfa fp s5.heap) σ8 H8 s8->Inv Y [] σ8 H8 s8/\tn (i+1) s8.heap/\∀b∈fp,H8 b=none:=λ{σ8 H8 s8}I8=>by
     refine⟨I8.unpinned,T.keep _ _ _ dS λb hb o e=>(I8.pin (b,o) (mem_append_right _ (mem_append_right _ (Qb2 hb e)))).1,λb hb=>?_⟩;obtain⟨o,e,_⟩:=T.obj _ _ dS b hb;exact(I8.pin (b,o) (mem_append_right _ (mem_append_right _ (Qb2 hb e)))).2.1
    cases ok with
    |false=>rw[if_neg Bool.false_ne_true];obtain⟨k1,k2,k3⟩:=back I7;exact⟨_,by omega,i+1,σ6,H7,F7,fj,xs,done,Jq,rfl,hi,k1,k2,k3,by rw[yK,yH]at gn;exact gn,a7,n7,r3.mono je,qf rfl,df,by omega⟩|true=>
     rw[if_pos rfl];obtain⟨dy,q8,q9⟩:=QY (qt rfl);obtain⟨gb,ke,kc⟩:=Zi q9;refine thn (eY _ s7 σ6 H7 (λv' H'=>∃F',Gr F7 H7 F' H'/\Rep Y.K F' v' dy) I7 ⟨⟨F2,H2,none⟩,F7,fj,dy,gn,q8,λv' F' H' g' r'=>⟨F',g',r'⟩⟩) λy s8⟨y',H8,I8,j4,F8,g8,jj⟩=>?_;obtain⟨a8,n8⟩:=keepN g8 a7 n7;have jg:=gn.grow g8;have j0:Sm F3 F8:=je.trans g8.ff;have iR:xs.length<sizeLine:=by rw[Ym,r3.length];omega
     refine thn (Qav (X:=Y) _ s8 σ6 H8 (.ref s2.heap.objs.size) [y'] (.ref s2.heap.objs.size) [y] (λv' H'=>H'=upd H8 s2.heap.objs.size (.lst (xs++[y']))) I8 rfl (.cons j4 .nil) ⟨_,xs,y',rfl,rfl,a8,iR,rfl⟩) λ_ s9⟨v9,H9,I9,_,lL⟩=>?_;subst lL;obtain⟨k1,k2,k3⟩:=back I9;rw[yK,yH]at jg;rw[yK]at jj;refine⟨_,by omega,i+1,σ6,_,F8,fj,xs++[y'],done++[dy],gb,rfl,hi,k1,k2,k3,QpT jg bF n8,QJ,n8,(r3.mono j0).append (.cons jj .nil),ke,?_,?_⟩;·rw[append_assoc];rw[<-df,<-kc];rfl
     ·rw[length_append,List.length_singleton];omega
   ·have gA:ds.drop i=[]:=drop_eq_nil_of_le hi;rw[gA]at q3;cases q3;rw[append_nil]at df;subst df;refine thn (T'.done Y rfl rfl rfl yc i [] s3 σ3 H3 Y.xe I3 (stat fL) dU (io.stop i F3 H3 gL.ff cL.fh cL.hh hi)) λr s4⟨hr,mf⟩=>?_;subst hr;exact hR s4 H3 F3 xs σ3 mf gL jM iu r3
  ·rw[Qn (iP b hb)];exact(fM b hb).1.1
 have I3:Inv X aa σ H2 {s2 with heap:=s2.heap.push {cls:=.type "list",data:=.seq #[]}}:=I2.kept (t':=s2.toks) λb o e=>Heap.get?_push_of_some _ e;have fin:∀s' H' F' xs m,Inv (Qcs X scope N' cl (s2.heap.objs.size+1) (s2.heap.objs.size::fp) {s2 with heap:=s2.heap.push {cls:=.type "list",data:=.seq #[]}} H2 (X.pn++aa)) [] m H' s'->Gr F2 H2 F' H'->F' s2.heap.objs.size=none->H' s2.heap.objs.size=some (.lst xs)->Reps X.K F' xs tot->compPost (model X.prog X.w) X.A X.xe use Qv (.ref s2.heap.objs.size) (s2.heap.objs.size+1) (.ok .next) s':=by
  intro s' H' F' xs m I' g' fa ha r';obtain⟨mm,eX,_⟩:=id I'.loc;have fC:H' (s2.heap.objs.size+1)=none:=I'.free;have IX:Inv X aa σ H' s':=I3.call' (s':=s') (ch:=s2.heap.objs.size::fp) I'.os I'.ab I'.hok I'.bare λb hb=>by
   rcases List.mem_cons.mp hb with w|w
   ·obtain⟨_,q1,_,q3,q4,q5⟩:=I2.fpOk (b:=b) (H':=H2) (by rw[w];exact le_refl _) (by rw[w];exact bF);exact⟨q3,q1,q4,q5⟩
   ·obtain⟨⟨_,q1,_,q3,q4,q5⟩,_⟩:=fM b w;exact⟨q3,q1,q4,q5⟩
  exact jc s2.heap.objs.size (s2.heap.objs.size+1) s' H' F' xs mm (gr.hh.none bF) IX (I2.fpOk (H':=H') (le_succ _) fC) eX (gr.trans g') fa ha r'
 have gQ:tn 0 h1:=T.keep 0 _ _ dw (λb hb o e=>old b o (Heap.get?_push_of_some _ e));have L:=loop (compPost (model X.prog X.w) X.A X.xe use Qv (.ref s2.heap.objs.size) (s2.heap.objs.size+1)) fin;show codeAny (model X.prog X.w) X.A (.compStart (.ListComp elt [⟨tg,iter,ifs,0⟩] scope pos) 0 (.ref gX) (.ref s2.heap.objs.size) (compEnvC scope cl (s2.heap.push {cls:=.type "list",data:=.seq #[]}).objs.size X.env)) (compPost (model X.prog X.w) X.A X.xe use Qv (.ref s2.heap.objs.size) (s2.heap.push {cls:=.type "list",data:=.seq #[]}).objs.size) _;rw[hz];exact codeAny_compStart_list L (T.self _ 0 _ _ _ gQ L)
theorem QhI{aa:List (Addr×Obj)}{σ:L2.St}{H:Hp}{s:Shared}{C:Addr}{h':Heap}(I:Inv X aa σ H s)(f:QaB X aa H C)(sb:Heap.SameBut C s.heap h'):Inv X aa σ H {s with heap:=h'}:=by obtain⟨f0,f1,_,f3,f4,f5⟩:=f;exact I.turned (t':=s.toks) (λb o hb e=>(sb.2 b hb).trans e) f0 f1 f3 f4 f5
theorem Zg(hx:X.xe=λ_ _=>False)(hc:X.calm=true)(S:CompSc X scope n N' caps)(hO:∀i∈caps,i∉O)(hi:PI X tg iter (tIH X O it))(hg:QbZ X scope N' λY=>PG Y tg (tG Y [] [] g))(ht:QbZ X scope N' λY=>PIf Y ifs (tDT Y [] c))(he:QbZ X scope N' λY=>PE Y elt (tD Y [] el))(hs:∀x,foldedSetIterable iter X.env x=pure x:=by intro _;rfl):PE X (.ListComp elt [⟨tg,iter,ifs,0⟩] scope pos) (tO X O (Q2 n caps it g c el)):=by
 intro aa s σ H Q I⟨F0,F,en,d,rs,z,k⟩;obtain⟨ds,e1,e2⟩:=QY z;split at e2;case isFalse=>cases e2
 case isTrue hlen=>
 obtain⟨tot,e3,rfl⟩:=Zi e2;rw[eval_ListComp];refine QjO hx hc S hO hi hg ht he hs (use:=none) I rs e1 hlen e3 λacc C s' H' F' xs m n1 I' fC hn gr fa ha r'=>?_;exact⟨m,hn,λh' sb=>⟨.ref acc,H',QhI I' fC sb,rfl,k acc none xs tot F' H' gr n1 fa ha r' rfl trivial⟩⟩
theorem QhZ(i:Nat){x:Str}{p fQ:Pos}{OL:List Nat}{w:Bool}(hN:X.N.Nodup)(hx:X.xe=λ_ _=>False)(hc:X.calm=true)(S:CompSc X scope n N' caps)(hO:∀i∈caps,i∉O)(hi:PI X tg iter (tIH X O it))(hg:QbZ X scope N' λY=>PG Y tg (tG Y [] [] g))(ht:QbZ X scope N' λY=>PIf Y ifs (tDT Y [] c))(he:QbZ X scope N' λY=>PE Y elt (tD Y [] el))(kD:X.N[i]?=some x:=by rfl)(kT:Loc X.env.scope x:=by first|exact Or.inl rfl|exact Or.inr rfl)(hf:X.fn x=true\/X.env.scope.names.lookup x=some .local:=by first|exact .inl rfl|exact .inr rfl)(d6:swapsWith (.ListComp elt [⟨tg,iter,ifs,0⟩] scope pos) (some (.Name x p)) fQ.line X.env=pure true:=by rfl)(hs:∀x,foldedSetIterable iter X.env x=pure x:=by intro _;rfl)(hq:Q4 i∉O:=by decide)(ij:i<1000:=by decide):PS X (.Assign [.Name x p] (.ListComp elt [⟨tg,iter,ifs,0⟩] scope pos) fQ) (tS X O (ad i O) OL w (Qc (Q2 n caps it g c el) (gS i))):=by
 intro aa s σ H Dn I⟨F0,F,en,fl,rs,z,k⟩;obtain⟨d,z1,z2⟩:=QY z;obtain⟨bg,z3,rfl⟩:=Zi z2;cases z3;obtain⟨ds,e1,e2⟩:=QY z1;split at e2;case isFalse=>cases e2
 case isTrue hlen=>
 obtain⟨tot,e3,rfl⟩:=Zi e2;rw[exec_Assign_Name_used _ _ _ _ d6];refine wpAny_bind (wpAny_standAt (wpAny_bind ?_));show wpAny _ X.A (do let _<-comprehension (.ListComp elt [⟨tg,iter,ifs,0⟩] scope pos) scope X.env _ (newList []) false (eval iter X.env) (some (assign (.Name x p) X.env))) _ _ s;refine wpAny_bind (thn (QjO hx hc S hO hi hg ht he hs (use:=some (assign (.Name x p) X.env)) (Qv:=λ_ s'=>SP X aa Dn .next s') I rs e1 hlen e3 λacc C s' H' F' xs m n1 I' fC hn gr fa ha r'=>?_) λ_ s' hq=>wpAny_pure (wpAny_pure hq));show wpAny _ X.A (assign (.Name x p) X.env (.ref acc)) _ _ s';refine wpAny_assign_Name (Qjo I' hN kD kT (show RelV (.ref acc) (.ref acc)from rfl) (λgi mh cO=>?_) hf);obtain⟨a,sb,fb⟩:=cO;have lM:C≠a:=by
  obtain⟨_,f1,_,_,f4,_⟩:=fC;rcases fb with q|q;·rw[q];exact f1
  ·exact λzz=>f4 x a q zz.symm
 have bI:=rs.grow gr;refine⟨m,hn.sameBut sb lM,λh' j3=>⟨_,H',QhI mh fC j3,k _ F' H' gr.ff (bI.putO' (kk:=none) i (rs.hh.none n1) fa ha trivial r' (λj d' hj q2 _ q=>?_) hq (λj z=>by unfold Q4 at z;omega))⟩⟩;obtain⟨p',_,ys,es,h1,_,_,h4,_⟩:=rs.own j d' q2 hj;rw[h1]at q;cases q;rw[n1]at h4;cases h4
end
theorem Qki(cps:Array Nat)(i k:Nat):((List.range k).map λm=>i+m).filterMap (cps[·]?)=(cps.toList.drop i).take k:=by
 rw[List.filterMap_map];induction k generalizing i with
 |zero=>simp|succ k ih=>
  rw[List.range_succ_eq_map,filterMap_cons,List.filterMap_map];have e0:((λx=>cps[x]?)∘λm=>i+m) 0=cps[i]?:=by simp
  have e1:((λx=>cps[x]?)∘λm=>i+m)∘Nat.succ=(λx=>cps[x]?)∘λm=>i+1+m:=by funext m;simp only[Function.comp];rw[show i+Nat.succ m=i+1+m by omega]
  rw[e0,e1,ih (i+1)];cases q:cps[i]? with
  |none=>
   have hz:cps.toList.length<=i:=by
    rcases lt_or_ge i cps.size with h|h;·rw[Array.getElem?_eq_getElem h]at q;cases q
    ·simpa using h
   rw[drop_eq_nil_of_le hz,drop_eq_nil_of_le (le_succ_of_le hz)];simp|some v=>
   have hi:i<cps.toList.length:=by
    rcases lt_or_ge i cps.size with h|h;·simpa using h
    ·rw[Array.getElem?_eq_none h]at q;cases q
   have hv:cps.toList[i]=v:=by
    have:cps.toList[i]?=some v:=by simpa using q
    rw[getElem?_eq_getElem hi]at this;exact Option.some.inj this
   rw[drop_eq_getElem_cons hi,hv,List.take_succ_cons]
theorem QlL(v:Option Int)(n d:Nat)(hd:d<=n):(match v with|none=>(d:Int)|some i=>max 0 (min (if i<0 then i+(n:Int)else i) (n:Int)))=((YA n d v:Nat):Int):=by cases v with|none=>rfl|some i=>simp only[YA];split<;>omega
theorem Qi6(a b:Nat):sliceRange (a:Int) (b:Int) 1=(List.range (b-a)).map λm=>a+m:=by
 unfold sliceRange;simp only[show(1:Int)>0 by decide,if_true];have hc:(if(a:Int)<(b:Int)then((b:Int)-(a:Int)+1-1)/1 else 0).toNat=b-a:=by
  split;·rw[Int.ediv_one];omega
  ·omega
 rw[hc];apply map_congr_left;intro m _;omega
theorem Qpj(lo hi:Option Int)(n:Nat):Builtin.Str.strSliceIndices lo hi 1 n=(List.range (YA n n hi-YA n 0 lo)).map λm=>YA n 0 lo+m:=by rw[<-Qi6];unfold Builtin.Str.strSliceIndices;simp only[show(1:Int)>0 by decide,if_true];have h1:=QlL lo n 0 (zero_le _);have h2:=QlL hi n n (le_refl _);cases lo<;>cases hi<;>dsimp only at h1 h2⊢<;>rw[<-h1,<-h2]<;>rfl
theorem Qqw(x:Str)(lo hi:Option Int):Txt.slice x lo hi=QaA x lo hi:=by
 unfold Txt.slice QaA Z1;have hl:x.cps.toList.length=x.length:=by simp[Str.length]
 rw[Qpj,length_map,length_range,hl];split
 ·rename_i h;have h':YA x.length x.length hi-YA x.length 0 lo=x.length:=by simpa using h
  have b1:YA x.length x.length hi<=x.length:=by cases hi with|none=>exact le_refl _|some v=>simp only[YA];split<;>omega
  by_cases z:x.length=0
  ·have:x.cps.toList=[]:=List.length_eq_zero_iff.mp (by rw[hl];exact z);obtain⟨c⟩:=x;have hc:c=#[]:=by simpa using this
   subst hc;simp
  ·have b2:YA x.length 0 lo=0:=by omega
   rw[h',b2,drop_zero,<-hl,take_length]
 ·rw[Qki]
section
variable{X:Cx}{O:List Nat}{e a b:Expr}{pos:Pos}
def QxE:V->Option Int->Option Int->Hp->VK->Prop:=λx lo hi H Q=>∃z,x=.str z/\z.length<=sizeLine/\Q (.str (QaA z lo hi)) H
theorem QnF{v:Value}{o:Option Int}(p:IsPart v o):∃l:Option (Int×Tok),partValue l=v/\l.map (·.1)=o:=by cases p with|none=>exact⟨none,rfl,rfl⟩|int i t=>exact⟨some (i,t),rfl,rfl⟩
theorem Qvz:SlR X QxE:=by
 intro aa s σ H x v vl vu lo hi sl Q I rx hs pl pu h;obtain⟨z,rfl,hz,q⟩:=h;obtain⟨t,rfl⟩:=(show∃t,v=Value.str z t from rx);obtain⟨l,rfl,rfl⟩:=QnF pl;obtain⟨u,rfl,rfl⟩:=QnF pu;refine⟨"str",_,F.slot_str_getitem.lookup,typeIs_str _ _ _,wpAny_getItem_str_slice (l:=l) (u:=u) (st:=none) hs rfl ?_⟩;have e:=Qqw z (l.map (·.1)) (u.map (·.1));refine post_val_or_str ⟨?_,λt' k=>?_⟩;·exact le_trans (Txt.slice_le z (l.map (·.1)) (u.map (·.1))) hz
 ·have:EP X aa σ Q (.str (Txt.slice z (l.map (·.1)) (u.map (·.1))) t') {s with toks:=k}:=by rw[e];exact⟨.str (QaA z _ _),H,I.tok k,⟨t',rfl⟩,q⟩
  exact this
theorem Vo{ev:EvE}{lo hi:Option Expr}{el eh:EvO}{p2:Pos}(he:PE X e (tR X O ev))(hl:PO X lo (tOI X O el))(hu:PO X hi (tOI X O eh)):PE X (.Subscript e (.Slice lo hi none p2) pos) (tD X O (JF ev el eh)):=PE.imp (Qsj (SlR.or Qvz (SlR.or QtB Qvy)) he hl hu) λσ H Q⟨F0,F,en,d,rs,w,k⟩=>by
  obtain⟨dx,e1,w1⟩:=QY w;obtain⟨l,u,e2,e3,e4⟩:=QbY w1;refine⟨F0,F,en,dx,rs,e1,λx F1 H1 g1 r1=>?_⟩;refine⟨F0,F1,en,l,rs.grow g1,e2,λF2 H2 g2=>?_⟩;refine⟨F0,F2,en,u,(rs.grow g1).grow g2,e3,λF3 H3 g3=>?_⟩;have dJ:=(g1.trans g2).trans g3;have r3:=(r1.gr g2).gr g3;have s3:=g3.fh;cases dx with
  |str z=>
   simp only[ZD]at e4;split at e4
   ·rename_i hz;cases e4;exact .inl ⟨z,r3.str,by rw[Ym];exact hz,k _ F3 H3 dJ (.str _)⟩
   ·cases e4|lst ds=>cases e4;obtain⟨p,xs,rfl,h,r⟩:=r3.lst s3;refine .inr (.inl ⟨p,xs,rfl,SqL.of h,λq hq=>?_⟩);have g:=Gr.new s3 hq (.lst (QbP xs l u));exact k _ _ _ (dJ.trans g) (.lst QJ ((Qg2 r l u).mono g.ff))|scr ns=>
   cases e4;obtain⟨p,rfl,h⟩:=r3.scr;refine .inr (.inl ⟨p,_,rfl,s3.sqL h,λq hq=>?_⟩);have g:=Gr.new s3 hq (.lst (QbP (ns.map V.int) l u));have r:Reps X.K F3 (QbP (ns.map V.int) l u) (Z1 (ns.map D.int) l u):=Qg2 (Reps.ints ns) l u;have hc:Z1 (ns.map D.int) l u=(Z1 ns l u).map D.int:=by unfold Z1;rw[length_map,<-List.map_drop,<-List.map_take]
   rw[hc]at r;exact k _ _ _ (dJ.trans g) (.lst QJ (r.mono g.ff))|tup ds=>
   have e5:(if YA ds.length 0 l=0/\YA ds.length ds.length u=ds.length then none else some (D.tup (Z1 ds l u)))=some d:=e4;split at e5;·cases e5
   ·rename_i hw;cases e5;obtain⟨p,xs,rfl,h,r⟩:=r3.tup;refine .inr (.inr ⟨p,xs,rfl,SqT.of (s3 _ _ h),?_,λq hq=>?_⟩);·rw[r.length];exact hw
    ·have g:=Gr.new s3 hq (.tup (QbP xs l u));exact k _ _ _ (dJ.trans g) (.tup QJ ((Qg2 r l u).mono g.ff))|_=>cases e4
def QvE:V->List V->Hp->VK->Prop:=λx xs H Q=>∃z,x=.str z/\xs=[]/\z.length<=sizeLine/\Q (.str (Txt.strip z)) H
theorem QsC:MtR X "str.strip" QvE:=by intro aa s σ H x xs v us Q I rx rs h;obtain⟨z,rfl,rfl,hz,q⟩:=h;obtain⟨t,rfl⟩:=show∃t,v=Value.str z t from rx;cases Vals.zero rs;exact SCL.strip (λt' k _=>⟨.str (Txt.strip z),H,I.tok k,⟨t',rfl⟩,q⟩) hz
theorem QlG{ev:EvE}{apos:Pos}(ha:PE X a (tR X O ev))(bH:attributeBase a "strip" X.env (eval a X.env)=eval a X.env:=by rfl)(bG:(apos.endLine==pos.line)=true:=by rfl):PE X (.Call (.Attribute a "strip" apos) [] [] pos) (tD X O (eUn D.strip ev)):=PE.imp (QvS PySem.F.plainAttrs_str PySem.F.slot_str_strip PySem.F.type_str_strip QsC ha bH bG) λσ H Q⟨F0,F,en,d,rs,w,k⟩=>by
  obtain⟨dx,e1,e2⟩:=QY w;refine⟨F0,F,en,dx,rs,e1,λv F1 H1 g1 r1=>?_⟩;cases dx with
  |str z=>
   simp only[D.strip]at e2;split at e2
   ·rename_i hz;cases e2;rw[r1.str];exact⟨rfl,z,rfl,rfl,by rw[Ym];exact hz,k _ F1 H1 g1 (.str _)⟩
   ·cases e2|_=>cases e2
theorem QjG(c:Array Nat):∀(k:Nat)(acc:Array Nat),(List.replicate k c).foldl (·++·) acc=(acc.toList++(List.replicate k c.toList).flatten).toArray|0,acc=>by simp|k+1,acc=>by rw[replicate_succ,foldl_cons,QjG c k,replicate_succ,flatten_cons];simp
theorem Qv8(x:Str)(n:Int):Txt.mul x n=YV x n:=by
 unfold Txt.mul YV;split;·rename_i h;rw[show n.toNat=0 by omega];rfl
 ·split
  ·rename_i h1 h2;by_cases z:n=1
   ·subst z;obtain⟨c⟩:=x;simp
   ·have hx:x.length=0:=by
     rcases Bool.or_eq_true _ _|>.mp h2 with w|w;·exact absurd (eq_of_beq w) z
     ·exact eq_of_beq w
    obtain⟨c⟩:=x;have hc:c=#[]:=by simpa[Str.length]using hx
    subst hc;simp
  ·rw[QjG];simp
def QoE:R2:=λx y H Q=>∃z n,x=.str z/\y=.int n/\-1073741824<n/\n<1073741824/\z.length*n.toNat<=lI/\Q (.str (YV z n)) H
theorem Qt3:OpR X (binaryOp .Mult) QoE:=by
 intro aa s σ H x y v u Q I rx ry h;obtain⟨z,n,rfl,rfl,h1,h2,h3,q⟩:=h;obtain⟨t,rfl⟩:=show∃t,v=Value.str z t from rx;obtain⟨t2,rfl⟩:=show∃t,u=Value.int n t from ry;have ok:MulOk z n:=by
  refine⟨? _,λhn hc=>? _,λhn hc=>? _⟩;·rw[decide_eq_false (by omega),decide_eq_false (by omega)];rfl
  ·have hz:z.length<=lI:=by
    have:1<=n.toNat:=by omega
    exact le_trans (Nat.le_mul_of_pos_right _ this) h3
   have:(9223372036854775807:Int)/n≥8589934591:=by apply Int.le_ediv_of_mul_le (by omega);omega
   have e:(2:Int)^63-1=9223372036854775807:=by decide
   rw[e];unfold lI at hz;omega
  ·have h4:z.length*n.toNat<=sizeLine:=by rw[Ym];exact h3
   unfold Builtin.Str.tooLong;simpa using h4
 exact SB.mul ok λt' k=>by rw[Qv8];exact⟨.str (YV z n),H,I.tok k,⟨t',rfl⟩,q⟩
theorem ZA:OpR X (binaryOp .Mult) (λx y H Q=>(rI CMul λi j=>.int (i*j)) x y H Q\/(QoE x y H Q\/QrJ x y H Q))/\Op2 X (λx y H Q=>(rI CMul λi j=>.int (i*j)) x y H Q\/(QoE x y H Q\/QrJ x y H Q)) D.mulA:=by
 refine⟨OpR.or Qp1 (OpR.or Qt3 QvW),λF H x y dx dy d Q s rx ry e k=>?_⟩;cases dx<;>cases dy<;>try(simp[D.mulA]at e;done)
 case int.int i j=>exact .inl (Qt4.2 F H x y (.int i) (.int j) d Q s rx ry e k)
 case str.int z n=>
  simp only[D.mulA]at e;split at e
  ·rename_i h;cases e;exact .inr (.inl ⟨z,n,rx.str,ry.int,h.1,h.2.1,h.2.2,k _ F H (.refl s) (.str _)⟩)
  ·cases e
 case lst.int ds n=>
  simp only[D.mulA]at e;split at e
  ·rename_i h;cases e;obtain⟨p,xs,rfl,hp,r⟩:=rx.lst s;refine .inr (.inr ⟨p,n,xs,rfl,ry.int,hp,by omega,by omega,by rw[Ym,r.length];exact h.2.2,λq hq=>?_⟩);have g:=Gr.new s hq (.lst (List.replicate n.toNat xs).flatten);have rr:Reps X.K F (List.replicate n.toNat xs).flatten (List.replicate n.toNat ds).flatten:=by
    generalize n.toNat=m;induction m with
    |zero=>exact .nil|succ m ih=>rw[replicate_succ,replicate_succ,flatten_cons,flatten_cons];exact r.append ih
   exact k _ _ _ g (.lst QJ (rr.mono g.ff))
  ·cases e
end
section
variable{X:Cx}{O:List Nat}{e a b:Expr}{pos:Pos}
theorem QnV{K:Fg}{F H:Hp}{x:V}{d:D}(r:RdD K F H x d)(h:Zn d=true):Qbw x=true/\Rep K F x d:=by cases d with|non=>rw[r.non];exact⟨rfl,.non⟩|bl b=>rw[r.bl];exact⟨rfl,.bl b⟩|int i=>rw[r.int];exact⟨rfl,.int i⟩|str z=>rw[r.str];exact⟨rfl,.str z⟩|_=>cases h
theorem Qxd{K:Fg}{F:Hp}{x y:V}{dx dy:D}(rx:Rep K F x dx)(ry:Rep K F y dy)(hx:Zn dx=true)(hy:Zn dy=true):eqV y x=(D.eq dy dx==some true):=by cases rx with
 |non=>cases ry with
  |non=>rfl|bl q=>simp[D.eq,D.oth,eqV]|int q=>simp[D.eq,D.oth,eqV]|str q=>simp[D.eq,D.oth,eqV]|_=>cases hy
 |bl p=>cases ry with
  |non=>simp[D.eq,D.oth,eqV]|bl q=>cases p<;>cases q<;>rfl|int q=>
   have h:D.eq (.int q) (.bl p)=some (decide (q=b2i p)):=by rw[D.eq]
   rw[h];show(q==if p then 1 else 0)=(some (decide (q=b2i p))==some true);by_cases z:q=b2i p;·rw[decide_eq_true z,z];unfold b2i;simp
   ·rw[decide_eq_false z];have:(q==if p then 1 else 0)=false:=by apply beq_eq_false_iff_ne.mpr;intro w;exact z w
    rw[this];rfl|str q=>simp[D.eq,D.oth,eqV]|_=>cases hy
 |int p=>cases ry with
  |non=>simp[D.eq,D.oth,eqV]|bl q=>
   have h:D.eq (.bl q) (.int p)=some (decide (b2i q=p)):=by rw[D.eq]
   rw[h];show((if q then 1 else 0)==p)=(some (decide (b2i q=p))==some true);by_cases z:b2i q=p;·rw[decide_eq_true z,<-z];unfold b2i;simp
   ·rw[decide_eq_false z];have:((if q then 1 else 0)==p)=false:=by
     apply beq_eq_false_iff_ne.mpr;intro w;exact z w
    rw[this];rfl|int q=>
   rw[QC];show(q==p)=(some (decide (q=p))==some true);by_cases z:q=p;·rw[decide_eq_true z,z,beq_self_eq_true];rfl
   ·rw[decide_eq_false z,beq_eq_false_iff_ne.mpr z];rfl|str q=>simp[D.eq,D.oth,eqV]|_=>cases hy
 |str p=>cases ry with
  |non=>simp[D.eq,D.oth,eqV]|bl q=>simp[D.eq,D.oth,eqV]|int q=>simp[D.eq,D.oth,eqV]|str q=>
   rw[QF];show(q==p)=(some (decide (q=p))==some true);by_cases z:q=p;·rw[decide_eq_true z,z,beq_self_eq_true];rfl
   ·rw[decide_eq_false z,beq_eq_false_iff_ne.mpr z];rfl|_=>cases hy
 |_=>cases hx
theorem QoK{K:Fg}{F:Hp}{x:V}{dx:D}(rx:Rep K F x dx)(hx:Zn dx=true):∀{ys:List V}{ds:List D},Reps K F ys ds->ds.all Zn=true->inV x ys=inD dx ds/\ys.all Qbw=true
 |_,_,.nil,_=>⟨rfl,rfl⟩|_,_,.cons h r,hd=>by
  rw[all_cons,and_eq_true]at hd;obtain⟨i1,i2⟩:=QoK rx hx r hd.2;refine⟨?_,?_⟩
  ·unfold inV at i1⊢;rw[any_cons,i1,Qxd rx h hx hd.1];rfl
  ·rw[all_cons,i2,(QnV (H:=F) (.inl h) hd.1).1];rfl
theorem Qp2{neg:Bool}{op:CmpOp}{g:D->D->Option D}(hr:OpR X (compareOp op) (rIn X.K neg))(h1:∀dx dy d,g dx dy=some d->∃ys,(dy=.tup ys\/dy=.lst ys)/\Zn dx=true/\ys.all Zn=true/\d=.bl (if neg then !inD dx ys else inD dx ys)):OpR X (compareOp op) (rIn X.K neg)/\Op2 X (rIn X.K neg) g:=by
 refine⟨hr,λF H x y dx dy d Q s rx ry e k=>?_⟩;obtain⟨ys,hy,fx,fy,rfl⟩:=h1 dx dy d e;obtain⟨fv,rp⟩:=QnV rx fx;rcases hy with rfl|rfl;·obtain⟨p,xs,rfl,hp,r⟩:=ry.tup;obtain⟨i1,i2⟩:=QoK rp fx r fy;refine⟨p,xs,rfl,.inr (SqT.of (s _ _ hp)),fv,i2,?_⟩;rw[i1];exact k _ F H (.refl s) (.bl _)
 ·obtain⟨p,xs,rfl,hp,r⟩:=ry.lst s;obtain⟨i1,i2⟩:=QoK rp fx r fy;refine⟨p,xs,rfl,.inl (SqL.of hp),fv,i2,?_⟩;rw[i1];exact k _ F H (.refl s) (.bl _)
theorem Qhx:OpR X (compareOp .In) (rIn X.K false)/\Op2 X (rIn X.K false) D.inO:=Qp2 QqO λdx dy d e=>by
 unfold D.inO at e;split at e
 ·split at e;·rename_i ys h;cases e;exact⟨ys,.inl rfl,h.1,h.2,rfl⟩
  ·cases e
 ·split at e;·rename_i ys h;cases e;exact⟨ys,.inr rfl,h.1,h.2,rfl⟩
  ·cases e
 ·cases e
theorem Qju:OpR X (compareOp .NotIn) (rIn X.K true)/\Op2 X (rIn X.K true) D.notInO:=Qp2 Qme λdx dy d e=>by
 unfold D.notInO at e;split at e
 ·split at e;·rename_i ys h;cases e;exact⟨ys,.inl rfl,h.1,h.2,rfl⟩
  ·cases e
 ·split at e;·rename_i ys h;cases e;exact⟨ys,.inr rfl,h.1,h.2,rfl⟩
  ·cases e
 ·cases e
theorem Qn7{x:Str}{p:Pos}{ev:EvE}(hg:Gl X x)(hm:X.mg x=none)(hv:bootBuiltins x=some (.type "list"))(ha:PE X a (tR X O ev))(hn:x≠"__name__":=by decide)(bJ:(x==("__debug__":Str))=false:=by decide)(he:starEach [a] X.env=[(false,eval a X.env)]:=by rfl):PE X (.Call (.Name x p) [a] [] pos) (tO X O (eUn D.listOf ev)):=PE.imp (Qjt QmA hg hm hv (Qe0 ha he) hn bJ he rfl) λσ H Q⟨F0,F,en,d,rs,w,k⟩=>by obtain⟨dx,e1,e2⟩:=QY w;refine⟨F0,F,en,dx,rs,e1,λv F1 H1 g1 r1=>? _⟩;have fin:∀(l:Addr)(xs:List V)(ds:List D),SqL X.K H1 l xs\/SqT X.K H1 l xs->Reps X.K F1 xs ds->d=.lst ds->∃p ys,[V.ref l]=[.ref p]/\(SqL X.K H1 p ys\/SqT X.K H1 p ys)/\∀l,H1 l=none->Q (.ref l) (upd H1 l (.lst ys)):=λl xs ds hl r hd=>⟨l,xs,rfl,hl,λq hq=>k q none xs ds F1 _ (g1.trans (Gr.newO g1.fh hq (.lst xs))) (g1.hh.none hq) (g1.fh.none hq) QJ r hd trivial⟩;cases dx with|lst ds=>cases e2;obtain⟨l,xs,rfl,h,r⟩:=r1.lst g1.fh;exact fin l xs ds (.inl (SqL.of h)) r rfl|tup ds=>cases e2;obtain⟨l,xs,rfl,h,r⟩:=r1.tup;exact fin l xs ds (.inr (SqT.of (g1.fh _ _ h))) r rfl|scr ns=>cases e2;obtain⟨l,rfl,h⟩:=r1.scr;exact fin l _ _ (.inl (g1.fh.sqL h)) (Reps.ints ns) rfl|_=>cases e2
theorem Qnt{vs:List V}{us:List Value}(r:Vals vs us){i:Nat}{u:Value}(h:us[i]?=some u):∃v,vs[i]?=some v/\RelV v u:=by
 have hl:=r.length;rcases lt_or_ge i vs.length with hi|hi
 ·obtain⟨u',h1,h2⟩:=r.get (getElem?_eq_getElem hi);rw[h]at h1;cases h1;exact⟨_,getElem?_eq_getElem hi,h2⟩
 ·rw[getElem?_eq_none (by omega)]at h;cases h
theorem QnR{ns:List Int}{us:List Value}(r:Vals (ns.map V.int) us){i:Nat}{u:Value}(h:us.toArray[i]?=some u):∃t,u=Value.int (ns.getD i 0) t:=by obtain⟨v,h1,h2⟩:=Qnt r (by simpa using h);rw[getElem?_map]at h1;cases q:ns[i]? with|none=>rw[q]at h1;cases h1|some n=>rw[q]at h1;cases h1;obtain⟨t,rfl⟩:=show∃t,u=Value.int n t from h2;exact⟨t,by rw[getD_eq_getElem?_getD,q];rfl⟩
theorem Qfn{aa:List (Addr×Obj)}{σ:L2.St}{H:Hp}{s:Shared}{l:Addr}{us:List Value}{A:Around}{E:Value->Shared->Prop}{Q:Value->Shared->Prop}(I:Inv X aa σ H s)(hh:A.handled=none)(hp:PlainL s.heap l us.toArray)(h:∀s₂:Shared,Walks X.prog X.w A s.heap.objs.size [s.heap.objs.size,l] [s.heap.objs.size] us.toArray.size (λi v=>us.toArray[i]?=some v) (λi h=>h.IsListIter s.heap.objs.size l i/\h.IsList l us.toArray)->(s₂.heap.IsListIter s.heap.objs.size l 0/\s₂.heap.IsList l us.toArray)->(∀b∈[s.heap.objs.size,l],b<s₂.heap.objs.size)->(∀(h':Heap)(tk:Nat),(∀b o,b∉[s.heap.objs.size]->s₂.heap.get? b=some o->h'.get? b=some o)->Inv X aa σ H {s₂ with heap:=h',toks:=tk})->Q (.ref s.heap.objs.size) s₂):wpAny (model X.prog X.w) A (pyIter (.ref l)) Q E s:=by
 have bA:l<s.heap.objs.size:=by obtain⟨_,_,e,_⟩:=hp;exact Heap.lt_size e
 refine wpAny_pyIter_list hp.isList (h _ (Walks.list hh _ l (ne_of_lt bA) us.toArray) ⟨⟨_,Heap.get?_push_size _ rfl,rfl,rfl⟩,hp.isList.push _⟩ (λb hb=>?_) λh' tk hk=>?_)
 ·show b<(s.heap.push _).objs.size;rw[Heap.size_push];rcases List.mem_cons.mp hb with rfl|hb;·exact Nat.lt_succ_self _
  ·rw[List.mem_singleton.mp hb];exact lt_succ_of_lt bA
 ·exact I.kept (t':=tk) λb u e=>hk b u (λz=>by rw[List.mem_singleton.mp z]at e;exact absurd (Heap.lt_size e) (lt_irrefl _)) (Heap.get?_push_of_some _ e)
theorem Qrz(hc:X.calm=true):CallR X (.builtin "max") (λxs H Q=>∃(l:Addr)(n:Int)(ns:List Int),xs=[.ref l]/\SqL X.K H l ((n::ns).map V.int)/\Q (.int (J1 n ns)) H):=by
 intro aa s σ H xs us Q I r⟨l,n,ns,hx,hq,q⟩;subst hx;obtain⟨u,rfl,rx⟩:=Qab r;cases rx;obtain⟨its,rv,pl,hz⟩:=I.list hq;refine call_max_walk (Qfn I (I.ok.hd hc) pl λs₂ W st d7 back=>?_);have cJ:∀i v,its.toArray[i]?=some v->∃t,v=Value.int ((n::ns).getD i 0) t:=λi v h=>QnR rv h;have hl:=rv.length;rw[length_map]at hl;refine⟨_,_,_,_,_,_,_,rfl,W,st,d7,?_,CmpOf.ints_gt (λi=>(n::ns).getD i 0) cJ,λv h' tk hP hk=>?_⟩;·rw[size_toArray,<-hl];exact Nat.succ_pos _
 ·obtain⟨t,rfl⟩:=cJ _ _ hP;obtain⟨b1,b2⟩:=argBest_gt (λi=>(n::ns).getD i 0) (its.toArray.size-1);obtain⟨m1,m2,m3⟩:=QbJ ns n;generalize argBest (λi j=>decide ((n::ns).getD i 0>(n::ns).getD j 0)) (its.toArray.size-1)=k at b1 b2⊢;have hsz:its.toArray.size=ns.length+1:=by rw[size_toArray,<-hl];rfl
  have e:(n::ns).getD k 0=J1 n ns:=by
   apply le_antisymm;·cases k with|zero=>exact m2|succ k=>
     have cM:k<ns.length:=by omega
     show ns.getD k 0<=_;rw[getD_eq_getElem?_getD,getElem?_eq_getElem cM];exact m3 _ (getElem_mem cM)
   ·rcases m1 with w|w;·rw[w];exact b2 0 (zero_le _)
    ·obtain⟨j,hj,e⟩:=getElem_of_mem w;have:=b2 (j+1) (by omega);rw[show(n::ns).getD (j+1) 0=ns.getD j 0 from rfl,getD_eq_getElem?_getD,getElem?_eq_getElem hj]at this;rw[<-e];exact this
  rw[e];exact⟨.int (J1 n ns),H,back h' tk hk,⟨t,rfl⟩,q⟩
theorem QbN(hc:X.calm=true):CallR X (.builtin "max") (λxs H Q=>∃(l:Addr)(n:Int)(ns:List Int),xs=[.ref l]/\SqL X.K H l ((n::ns).map V.int)/\Q (.int (J1 n ns)) H)/\C1 X (λxs H Q=>∃(l:Addr)(n:Int)(ns:List Int),xs=[.ref l]/\SqL X.K H l ((n::ns).map V.int)/\Q (.int (J1 n ns)) H) D.maxL:=by
 refine⟨Qrz hc,λF H x dx d Q s rx e k=>?_⟩;cases dx with
 |lst ds=>
  simp only[D.maxL]at e;split at e
  ·rename_i n ns q;cases e;obtain⟨l,xs,rfl,h,r⟩:=rx.lst s;have:=r.intsOf q;subst this;exact⟨l,n,ns,rfl,SqL.of h,k _ F H (.refl s) (.int _)⟩
  ·cases e|_=>cases e
theorem Qgj(ns:List Int):∀k,k<=ns.length->preSum (λi=>ns.getD i 0) k=(ns.take k).sum|0,_=>by simp[preSum]|k+1,h=>by rw[preSum,Qgj ns k (by omega),List.take_succ,getElem?_eq_getElem (by omega),List.sum_append];simp[getElem?_eq_getElem (show k<ns.length by omega)]
theorem Qrx(hc:X.calm=true):CallR X (.builtin "sum") λxs H Q=>∃(l:Addr)(ns:List Int),xs=[.ref l]/\SqL X.K H l (ns.map V.int)/\Q (.int ns.sum) H:=by
 intro aa s σ H xs us Q I r⟨l,ns,hx,hq,q⟩;subst hx;obtain⟨u,rfl,rx⟩:=Qab r;cases rx;obtain⟨its,rv,pl,hz⟩:=I.list hq;refine call_sum_walkAnyS (Qfn I (I.ok.hd hc) pl λs₂ W st d7 back=>? _);have cJ:∀i v,its.toArray[i]?=some v->∃t,v=Value.int (ns.getD i 0) t:=λi v h=>QnR rv h;have hl:=rv.length;rw[length_map]at hl;refine⟨_,_,_,_,_,_,_,λi=>ns.getD i 0,rfl,W.toS,st,d7,cJ,λs' t' mv=>? _⟩;have e:preSum (λi=>ns.getD i 0) its.toArray.size=ns.sum:=by rw[size_toArray,<-hl,Qgj ns ns.length (le_refl _),take_length]
 rw[e];have I':=back s'.heap s'.toks mv.heap;have es:({s₂ with heap:=s'.heap,toks:=s'.toks}:Shared)=s':=by
  obtain⟨h',g',d',t',o'⟩:=s';have m1:g'=s₂.gens:=mv.gens;have m2:d'=s₂.drawn:=mv.drawn;have m3:o'=s₂.os:=mv.os;subst m1 m2 m3;rfl
 rw[es]at I';exact⟨.int ns.sum,H,I',⟨t',rfl⟩,q⟩
theorem Qry(hc:X.calm=true):CallR X (.builtin "sum") (λxs H Q=>∃(l:Addr)(ns:List Int),xs=[.ref l]/\SqL X.K H l (ns.map V.int)/\Q (.int ns.sum) H)/\C1 X (λxs H Q=>∃(l:Addr)(ns:List Int),xs=[.ref l]/\SqL X.K H l (ns.map V.int)/\Q (.int ns.sum) H) D.sumL:=by refine⟨Qrx hc,λF H x dx d Q s rx e k=>?_⟩;cases dx with|lst ds=>obtain⟨ns,q,rfl⟩:=Zi e;obtain⟨l,xs,rfl,h,r⟩:=rx.lst s;have:=r.intsOf q;subst this;exact⟨l,ns,rfl,SqL.of h,k _ F H (.refl s) (.int _)⟩|_=>cases e
theorem QlN{K:Fg}{F:Hp}:∀{vs:List V}{ds:List D}{bs:List Bool},Reps K F vs ds->VU ds=some bs->vs=bs.map V.bl
 |_,_,bs,.nil,e=>by cases e;rfl|_,_,bs,.cons (d:=d) h r,e=>by cases h with
  |bl i=>simp only[VU]at e;cases q:VU _ with
   |none=>rw[q]at e;cases e|some ms=>
    rw[q]at e;cases e;rw[QlN r q];rfl
  |_=>simp[VU]at e
theorem QjW(bs:List Bool):∀k,k<=bs.length->(List.range k).any (λi=>bs.getD i false)=(bs.take k).any id|0,_=>by simp|k+1,h=>by rw[List.range_succ,List.any_append,QjW bs k (by omega),List.take_succ,getElem?_eq_getElem (by omega),List.any_append];simp[getElem?_eq_getElem (show k<bs.length by omega)]
theorem QrC(hc:X.calm=true):CallR X (.builtin "any") λxs H Q=>∃(l:Addr)(bs:List Bool),xs=[.ref l]/\SqL X.K H l (bs.map V.bl)/\Q (.bl (bs.any id)) H:=by
 intro aa s σ H xs us Q I r⟨l,bs,hx,hq,q⟩;subst hx;obtain⟨u,rfl,rx⟩:=Qab r;cases rx;obtain⟨its,rv,pl,hz⟩:=I.list hq;refine call_any_walk (Qfn I (I.ok.hd hc) pl λs₂ W st d7 back=>? _);have cJ:∀i v,its.toArray[i]?=some v->v=Value.bool (bs.getD i false):=λi v h=>by
  obtain⟨w,h1,h2⟩:=Qnt rv (by simpa using h);rw[getElem?_map]at h1;cases q:bs[i]? with
  |none=>rw[q]at h1;cases h1|some n=>
   rw[q]at h1;cases h1;rw[show v=Value.bool n from h2,getD_eq_getElem?_getD,q];rfl
 have hl:=rv.length;rw[length_map]at hl;refine⟨_,_,_,_,_,_,λi=>bs.getD i false,rfl,W,st,λi v s3 Q3 E3 hP hQ=>? _,λh' tk hk=>? _⟩;·rw[cJ i v hP];exact wpAny_truthy_bool hQ
 ·have e:(List.range its.toArray.size).any (λi=>bs.getD i false)=bs.any id:=by rw[size_toArray,<-hl,QjW bs bs.length (le_refl _),take_length]
  rw[e];exact⟨.bl (bs.any id),H,back h' tk hk,rfl,q⟩
theorem QrD(hc:X.calm=true):CallR X (.builtin "any") (λxs H Q=>∃(l:Addr)(bs:List Bool),xs=[.ref l]/\SqL X.K H l (bs.map V.bl)/\Q (.bl (bs.any id)) H)/\C1 X (λxs H Q=>∃(l:Addr)(bs:List Bool),xs=[.ref l]/\SqL X.K H l (bs.map V.bl)/\Q (.bl (bs.any id)) H) D.anyL:=by refine⟨QrC hc,λF H x dx d Q s rx e k=>?_⟩;cases dx with|lst ds=>obtain⟨bs,q,rfl⟩:=Zi e;obtain⟨l,xs,rfl,h,r⟩:=rx.lst s;have:=QlN r q;subst this;exact⟨l,bs,rfl,SqL.of h,k _ F H (.refl s) (.bl _)⟩|_=>cases e
end
theorem VG{X:Cx}{O O' OL:List Nat}{w:Bool}{st:Stmt}:PS X st (tS X O O' OL w Ve):=λ_ _ _ _ _ _⟨_,_,_,_,_,z,_⟩=>by cases z
noncomputable def J7(osc:Scope)(oN:List Str)(scope:Scope)(n:Nat)(N':List Str)(caps:List Nat):Bool:=scope.kind==.function&&scope.names.all (λy=>y.2 !=.cell)&&scope.names.all (λx=>x.2 !=.local||scope.names.lookup x.1==some .local)&&scope.names.all (λx=>x.2 !=.free||osc.names.lookup x.1==some .cell||osc.names.lookup x.1==some .free)&&N'.length==n+caps.length&&(List.range caps.length).all (λj=>match caps[j]?,N'[n+j]? with|some i,some x=>oN[i]?==some x&&scope.names.lookup x==some .free|_,_=>false)&&decide N'.Nodup
theorem Jo{X:Cx}{scope:Scope}{n:Nat}{N':List Str}{caps:List Nat}(h:J7 X.env.scope X.N scope n N' caps=true):CompSc X scope n N' caps:=by
 unfold J7 at h;simp only[and_eq_true,decide_eq_true_eq,beq_iff_eq,List.all_eq_true]at h;obtain⟨⟨⟨⟨⟨⟨h1,h2⟩,h3⟩,h4⟩,h5⟩,h6⟩,h7⟩:=h;refine⟨h1,λy hy z=>?_,λx hx z=>?_,λx hx z=>?_,h5,λj i hj=>?_,h7⟩;·have:=h2 y hy;rw[z]at this;simp at this
 ·have:=h3 x hx;rw[z]at this;simpa using this
 ·have:=h4 x hx;rw[z]at this;have q:List.lookup x.1 X.env.scope.names=some NameKind.cell\/List.lookup x.1 X.env.scope.names=some NameKind.free:=by simpa using this
  exact q
 ·have hl:j<caps.length:=by
   rcases lt_or_ge j caps.length with w|w;·exact w
   ·rw[getElem?_eq_none w]at hj;cases hj
  have:=h6 j (List.mem_range.mpr hl);rw[hj]at this;cases q:N'[n+j]? with|none=>rw[q]at this;cases this|some x=>rw[q]at this;simp only[and_eq_true,beq_iff_eq]at this;exact⟨x,rfl,this.1,this.2⟩
section
variable{es:List Expr}{env:Env}
theorem QmJ{a b c}:starEach (.Constant a b c::es) env=(false,eval (.Constant a b c) env)::starEach es env:=rfl
theorem ZL{a b}:starEach (.Name a b::es) env=(false,eval (.Name a b) env)::starEach es env:=rfl
theorem Qr4{a b c d}:starEach (.BinOp a b c d::es) env=(false,eval (.BinOp a b c d) env)::starEach es env:=rfl
theorem QoZ{a b c d}:starEach (.Compare a b c d::es) env=(false,eval (.Compare a b c d) env)::starEach es env:=rfl
theorem Qiz{a b c d}:starEach (.Call a b c d::es) env=(false,eval (.Call a b c d) env)::starEach es env:=rfl
theorem QfG{a b c}:starEach (.Subscript a b c::es) env=(false,eval (.Subscript a b c) env)::starEach es env:=rfl
theorem QtD{a b}:starEach (.List a b::es) env=(false,eval (.List a b) env)::starEach es env:=rfl
theorem Qr3{a b c}:starEach (.Tuple a b c::es) env=(false,eval (.Tuple a b c) env)::starEach es env:=rfl
theorem QmI{a b c d}:starEach (.ListComp a b c d::es) env=(false,eval (.ListComp a b c d) env)::starEach es env:=rfl
end
section
variable{X:Cx}{O:List Nat}{es:List Expr}{l:EvL}{ea:EvE}
theorem Dk{a b c}(ha:PE X (.Constant a b c) (tD X O ea))(hr:PA X es (tL X O l)):PA X (.Constant a b c::es) (tL X O (lC ea l)):=VT ha hr QmJ
theorem Qn5{a b}(ha:PE X (.Name a b) (tD X O ea))(hr:PA X es (tL X O l)):PA X (.Name a b::es) (tL X O (lC ea l)):=VT ha hr ZL
theorem Db{a b c d}(ha:PE X (.BinOp a b c d) (tD X O ea))(hr:PA X es (tL X O l)):PA X (.BinOp a b c d::es) (tL X O (lC ea l)):=VT ha hr Qr4
theorem Qpn{a b c d}(ha:PE X (.Compare a b c d) (tD X O ea))(hr:PA X es (tL X O l)):PA X (.Compare a b c d::es) (tL X O (lC ea l)):=VT ha hr QoZ
theorem Dl{a b c d}(ha:PE X (.Call a b c d) (tD X O ea))(hr:PA X es (tL X O l)):PA X (.Call a b c d::es) (tL X O (lC ea l)):=VT ha hr Qiz
theorem Du{a b c}(ha:PE X (.Subscript a b c) (tD X O ea))(hr:PA X es (tL X O l)):PA X (.Subscript a b c::es) (tL X O (lC ea l)):=VT ha hr QfG
theorem Qce{a b}(ha:PE X (.List a b) (tD X O ea))(hr:PA X es (tL X O l)):PA X (.List a b::es) (tL X O (lC ea l)):=VT ha hr QtD
theorem Dt{a b c}(ha:PE X (.Tuple a b c) (tD X O ea))(hr:PA X es (tL X O l)):PA X (.Tuple a b c::es) (tL X O (lC ea l)):=VT ha hr Qr3
theorem QbB{a b c d}(ha:PE X (.ListComp a b c d) (tD X O ea))(hr:PA X es (tL X O l)):PA X (.ListComp a b c d::es) (tL X O (lC ea l)):=VT ha hr QmI
end
end Wd
namespace Wd
theorem Qfg{n:Nat}{l:EvL}(h:∀(e:Qj)(d:List D),l e=some d->d.length<=n)(hn:n<=lI):∀(e:Qj)(d:List D),l e=some d->d.length<=lI:=λe d w=>le_trans (h e d w) hn
theorem lz0:∀(e:Qj)(d:List D),lN e=some d->d.length<=lI:=Qfg (n:=0) QcD (by decide)
theorem lz1{p:EvE}:∀(e:Qj)(d:List D),(lC p lN) e=some d->d.length<=lI:=Qfg (n:=1) (Z7 QcD) (by decide)
theorem lz2{p q:EvE}:∀(e:Qj)(d:List D),(lC p (lC q lN)) e=some d->d.length<=lI:=Qfg (n:=2) (Z7 (Z7 QcD)) (by decide)
theorem lz3{p q r:EvE}:∀(e:Qj)(d:List D),(lC p (lC q (lC r lN))) e=some d->d.length<=lI:=Qfg (n:=3) (Z7 (Z7 (Z7 QcD))) (by decide)
theorem lz4{p q r t:EvE}:∀(e:Qj)(d:List D),(lC p (lC q (lC r (lC t lN)))) e=some d->d.length<=lI:=Qfg (n:=4) (Z7 (Z7 (Z7 (Z7 QcD)))) (by decide)
open PySem PySem.Spec PyProof.Rows L2
end Wd
namespace Wd
open PySem PySem.Spec PyProof.Rows L2
theorem _root_.L2.Room.units1{k:Nat}{A:Around}(r:Room k A):A.units+1<cLine:=by have:=r.units;omega
theorem QgI{K:Fg}{F:Hp}(k:Kd):∀{ks:List Kd}{xs:List V}{ds:List D},ks.length=xs.length->Reps K F xs ds->(Qck ks ds k=none/\Z5 (ks.zip xs) k=none/\hasK k ks=false)\/∃d v,Qck ks ds k=some d/\Z5 (ks.zip xs) k=some v/\Rep K F v d/\hasK k ks=true
 |[],xs,ds,_,_=>.inl ⟨by cases ds<;>rfl,rfl,rfl⟩|c::ks,[],_,h,_=>by cases h|c::ks,x::xs,_,h,.cons (d:=d) (ds:=ds) hx r=>by
  by_cases z:c=k
  ·right;exact⟨d,x,by show(if c=k then some d else _)=_;rw[if_pos z],Qct (p:=(c,x)) z,hx,by simp[hasK,z]⟩
  ·have e1:Qck (c::ks) (d::ds) k=Qck ks ds k:=by show(if c=k then some d else _)=_;rw[if_neg z]
   have e2:Z5 ((c::ks).zip (x::xs)) k=Z5 (ks.zip xs) k:=Qba (p:=(c,x)) z;rw[e1,e2];rcases QgI k (by simpa using h) r with⟨a,b,c'⟩|⟨d',v',a,b,c',m⟩;·refine .inl ⟨a,b,?_⟩;show(decide (c=k)||hasK k ks)=false;rw[c',decide_eq_false z];rfl
   ·refine .inr ⟨d',v',a,b,c',?_⟩;show(decide (c=k)||hasK k ks)=true;rw[m,Bool.or_true]
theorem Qof(k:Kd):∀{ks:List Kd}{xs:List V},ks.length=xs.length->((ks.zip xs).any λkv=>decide (kv.1=k))=hasK k ks|[],_,_=>by simp[hasK]|c::ks,[],h=>by cases h|c::ks,x::xs,h=>by rw[zip_cons_cons,any_cons,Qof k (by simpa using h)];rfl
noncomputable def Qgz:List Kd->List V->Kd->V->List V|c::ks,x::xs,k,v=>(if c=k then v else x)::Qgz ks xs k v|_,_,_,_=>[]
theorem QnB{K:Fg}{F:Hp}(k:Kd){v:V}{d:D}(hv:Rep K F v d):∀{ks:List Kd}{xs:List V}{ds:List D},ks.length=xs.length->Reps K F xs ds->(ks.zip xs).map (λkv=>if kv.1=k then(kv.1,v)else kv)=ks.zip (Qgz ks xs k v)/\ks.length=(Qgz ks xs k v).length/\Reps K F (Qgz ks xs k v) (Qoy ks ds k d)
 |[],xs,ds,_,_=>⟨by simp,rfl,by cases ds<;>exact .nil⟩|c::ks,[],_,h,_=>by cases h|c::ks,x::xs,_,h,.cons (d:=d0) (ds:=ds) hx r=>by
  obtain⟨a,b,c'⟩:=QnB k hv (ks:=ks) (xs:=xs) (by simpa using h) r;refine⟨?_,?_,?_⟩
  ·show(if c=k then(c,v)else(c,x))::(ks.zip xs).map _=(c,if c=k then v else x)::ks.zip (Qgz ks xs k v);rw[a];by_cases z:c=k;·rw[if_pos z,if_pos z]
   ·rw[if_neg z,if_neg z]
  ·show ks.length+1=(Qgz ks xs k v).length+1;rw[b]
  ·refine .cons ?_ c';by_cases z:c=k;·rw[if_pos z,if_pos z];exact hv
   ·rw[if_neg z,if_neg z];exact hx
theorem Reps.snoc{K:Fg}{F:Hp}{xs:List V}{ds:List D}{v:V}{d:D}(r:Reps K F xs ds)(h:Rep K F v d):Reps K F (xs++[v]) (ds++[d]):=r.append (.cons h .nil)
theorem QtO{K:Fg}{F:Hp}{k:Kd}{v:V}{d:D}(hv:Rep K F v d){ks:List Kd}{xs:List V}{ds:List D}(hl:ks.length=xs.length)(r:Reps K F xs ds):∃gy bz ck,HO.dK (Vr (ks.zip xs) k v)=ho (some gy) bz/\Vv (some gy) bz/\Reps K F bz ck/\Qe3 ks ds k d=dOf (some gy) ck:=by
 unfold Vr Qe3;rw[Qof k hl];by_cases z:hasK k ks=true
 ·obtain⟨a,b,c⟩:=QnB k hv hl r;refine⟨ks,Qgz ks xs k v,Qoy ks ds k d,?_,b,c,?_⟩;·rw[if_pos z,a];rfl
  ·rw[if_pos z];rfl
 ·refine⟨ks++[k],xs++[v],ds++[d],?_,?_,r.snoc hv,?_⟩
  ·rw[if_neg z];show HO.dK (ks.zip xs++[(k,v)])=.dK ((ks++[k]).zip (xs++[v]));rw[List.zip_append hl];rfl
  ·show(ks++[k]).length=(xs++[v]).length;rw[length_append,length_append,hl];rfl
  ·rw[if_neg z];rfl
theorem QkS{K:Fg}{F H:Hp}{v:V}{d:D}{k:Kd}(r:RdD K F H v d)(h:kOf d=some k):v=kV k:=by cases d with|str x=>cases h;exact r.str|int i=>cases h;exact r.int|_=>cases h
section
variable{X:Cx}{O O' OL:List Nat}{w:Bool}{e a b:Expr}{pos:Pos}
theorem QiS:PE X (.Dict [] [] pos) (tO X O (eC (.dic [] []))):=PE.imp Qsl λσ H Q⟨F0,F,en,d,rs,z,k⟩=>by cases z;intro p hp;exact k p (some []) [] [] F _ (Gr.newO rs.fh hp (.dK [])) hp (rs.fh.none hp) QJ .nil rfl rfl
theorem Qn4{ea eb:EvE}(hu:X.A.units+1<cLine)(ha:PE X a (tR X O ea))(hb:PE X b (tR X O eb))(hs:QrV b:=by intro _ _;rfl):PE X (.Subscript a b pos) (tD X O (eOp D.dget ea eb)):=PE.imp (QtZ hu ha hb hs) λσ H Q⟨F0,F,en,d,rs,z,k⟩=>by
  obtain⟨dx,dy,e1,e2,e3⟩:=QbY z;refine⟨F0,F,en,dx,rs,e1,λx F1 H1 g1 r1=>⟨F0,F1,en,dy,rs.grow g1,e2,λy F2 H2 g2 r2=>?_⟩⟩;cases dx with
  |dic ks ds=>
   obtain⟨kk,q1,q2⟩:=QY (show((kOf dy).bind λk=>Qck ks ds k)=some d from e3);obtain⟨p,xs,rfl,h,hl,rp⟩:=(r1.gr g2).dic g2.fh;rcases QgI kk hl rp with⟨n,_⟩|⟨d',v',a1,a2,a3,_⟩;·rw[n]at q2;cases q2
   ·rw[a1]at q2;cases q2;refine⟨p,v',rfl,?_,k v' F2 H2 (g1.trans g2) a3⟩;rw[QkS r2 q1,<-a2];exact .inl ⟨_,_,h,rfl,rfl⟩|_=>cases e3
theorem Qtt{ea eb:EvE}{g:Bool->Bool}{f:D->D->Option D}(hf:∀y d r,f y d=some r->∃ks ds k,d=.dic ks ds/\kOf y=some k/\r=.bl (g (hasK k ks))){σ:L2.St}{H:Hp}{Q:Bool->Hp->Prop}(h:tDT X O (eOp f ea eb) σ H Q):tR X O ea σ H λy H1=>tR X O eb σ H1 λx H2=>∃a o,x=.ref a/\Qe8 H2 a y o/\∃d,V.bl (g o.isSome)=.bl d/\Q d H2:=by
 obtain⟨F0,F,en,b,rs,z,k⟩:=h;obtain⟨dy,dx,e1,e2,e3⟩:=QbY z;obtain⟨ks,ds,kk,rfl,q1,q2⟩:=hf _ _ _ e3;refine⟨F0,F,en,dy,rs,e1,λy F1 H1 g1 r1=>⟨F0,F1,en,_,rs.grow g1,e2,λx F2 H2 g2 r2=>?_⟩⟩;obtain⟨p,xs,rfl,h,hl,rp⟩:=r2.dic g2.fh;refine⟨p,Z5 (ks.zip xs) kk,rfl,?_,?_⟩;·rw[QkS (r1.gr g2) q1];exact .inl ⟨_,_,h,rfl,rfl⟩
 ·have:(Z5 (ks.zip xs) kk).isSome=hasK kk ks:=by
   rcases QgI kk hl rp with⟨_,n,m⟩|⟨d',v',_,a2,_,m⟩;·rw[n,m];rfl
   ·rw[a2,m];rfl
  rw[this];cases q2;exact⟨_,rfl,k F2 H2 (g1.trans g2)⟩
theorem Qww{ea eb:EvE}(hu:X.A.units+1<cLine)(ha:PE X a (tR X O ea))(hb:PE X b (tR X O eb))(hm:behindInMarks .In b=false:=by with_unfolding_all rfl):PT X (.Compare a [.In] [b] pos) (tDT X O (eOp D.dIn ea eb)):=PT.imp (QpV (QvU hu ha hb) hm) λσ H Q h=>by have q:=Qtt (g:=id) (λy d r e=>by cases d with|dic ks ds=>obtain⟨k,e1,rfl⟩:=Zi (show((kOf y).map λk=>D.bl (hasK k ks))=some r from e);exact⟨ks,ds,k,rfl,e1,rfl⟩|_=>cases e) h;exact q
theorem Qrj{ea eb:EvE}(hu:X.A.units+1<cLine)(ha:PE X a (tR X O ea))(hb:PE X b (tR X O eb))(hm:behindInMarks .NotIn b=false:=by with_unfolding_all rfl):PT X (.Compare a [.NotIn] [b] pos) (tDT X O (eOp D.dNotIn ea eb)):=PT.imp (QpV (QqN hu ha hb) hm) λσ H Q h=>by have q:=Qtt (g:=not) (λy d r e=>by cases d with|dic ks ds=>obtain⟨k,e1,rfl⟩:=Zi (show((kOf y).map λk=>D.bl (!hasK k ks))=some r from e);exact⟨ks,ds,k,rfl,e1,rfl⟩|_=>cases e) h;exact q
theorem QiQ(i:Nat)(hi:i∈O){x:Str}{p pos':Pos}{v key:Expr}{ek ev:EvE}(hu:X.A.units+1<cLine)(hk:PE X key (tR X O ek))(hv:PE X v (tD X O ev))(hN:X.N[i]?=some x:=by rfl)(iT:Vis X.env.scope x:=by first|exact Or.inl rfl|exact Or.inr (Or.inl rfl)|exact Or.inr (Or.inr rfl))(hd:(x==("__debug__":Str))=false:=by decide)(bQ:(x==("__classdict__":Str))=false:=by decide)(hs:swapsWith v (some (.Subscript (.Name x p) key pos')) pos.line X.env=pure false:=by rfl):PS X (.Assign [.Subscript (.Name x p) key pos'] v pos) (tS X O O OL w (Qec i ek ev)):=PS.imp (QtQ hu (Yo hN iT hd bQ) hk hv hs) λDn σ H⟨F0,F,en,fl,rs,z,k⟩=>by
  obtain⟨dv,e1,z1⟩:=QY z;obtain⟨dx,e2,z2⟩:=QY z1;obtain⟨dy,e3,z3⟩:=QY z2;obtain⟨dz,e4,rfl⟩:=Zi z3;refine⟨F0,F,en,dv,rs,e1,λu F1 H1 g1 r1=>?_⟩;have bZ:=rs.grow g1;obtain⟨p,kk,xs,ds,h1,h2,h3,h4,h5,h6,h7⟩:=bZ.own i dx (Zd e2) hi;refine⟨_,h1,F0,F1,en,dy,bZ,e3,λy F2 H2 g2 r2=>?_⟩;have dA:=bZ.grow g2;obtain⟨p',bX,bz,ck,k1,k2,k3,k4,k5,k6,k7⟩:=dA.own i dx (Zd e2) hi;rw[h1]at k1;cases k1;subst k6;cases bX with|none=>cases e4|some ks=>
   obtain⟨kx,q1,q2⟩:=QY (show((kOf dy).bind λk=>if ks.length<lI then some (Qe3 ks ck k dv)else none)=some dz from e4);split at q2
   ·rename_i hz;cases q2;obtain⟨ks2,jY,ds2,a1,a2,a3,a4⟩:=QtO (k:=kx) (r1.mono g2.ff) k7 k5;refine⟨p,upd H2 p (.dK (Vr (ks.zip bz) kx u)),rfl,?_,?_⟩
    ·rw[QkS r2 q1];exact DPut.k k4 (by rw[length_zip,show ks.length=bz.length from k7,min_self,<-show ks.length=bz.length from k7,Ym];exact hz)
    ·rw[a1];rw[a4]at k;exact k _ F2 _ (g1.ff.trans g2.ff) (dA.write hi (Zd e2) h1 k2 k3 a2 a3)
   ·cases q2
end
noncomputable def er(H:Hp)(p:Addr):Hp:=λa=>if a=p then none else H a
theorem QiN{H:Hp}{p:Addr}:er H p p=none:=if_pos rfl
theorem Qc0{H:Hp}{p a:Addr}(h:a≠p):er H p a=H a:=if_neg h
theorem Qtr{H:Hp}{p:Addr}:Sm (er H p) H:=λa o h=>by
 by_cases z:a=p;·rw[z,QiN]at h;cases h
 ·rw[Qc0 z]at h;exact h
theorem Sm.er{F H:Hp}(s:Sm F H){p:Addr}(h:F p=Option.none):Sm F (er H p):=λa o e=>by
 have:a≠p:=λz=>by rw[z,h]at e;cases e
 rw[Qc0 this];exact s a o e
def spM(K:Fg)(f:List D->Option D):Sp:=λvs H Q _=>∃F us cs p kk xs es d,Sm F H/\vs=us++[.ref p]/\Reps K F us cs/\F p=none/\H p=some (ho kk xs)/\Vv kk xs/\Reps K F xs es/\f (cs++[dOf kk es])=some d/\∀bX bz cw F' H',Gr F (er H p) F' H'->F' p=none->H' p=some (ho bX bz)->Vv bX bz->Reps K F' bz cw->d=dOf bX cw->Q .non H'
section
variable{P:Program}{w:World}{K:Fg}{mg:Str->Option Value}{ab:Heap}{x:Str}{st:Stmt}{N ps:List Str}{k:Nat}{b:EvS}
theorem QqG{F H:Hp}{us:List V}{cs:List D}{p:Addr}{kk:Option (List Kd)}{xs:List V}{es:List D}(n m:Nat)(hm:us.length=m)(hn:m<n)(gE:n<=1000)(s:Sm F H)(r:Reps K F us cs)(hf:F p=none)(hp:H p=some (ho kk xs))(hk:Vv kk xs)(re:Reps K F xs es):RS K H ⟨F,er H p,some p⟩ F H ((us++[V.ref p]).map some++List.replicate (n-(us++[V.ref p]).length) none) (sD n (cs++[dOf kk es])) [m,Q4 m]:=by
 have hc:cs.length=m:=by rw[<-r.length];exact hm
 have em:(sD n (cs++[dOf kk es]))[m]?=some (some (dOf kk es)):=by
  unfold sD;rw[getElem?_append_left (by rw[length_map,length_append,hc];simp),getElem?_map,getElem?_append_right (by omega),hc];simp
 have sm:((us++[V.ref p]).map some++List.replicate (n-(us++[V.ref p]).length) none)[m]?=some (some (V.ref p)):=by
  rw[getElem?_append_left (by rw[length_map,length_append,hm];simp),getElem?_map,getElem?_append_right (by omega),hm];simp
 have big:∀i d,(sD n (cs++[dOf kk es]))[i]?=some (some d)->i<n:=λi d h=>by
  have:i<(sD n (cs++[dOf kk es])).length:=by cases lt_or_ge i (sD n (cs++[dOf kk es])).length with|inl h=>exact h|inr h'=>rw[getElem?_eq_none h']at h;cases h
  unfold sD at this;rw[length_append,length_map,length_append,length_replicate,hc]at this;simp at this;omega
 refine⟨s,Qtr,.refl F,λ_ _ h=>.inl h,λi d h hi=>?_,λi d h hi=>?_,λi j q d1 d2 hi hj h1 h2 _ _=>?_,λi hi=>?_,?_⟩
 ·have b8:i≠m:=λz=>hi (by rw[z];simp);unfold sD at h;rcases lt_or_ge i m with hl|hl
  ·rw[getElem?_append_left (by rw[length_map,length_append,hc];simp;omega),getElem?_map,getElem?_append_left (by omega)]at h;have hd:cs[i]?=some d:=by cases q:cs[i]? with|none=>rw[q]at h;cases h|some d'=>rw[q]at h;cases h;rfl
   obtain⟨v,h1,h2⟩:=r.get hd;refine⟨v,?_,h2⟩;rw[getElem?_append_left (by rw[length_map,length_append,hm];simp;omega),getElem?_map,getElem?_append_left (by omega),h1];rfl
  ·rw[getElem?_append_right (by rw[length_map,length_append,hc];simp;omega),getElem?_replicate]at h;split at h<;>cases h
 ·have bA:=big i d h;have bY:i=m:=by
   rcases List.mem_cons.mp hi with z|z;·exact z
   ·have:=List.mem_singleton.mp z;unfold Q4 at this;omega
  subst bY;rw[em]at h;cases h;exact⟨p,kk,xs,es,sm,QiN,hf,hp,re,rfl,hk⟩
 ·have a1:=big i d1 h1;have a2:=big j d2 h2;have e1:i=m:=by
   rcases List.mem_cons.mp hi with z|z;·exact z
   ·have:=List.mem_singleton.mp z;unfold Q4 at this;omega
  have e2:j=m:=by
   rcases List.mem_cons.mp hj with z|z;·exact z
   ·have:=List.mem_singleton.mp z;unfold Q4 at this;omega
  rw[e1,e2]
 ·have:i=m:=by
   rcases List.mem_cons.mp hi with z|z;·unfold Q4 at z;omega
   ·have:=List.mem_singleton.mp z;unfold Q4 at this;omega
  subst this;exact⟨p,rfl,sm⟩
 ·unfold sD;simp[r.length]
theorem Qov(h:Df K mg x st ps)(S:FnScope N ps (Qa st)){O' OL:List Nat}(hps:0<ps.length)(hpn:ps.length<=N.length)(lK:N.length<=1000)(iy:ps.length-1∈O')(iw:Q4 (ps.length-1)∈O')(hb:∀(f:Addr)(ax:Value)(A:Around)(ag:List Env)(s:Shared)(H:Hp)(E:XK),Room k (A.deeper (envOfC x (Qa st) s.heap.objs.size f ax))->PSs (Vu CX0 P w K mg ab N x (Qa st) f ax A ag s H E).nox (Zf st) (tS (Vu CX0 P w K mg ab N x (Qa st) f ax A ag s H E).nox [ps.length-1,Q4 (ps.length-1)] O' OL false b)):Cal P w K mg ab (k+1) x ps (spM K (Qdh N.length ps.length b)):=by
 obtain⟨f,fd,F,d9,hm⟩:=h;have len:∀{us:List V}{cs:List D}{Fz:Hp}{p:Addr}{dd d:D},Reps K Fz us cs->Qdh N.length ps.length b (cs++[dd])=some d->us.length=ps.length-1/\cs.length=ps.length-1:=λr e=>by
  unfold Qdh at e;split at e
  ·rename_i z;rw[length_append]at z;simp at z;have:=r.length;omega
  ·cases e
 refine⟨f,fd,F.ok S (λvs H Q E q=>?_) (λax A ag s H vs Q E hr q=>?_),d9,F.kp,hm⟩
 ·obtain⟨Fz,us,cs,p,kk,xs,es,d,s,hv,r,hf,hp,hk,re,e,_⟩:=q;have:=len (p:=p) r e;rw[hv,length_append];simp;omega
 ·obtain⟨Fz,us,cs,p,kk,xs,es,d,sm,hv,r,hf,hp,hk,re,e,k⟩:=q;refine⟨_,hb f ax A ag s H E hr,?_⟩;have hl:=len (p:=p) r e;have e':(match b (sD N.length (cs++[dOf kk es]))with|some (.nx e)=>(e[ps.length-1]?).join|_=>none)=some d:=by
   unfold Qdh at e;split at e;·exact e
   ·cases e
  cases q:b (sD N.length (cs++[dOf kk es]))with|none=>rw[q]at e';cases e'|some fl=>
   rw[q]at e';have cI:start N vs=(us++[V.ref p]).map some++List.replicate (N.length-(us++[V.ref p]).length) none:=by rw[hv];rfl
   rw[cI];refine⟨⟨Fz,er H p,some p⟩,Fz,sD N.length (cs++[dOf kk es]),fl,QqG N.length (ps.length-1) hl.1 (by omega) lK sm r hf hp hk re,q,?_⟩;cases fl with
   |nx en=>
    intro σ' F' H' s' rs;have hd:en[ps.length-1]?=some (some d):=Zd e';obtain⟨p',bX,bz,cw,h1,h2,h3,h4,h5,h6,h7⟩:=rs.own _ _ hd iy;obtain⟨p2,m1,m2⟩:=rs.pin _ iw;cases m1;rw[h1]at m2;cases m2;exact k bX bz cw F' H' rs.ex.gr h3 h4 h7 h5 h6|rt d'=>cases e'|bk en=>cases e'|ct en=>cases e'
end
theorem RS.call{K:Fg}{H₀:Hp}{F0:Fz}{F H F' H':Hp}{σ:L2.St}{en:Qj}{O:List Nat}{i:Nat}{p:Addr}{d0:D}{kk:Option (List Kd)}{xs:List V}{es:List D}(r:RS K H₀ F0 F H σ en O)(hi:i∈O)(he:en[i]?=some (some d0))(hσ:σ[i]?=some (some (.ref p)))(h0:F0.h p=none)(g:Gr F (er H p) F' H')(hf:F' p=none)(hp:H' p=some (ho kk xs))(hk:Vv kk xs)(re:Reps K F' xs es):RS K H₀ F0 F' H' σ (en.set i (some (dOf kk es))) O:=have hl:i<en.length:=by cases lt_or_ge i en.length with|inl h=>exact h|inr h=>rw[getElem?_eq_none h]at he;cases he
 {
 fh:=g.fh
 hh:=(r.hh.er h0).trans g.hh
 ff:=r.ff.trans g.ff
 fr:=λa o e=>by
  rcases g.fr a o e with z|z;·exact r.fr a o z
  ·by_cases q:a=p;·rw[q,hf]at e;cases e
   ·rw[Qc0 q]at z;exact .inr (r.hh.none z)
 slot:=λj d' e1 hj=>by
  have z:i≠j:=λz=>hj (z▸hi);rw[JT hl,if_neg z]at e1;obtain⟨v,h1,h2⟩:=r.slot j d' e1 hj;exact⟨v,h1,h2.mono g.ff⟩
 own:=λj d' e1 hj=>by
  rw[JT hl]at e1;split at e1;·rename_i z;cases e1;subst z;exact⟨p,kk,xs,es,hσ,h0,hf,hp,re,rfl,hk⟩
  ·rename_i z;obtain⟨q,k2,ys,iC,h1,h2,h3,h4,h5,h6⟩:=r.own j d' e1 hj;have qp:q≠p:=λw:q=p=>z (r.dis i j p _ _ hi hj he e1 hσ (by rw[<-w];exact h1));have e4:er H p q=some (ho k2 ys):=by rw[Qc0 qp];exact h4
   refine⟨q,k2,ys,iC,h1,h2,?_,g.hh _ _ e4,h5.mono g.ff,h6⟩;cases w:F' q with|none=>rfl|some o=>
    rcases g.fr q o w with z2|z2;·rw[h3]at z2;cases z2
    ·rw[e4]at z2;cases z2
 dis:=λj k q d1 d2 hj cM f1 f2 g1 g2=>by
  rw[JT hl]at f1 f2;have k1:∃d,en[j]?=some (some d):=by
   split at f1;·rename_i z;subst z;exact⟨_,he⟩
   ·exact⟨_,f1⟩
  have k2:∃d,en[k]?=some (some d):=by
   split at f2;·rename_i z;subst z;exact⟨_,he⟩
   ·exact⟨_,f2⟩
  obtain⟨_,k1⟩:=k1;obtain⟨_,k2⟩:=k2;exact r.dis j k q _ _ hj cM k1 k2 g1 g2
 pin:=r.pin
 len:=by rw[length_set];exact r.len}
def tLM(X:Cx)(O:List Nat)(i:Nat)(l:EvL):TA:=λσ H Q=>∃F0 F e ds p,RS X.K X.H₀ F0 F H σ e O/\l e=some ds/\σ[i]?=some (some (.ref p))/\∀vs F' H',Gr F H F' H'->Reps X.K F' vs ds->Q (vs++[.ref p]) H'
section
variable{X:Cx}{O OL:List Nat}{w:Bool}{e a:Expr}{es:List Expr}{p pos aH:Pos}{x y:Str}{ps:List Str}{k:Nat}
theorem Qfk(i:Nat)(hN:X.N[i]?=some x:=by rfl)(hv:Vis X.env.scope x:=by first|exact Or.inl rfl|exact Or.inr (Or.inl rfl)|exact Or.inr (Or.inr rfl))(hd:(x==("__debug__":Str))=false:=by decide)(bQ:(x==("__classdict__":Str))=false:=by decide):PA X [.Name x p] (tLM X O i lN):=PA.imp (Jw (Yo hN hv hd bQ) ZI ZL) λσ H Q⟨F0,F,en,ds,q,rs,z,hσ,k⟩=>by cases z;exact⟨_,hσ,k [] F H (.refl rs.fh) .nil⟩
theorem Za{i:Nat}{ea:EvE}{l:EvL}(ha:PE X a (tD X O ea))(hr:PA X es (tLM X O i l))(hs:starEach (a::es) X.env=(false,eval a X.env)::starEach es X.env:=by rfl):PA X (a::es) (tLM X O i (lC ea l)):=PA.imp (Jw ha hr hs) λσ H Q⟨F0,F,en,ds,q,rs,z,hσ,k⟩=>by obtain⟨d,e1,e2⟩:=QY z;obtain⟨ck,e3,rfl⟩:=Zi e2;refine⟨F0,F,en,d,rs,e1,λv F1 H1 g1 r1=>?_⟩;exact⟨F0,F1,en,ck,q,rs.grow g1,e3,hσ,λvs F2 H2 g2 r2=>k (v::vs) F2 H2 (g1.trans g2) (.cons (r1.mono g2.ff) r2)⟩
theorem QcK(i:Nat)(hi:i∈O){f:List D->Option D}{l:EvL}(c:Cal X.prog X.w X.K X.mg X.ab k x ps (spM X.K f))(hr:Room k X.A)(hg:Gl X x)(ha:PA X (e::es) (tLM X O i l))(bJ:(x==("__debug__":Str))=false:=by decide)(he:starEach (e::es) X.env=(false,eval e X.env)::starEach es X.env:=by rfl)(cn:(backTo aH (starEach es X.env)).any (·.1)=false:=by rfl)(d6:swapsWith (.Call (.Name x p) (e::es) [] aH) none pos.line X.env=pure false:=by rfl):PS X (.Expr (.Call (.Name x p) (e::es) [] aH) pos) (tS X O O OL w (VD i f l)):=by
 obtain⟨fa,fd,F,hb,hk,hm⟩:=c;refine PS.imp (VR (QiG F hr hg hm hk hb (.nil:Vals [] []) QoG ha bJ he cn) d6) λDn σ H⟨F0,F,en,fl,rs,z,k⟩=>?_;obtain⟨ds,e1,z1⟩:=QY z;obtain⟨dx,e2,z2⟩:=QY z1;obtain⟨dz,e3,rfl⟩:=Zi z2;obtain⟨q,kk,xs,cw,h1,h2,h3,h4,h5,h6,h7⟩:=rs.own i dx (Zd e2) hi;refine⟨F0,F,en,ds,q,rs,e1,h1,λvs F1 H1 g1 r1=>?_⟩;have bZ:=rs.grow g1;obtain⟨q',bX,bz,iC,k1,k2,k3,k4,k5,k6,k7⟩:=bZ.own i dx (Zd e2) hi;rw[h1]at k1;cases k1;subst k6;refine⟨F1,vs,ds,q,bX,bz,iC,dz,g1.fh,?_,r1,k3,k4,k7,k5,e3,λkk2 jY es3 F' H' g hf hp kX re ed=>?_⟩;·rw[append_nil]
 ·subst ed;exact k σ F' H' (g1.ff.trans g.ff) (bZ.call hi (Zd e2) h1 k2 g hf hp kX re)
end
def Itz(K:Fg)(a b:Addr):It:=⟨λi H=>∃xs ys x y,SqL K H a xs/\SqL K H b ys/\xs[i]?=some x/\ys[i]?=some y,λi H x H'=>∃p y1 y2,H p=none/\x=.ref p/\H'=upd H p (.tup [y1,y2])/\(∀xs,SqL K H a xs->xs[i]?=some y1)/\∀ys,SqL K H b ys->ys[i]?=some y2,λi H=>∃xs ys,SqL K H a xs/\SqL K H b ys/\(xs.length<=i\/ys.length<=i)⟩
theorem Qr0{P:Program}{w:World}{K:Fg}{elts:List Expr}{x1:Nat}{pos:Pos}(l1 l2 z TI TO i1 i2:Addr)(D:ZipApart z TI TO i1 i2 l1 l2):Turn P w K (.Tuple elts x1 pos) (Itz K l1 l2) [z,TI,TO,i1,i2] z (λi h=>IsZip h z TI TO .none/\IsPair h TI (.ref i1) (.ref i2)/\(∃a b,IsPair h TO a b)/\h.IsListIter i1 l1 i/\h.IsListIter i2 l2 i)where
 mem:=by simp
 obj:=λi h st b hb=>by
  obtain⟨hz,cS,⟨a,c,c8⟩,⟨o1,kR,c1,d1⟩,⟨o2,de,c2,d2⟩⟩:=st;simp only[mem_cons,not_mem_nil,or_false]at hb;rcases hb with q|q|q|q|q<;>subst q;·exact⟨_,hz,λv e=>by
    have e':Data.fields _=Data.cell v:=e;cases e'⟩
  ·exact⟨_,cS,λv e=>by
    have e':Data.seq _=Data.cell v:=e;cases e'⟩
  ·exact⟨_,c8,λv e=>by have e':Data.seq _=Data.cell v:=e;cases e'⟩
  ·exact⟨o1,kR,λv e=>by rw[d1]at e;cases e⟩
  ·exact⟨o2,de,λv e=>by rw[d2]at e;cases e⟩
 keep:=λi h h' st k=>by obtain⟨hz,cS,⟨a,c,c8⟩,h1,h2⟩:=st;exact⟨k z (by simp) _ hz,k TI (by simp) _ cS,⟨a,c,k TO (by simp) _ c8⟩,h1.at λo q=>k i1 (by simp) o q,h2.at λo q=>k i2 (by simp) o q⟩
 item:=by
  intro X hP hw hK hc i aa s σ H E I hf st hg;subst hP hw hK;obtain⟨hz,cS,⟨a,c,c8⟩,h1,h2⟩:=st;obtain⟨xs,ys,x,y,eU,c6,hx,hy⟩:=hg;obtain⟨fW,gm,p1,_⟩:=I.list eU;obtain⟨bK,gj,p2,_⟩:=I.list c6;obtain⟨u1,kG,j7⟩:=gm.get hx;obtain⟨u2,kF,j6⟩:=gj.get hy;refine wpAny_pyNext_zip_item D hz cS c8 h1 h2 p1.isList p2.isList (x:=u1) (y:=u2) (by simpa using kG) (by simpa using kF) λh' fD ja gK fc hT hsz kk=>?_;refine⟨_,rfl,wpAny_letOwnedTupleGo_zip fD λh3 kA sb=>?_⟩;have k2:∀b o,b∉[z,TI,TO,i1,i2]->s.heap.get? b=some o->h3.get? b=some o:=λb o hb q=>by
   have a1:b≠z:=λe=>hb (by simp[e]);have a2:b≠TO:=λe=>hb (by simp[e]);have a3:b≠i1:=λe=>hb (by simp[e]);have a4:b≠i2:=λe=>hb (by simp[e]);exact(sb.2 b a1).trans (kk b o a1 a2 a3 a4 q)
  have fe:H s.heap.objs.size=none:=I.hok.fresh (le_refl _);have lz:z<s.heap.objs.size:=Heap.lt_size hz;have kI:h3.get? s.heap.objs.size=some {cls:=.type "tuple",data:=.seq #[u1,u2]}:=(sb.2 _ (ne_of_gt lz)).trans hT;have I2:Inv X aa σ (upd H s.heap.objs.size (.tup [x,y])) {s with heap:=h3,toks:=s.toks}:=Qnu (t':=s.toks) I k2 hf (le_refl _) (show ObjOk X.prog X.w _ h3 _ (.tup [x,y])from⟨by show 2<=sizeLine;decide,[u1,u2],.cons j7 (.cons j6 .nil),⟨_,kI,rfl,_,rfl⟩⟩);have jb:IsPair h3 TI (.ref i1) (.ref i2):=(sb.2 _ D.TIz).trans (kk TI _ D.TIz D.TITO D.TIi1 D.TIi2 cS);refine⟨.ref s.heap.objs.size,_,I2,rfl,⟨_,x,y,fe,rfl,rfl,λzs fD=>by rw[I.list_inj fD eU];exact hx,λzs fD=>by rw[I.list_inj fD c6];exact hy⟩,⟨kA,jb,⟨u1,u2,(sb.2 _ D.TOz).trans ja⟩,gK.at λo q=>(sb.2 _ D.i1z).trans q,fc.at λo q=>(sb.2 _ D.i2z).trans q⟩,λb hb=>?_⟩;have bA:b<s.heap.objs.size:=by
   simp only[mem_cons,not_mem_nil,or_false]at hb;rcases hb with q|q|q|q|q<;>subst q;·exact lz
   ·exact Heap.lt_size cS
   ·exact Heap.lt_size c8
   ·obtain⟨o,ho,_⟩:=h1;exact Heap.lt_size ho
   ·obtain⟨o,ho,_⟩:=h2;exact Heap.lt_size ho
  rw[Qn (ne_of_lt bA)];exact(hf b hb).1
 done:=by
  intro X hP hw hK hc i aa s σ H E I hf st hg;subst hP hw hK;obtain⟨hz,cS,⟨a,c,c8⟩,h1,h2⟩:=st;obtain⟨xs,ys,eU,c6,hx⟩:=hg;obtain⟨fW,gm,p1,_⟩:=I.list eU;obtain⟨bK,gj,p2,_⟩:=I.list c6;have l1':=gm.length;have l2':=gj.length;refine wpAny_pyNext_zip_end (I.ok.hd hc) D hz cS c8 h1 h2 p1.isList p2.isList ?_ λh' kk=>⟨rfl,Qnv (t':=s.toks) I (λb o hb q=>kk b o (λe=>hb (by simp[e])) (λe=>hb (by simp[e])) (λe=>hb (by simp[e])) (λe=>hb (by simp[e])) q) hf⟩;rcases hx with q|q;·left;simp;omega
  ·right;simp;omega
 self:=λ_ _ _ _ _ st h=>by obtain⟨hz,_⟩:=st;exact wpAny_pyIter_zip hz h
theorem QxM{x y:Nat}(h:x<y\/y<x):x≠y:=by omega
theorem Qvo(I l1 l2:Nat)(h1:l1<I)(h2:l2<I):ZipApart (I+4) (I+2) (I+3) I (I+1) l1 l2:=by constructor<;>(refine QxM ?_;omega)
section
variable{X:Cx}{O:List Nat}{a b:Expr}{p pos:Pos}
def Qw7(K:Fg)(ta:TA):TI:=λσ H R=>ta σ H λvs H1=>∃l m,vs=[.ref l,.ref m]/\(∃xs,SqL K H1 l xs)/\(∃ys,SqL K H1 m ys)/\R (Itz K l m) H1
theorem QvO{elts:List Expr}{x1:Nat}{b9:Pos}{ta:TA}(hg:Gl X "zip")(hm:X.mg "zip"=none)(ha:PA X [a,b] ta)(hs:starEach [a,b] X.env=[(false,eval a X.env),(false,eval b X.env)])(eS:starEach [b] X.env=[(false,eval b X.env)]):PI X (.Tuple elts x1 b9) (.Call (.Name "zip" p) [a,b] [] pos) (Qw7 X.K ta):=by
 intro aa s σ H R I h;refine Call_ (QdE I hg hm boot_zip (PyProof.Rows.callWith_type1 (thn (ha pos aa s σ H _ I h) λus s1⟨vs,H1,I1,r1,q1⟩=>?_) (by rw[hs,eS]) (by rw[eS];rfl)));obtain⟨l,m,e,⟨xs,eU⟩,⟨ys,c6⟩,q⟩:=q1;subst e;obtain⟨u,u2,rfl,rx,ry⟩:=Qkn r1;cases rx;cases ry;obtain⟨fW,gm,p1,_⟩:=I1.list eU;obtain⟨bK,gj,p2,_⟩:=I1.list c6;have eP:l<s1.heap.objs.size:=by obtain⟨o,ho,_⟩:=p1.isList;exact Heap.lt_size ho
 have ko:m<s1.heap.objs.size:=by obtain⟨o,ho,_⟩:=p2.isList;exact Heap.lt_size ho
 have D:ZipApart (s1.heap.objs.size+4) (s1.heap.objs.size+2) (s1.heap.objs.size+3) s1.heap.objs.size (s1.heap.objs.size+1) l m:=Qvo _ _ _ eP ko;refine call_zip_2 p1.isList p2.isList λh' hz cS c8 lg k9 hsz hk=>?_;have I2:Inv X aa σ H1 {s1 with heap:=h'}:=I1.kept (t':=s1.toks) hk;have fe:∀b,s1.heap.objs.size<=b->H1 b=none:=λb hb=>I1.hok.fresh hb;refine wpAny_pyIter_zip hz ⟨_,[s1.heap.objs.size+4,s1.heap.objs.size+2,s1.heap.objs.size+3,s1.heap.objs.size,s1.heap.objs.size+1],_,_,H1,rfl,I2,Qr0 l m _ _ _ _ _ D,⟨hz,cS,⟨_,_,c8⟩,lg,k9⟩,λb hb=>?_,q⟩;have:s1.heap.objs.size<=b:=by
  simp only[mem_cons,not_mem_nil,or_false]at hb;rcases hb with q|q|q|q|q<;>rw[q];·exact le_add_right _ _
  ·exact le_add_right _ _
  ·exact le_add_right _ _
  ·exact le_refl _
  ·exact le_add_right _ _
 exact I1.fpOk this (fe b this)
theorem QgH:∀(as bs:List D),(Qai as bs).length=min as.length bs.length|[],_=>by simp[Qai]|_::_,[]=>by simp[Qai]|a::as,b::bs=>by rw[Qai,length_cons,QgH,length_cons,length_cons];omega
theorem Qk8:∀(as bs:List D)(i:Nat)(x y:D),as[i]?=some x->bs[i]?=some y->(Qai as bs)[i]?=some (.tup [x,y])|[],_,_,_,_,h,_=>by simp at h|_::_,[],_,_,_,_,h=>by simp at h|a::as,b::bs,0,_,_,h1,h2=>by simp at h1 h2;subst h1 h2;simp[Qai]|a::as,b::bs,i+1,x,y,h1,h2=>by rw[Qai,getElem?_cons_succ];exact Qk8 as bs i x y (by simpa using h1) (by simpa using h2)
theorem Qp9{K:Fg}{F:Hp}{v:V}{d:D}{ds:List D}(r:Rep K F v d)(e:D.its d=some ds):∃l xs,v=.ref l/\SqL K F l xs/\Reps K F xs ds:=by cases r with|@lst l xs ck hl r=>cases e;exact⟨l,xs,rfl,SqL.of hl,r⟩|@scr l ns hl=>cases e;exact⟨l,_,rfl,hl,Reps.ints ns⟩|_=>cases e
theorem Qqg{elts:List Expr}{x1:Nat}{b9:Pos}{ea eb:EvE}(hg:Gl X "zip")(hm:X.mg "zip"=none)(ha:PE X a (tD X O ea))(hb:PE X b (tD X O eb))(hs:starEach [a,b] X.env=[(false,eval a X.env),(false,eval b X.env)]:=by rfl)(eS:starEach [b] X.env=[(false,eval b X.env)]:=by rfl):PI X (.Tuple elts x1 b9) (.Call (.Name "zip" p) [a,b] [] pos) (tI X O (QgE ea eb)):=PI.imp (QvO hg hm (Jw ha (Jw hb ZI eS) (by rw[hs,eS])) hs eS) λσ H R⟨F0,F,en,lZ,rs,z,k⟩=>by
  obtain⟨dx,e1,z1⟩:=QY z;obtain⟨dy,e2,z2⟩:=QY z1;obtain⟨bz,e3,z3⟩:=QY z2;obtain⟨jX,e4,rfl⟩:=Zi z3;refine⟨F0,F,en,dx,rs,e1,λv F1 H1 g1 r1=>⟨F0,F1,en,dy,rs.grow g1,e2,λu F2 H2 g2 r2=>?_⟩⟩;obtain⟨l,xs,rfl,hl,rx⟩:=Qp9 (r1.mono g2.ff) e3;obtain⟨m,ys,rfl,gF,ry⟩:=Qp9 r2 e4;refine⟨l,m,rfl,⟨xs,g2.fh.sqL hl⟩,⟨ys,g2.fh.sqL gF⟩,k F2 H2 _ (g1.trans g2) ⟨λi F' H' s s' hi=>?_,λi F' H' x H3 s s' hi hy=>?_,λi F' H' s s' hi=>?_⟩⟩;·rw[QgH]at hi;obtain⟨v1,h1,_⟩:=rx.get (getElem?_eq_getElem (show i<bz.length by omega));obtain⟨v2,h2,_⟩:=ry.get (getElem?_eq_getElem (show i<jX.length by omega));exact⟨xs,ys,v1,v2,s'.sqL (s.sqL hl),s'.sqL (s.sqL gF),h1,h2⟩
  ·obtain⟨p,y1,y2,hp,rfl,rfl,gB,gZ⟩:=hy;obtain⟨d1,a1,a2⟩:=rx.getV (gB xs (s'.sqL (s.sqL hl)));obtain⟨d2,b1,b2⟩:=ry.getV (gZ ys (s'.sqL (s.sqL gF)));have g:=Gr.new s' hp (.tup [y1,y2]);exact⟨_,.tup [d1,d2],g,Qk8 _ _ i d1 d2 a1 b1,.tup QJ (.cons ((a2.mono s).mono g.ff) (.cons ((b2.mono s).mono g.ff) .nil))⟩
  ·rw[QgH]at hi;exact⟨xs,ys,s'.sqL (s.sqL hl),s'.sqL (s.sqL gF),by rw[rx.length,ry.length];omega⟩
end
section
variable{X:Cx}{O OL:List Nat}{w:Bool}{c:Expr}{body:List Stmt}{pos:Pos}
theorem QsW{ec:EvE}{b:EvS}(hp:PassesOwn (model X.prog X.w) X.A X.env X.xe)(hc:PT X c (tDT X O ec))(hb:PSs X body (tS X O O O w b)):PS X (.While c body [] pos) (tS X O O OL w (QpS ec b)):=PS.imp (Qsg hp hc hb) λDn σ H⟨F0,F,en,fl,rs,z,k⟩=>by
  refine⟨λm σ' H'=>∃F' bg,Sm F F'/\RS X.K X.H₀ F0 F' H' σ' bg O/\Vd ec b m bg=some fl,⟨100000,F,en,.refl F,rs,z⟩,?_⟩;rintro m σ' H'⟨F',bg,s',bI,e3⟩;cases m with
  |zero=>cases e3|succ n=>
   obtain⟨q,e4,e5⟩:=Y2 (show ifO (ec bg) (YX (b bg) (Vd ec b n)) (some (.nx bg))=some fl from e3);refine⟨F0,F',bg,q,bI,e4,λF1 H1 g1=>?_⟩;cases q with
   |true=>
    rw[if_pos rfl];have lY:YX (b bg) (Vd ec b n)=some fl:=e5;obtain⟨f,e6,e7⟩:=Qjm lY;refine⟨λσ2 H2=>∃F' bg,Sm F F'/\RS X.K X.H₀ F0 F' H2 σ2 bg O/\Vd ec b n bg=some fl,λσ2 H2 q=>⟨n,Nat.lt_succ_self n,q⟩,F0,F1,bg,f,bI.grow g1,e6,?_⟩;have sA:Sm F F1:=s'.trans g1.ff;cases f with
    |nx e=>exact λσ4 F4 H4 s4 cF=>⟨F4,e,sA.trans s4,cF,e7⟩|ct e=>exact λσ4 F4 H4 s4 cF=>⟨F4,e,sA.trans s4,cF,e7⟩|bk e=>cases e7;exact λσ4 F4 H4 s4 cF=>k σ4 F4 H4 (sA.trans s4) cF|rt d=>cases e7;exact k
   |false=>rw[if_neg (by decide)];cases e5;exact k σ' F1 H1 (s'.trans g1.ff) (bI.grow g1)
end
section
variable{X:Cx}{O:List Nat}{a:Expr}{p q pos:Pos}
theorem Qwn{P:Program}{w:World}{k:Key}{v:Value}(h:(Zr P w).is k v=true):RelV (kV k) v:=by
 rcases Zu (show Qef k v=true from h)with⟨i,t,rfl,rfl⟩|⟨x,t,rfl,rfl⟩;·exact⟨t,rfl⟩
 ·exact⟨t,rfl⟩
theorem Qw6{κ:Type}{ps:List (κ×V)}{vs:List (κ×Value)}(r:KV ps vs):∀{j:Nat}{p:κ×V}{v:κ×Value},ps[j]?=some p->vs[j]?=some v->p.1=v.1/\RelV p.2 v.2:=by unfold KV at r;induction r with|nil=>intro j p v h;simp at h|cons h _ ih=>intro j p v hp hv;cases j with|zero=>simp at hp hv;subst hp hv;exact h|succ j=>exact ih (by simpa using hp) (by simpa using hv)
theorem Qwe{κ:Type}{ps:List (κ×V)}{vs:List (κ×Value)}(r:KV ps vs):ps.length=vs.length:=Paired.length r
end
noncomputable def un(G G':Hp):Hp:=λa=>match G a with|some o=>some o|none=>G' a
theorem Qoo(G G':Hp):Sm G (un G G'):=λa o h=>by unfold un;rw[h]
theorem Qon{F G G':Hp}(s:Sm G F)(s':Sm G' F):Sm G' (un G G'):=λa o h=>by unfold un;cases e:G a with|none=>exact h|some x=>have:=s a x e;rw[s' a o h]at this;exact this.symm
theorem Qom{F G G':Hp}(s:Sm G F)(s':Sm G' F):Sm (un G G') F:=λa o h=>by unfold un at h;cases e:G a with|none=>rw[e]at h;exact s' a o h|some x=>rw[e]at h;cases h;exact s a _ e
theorem Qko{G G':Hp}{a:Addr}{o:HO}(h:un G G' a=some o):G a=some o\/G' a=some o:=by unfold un at h;cases e:G a with|none=>rw[e]at h;exact .inr h|some x=>rw[e]at h;exact .inl h
noncomputable def sgl(p:Addr)(o:HO):Hp:=λa=>if a=p then some o else none
theorem QpR(p:Addr)(o:HO):sgl p o p=some o:=if_pos rfl
theorem Qte{F:Hp}{p:Addr}{o:HO}(h:F p=some o):Sm (sgl p o) F:=λa x e=>by
 unfold sgl at e;split at e;·rename_i z;subst z;cases e;exact h
 ·cases e
theorem RS.forget{K:Fg}{H₀:Hp}{F0:Fz}{F H:Hp}{σ:L2.St}{e:Qj}{O:List Nat}(r:RS K H₀ F0 F H σ e O)(i:Nat):RS K H₀ F0 F H σ (e.set i none) O:=by
 have q:∀k d,(e.set i none)[k]?=some (some d)->e[k]?=some (some d):=λk d h=>by
  rw[getElem?_set]at h;split at h;·split at h<;>cases h
  ·exact h
 exact⟨r.fh,r.hh,r.ff,r.fr,λk d h=>r.slot k d (q k d h),λk d h=>r.own k d (q k d h),λk m p d d' hk hm h1 h2=>r.dis k m p d d' hk hm (q k d h1) (q m d' h2),r.pin,by rw[r.len,length_set]⟩
theorem RS.kill{K:Fg}{H₀:Hp}{F0:Fz}{F H:Hp}{σ:L2.St}{e:Qj}{O:List Nat}(r:RS K H₀ F0 F H σ e O)(i:Nat)(x:Option V)(hp:Q4 i∉O):RS K H₀ F0 F H (σ.set i x) (e.set i none) O:=by
 have q:∀k d,(e.set i none)[k]?=some (some d)->e[k]?=some (some d)/\(σ.set i x)[k]?=σ[k]?:=λk d h=>by
  rw[getElem?_set]at h;split at h;·split at h<;>cases h
  ·rename_i z;exact⟨h,by rw[getElem?_set,if_neg z]⟩
 refine⟨r.fh,r.hh,r.ff,r.fr,λk d h=>?_,λk d h=>?_,λk m p d d' hk hm h1 h2 s1 s2=>?_,λk hk=>?_,by rw[length_set,length_set,r.len]⟩;·rw[(q k d h).2];exact r.slot k d (q k d h).1
 ·rw[(q k d h).2];exact r.own k d (q k d h).1
 ·rw[(q k d h1).2]at s1;rw[(q m d' h2).2]at s2;exact r.dis k m p d d' hk hm (q k d h1).1 (q m d' h2).1 s1 s2
 ·obtain⟨p,h1,h2⟩:=r.pin k hk;refine⟨p,h1,?_⟩;rw[getElem?_set,if_neg (λz:i=k=>hp (by rw[z];exact hk))];exact h2
theorem Gr.un{F1 H1 G F' H':Hp}(sg:Sm G F1)(s1:Sm F1 H1)(g:Gr G H1 F' H'):Gr F1 H1 (un F1 F') H'/\Sm F' (un F1 F'):=by
 have s2:Sm F1 H':=s1.trans g.hh;refine⟨⟨Qoo _ _,g.hh,Qom s2 g.fh,λa o h=>?_⟩,Qon s2 g.fh⟩;rcases Qko h with z|z;·exact .inl z
 ·rcases g.fr a o z with y|y;·exact .inl (sg a o y)
  ·exact .inr y
end Wd
namespace Wd
open PySem PySem.W PyProof.Rows
def Spc{α:Type}(lt:Nat->Nat->Bool)(n:Nat):KasT α->(α->Prop)->Prop|.ret a,Q=>Q a|.ask i j k,Q=>i<n/\j<n/\Spc lt n (k (lt i j)) Q
section
variable{α β:Type}{lt:Nat->Nat->Bool}{n:Nat}
theorem Spc.mono{Q Q':α->Prop}(hq:∀a,Q a->Q' a):∀{t:KasT α},Spc lt n t Q->Spc lt n t Q'|.ret a,h=>hq a h|.ask i j k,h=>⟨h.1,h.2.1,Spc.mono hq h.2.2⟩
theorem Spc.bind{f:α->KasT β}{Q:β->Prop}:∀{t:KasT α},Spc lt n t (λa=>Spc lt n (f a) Q)->Spc lt n (t.bind f) Q|.ret a,h=>h|.ask i j k,h=>⟨h.1,h.2.1,Spc.bind (t:=k (lt i j)) h.2.2⟩
theorem Spc.wp{cmp:Nat->Nat->(Bool->Shared->Prop)->Shared->Prop}{R:Shared->Prop}(hc:∀i j C s,R s->i<n->j<n->(∀s',R s'->C (lt i j) s')->cmp i j C s){Q:α->Prop}{G:α->Shared->Prop}(hG:∀a s,R s->Q a->G a s):∀{t:KasT α}{s:Shared},R s->Spc lt n t Q->t.kasWp cmp G s|.ret a,s,r,h=>hG a s r h|.ask i j k,s,r,h=>hc i j _ s r h.1 h.2.1 λs' r'=>Spc.wp hc hG (t:=k (lt i j)) r' h.2.2
end
noncomputable def pl(p:Array Nat)(i:Nat):Nat:=(p[i]?).getD 0
theorem Qed(p:Array Nat)(i:Nat):p.getD i 0=pl p i:=by unfold pl;rw[Array.getD_eq_getD_getElem?]
theorem QbD{p:Array Nat}{i j:Nat}(hj:j<=p.size)(k:Nat):pl (kas_rev p i j) k=if i<=k/\k<j then pl p (i+j-1-k)else pl p k:=by unfold pl kas_rev;rw[getElem?_mirror_all hj];split<;>rfl
theorem QpX{p:Array Nat}{k d:Nat}(hk:k<p.size)(hd:d<=k)(j:Nat):pl (bubble p k d) j=if j=k-d then pl p k else if k-d<j/\j<=k then pl p (j-1)else pl p j:=by
 unfold pl;rw[getElem?_bubble hk d hd];split;·rfl
 ·split<;>rfl
structure Ord(lt:Nat->Nat->Bool)(n:Nat):Prop where
 as:∀i j,i<n->j<n->lt i j=true->lt j i=false
 tr:∀i j k,i<n->j<n->k<n->lt j i=false->lt k j=false->lt k i=false
section
variable{n:Nat}
structure Pm(n:Nat)(p:Array Nat):Prop where pm:p.Perm (List.toArray (List.range n))
theorem Pm.size{p:Array Nat}(h:Pm n p):p.size=n:=by have:=h.pm.toList.length_eq;simpa using this
theorem Pm.bd{p:Array Nat}(h:Pm n p)(hn:0<n)(i:Nat):pl p i<n:=by unfold pl;cases e:p[i]? with|none=>exact hn|some x=>have hx:x∈p:=Array.mem_of_getElem? e;have:=(h.pm.mem_iff).mp hx;simpa using this
theorem Pm.rev{p:Array Nat}(h:Pm n p)(i j:Nat):Pm n (kas_rev p i j):=⟨(mirror_perm _ _ _ _).trans h.pm⟩
theorem Pm.bub{p:Array Nat}(h:Pm n p)(k d:Nat):Pm n (bubble p k d):=⟨(bubble_perm _ _ _).trans h.pm⟩
end
section
variable{lt:Nat->Nat->Bool}{n:Nat}(o:Ord lt n)
def Up(lt:Nat->Nat->Bool)(p:Array Nat)(k:Nat):Prop:=∀i j,i<=j->j<k->lt (pl p j) (pl p i)=false
def Dn(lt:Nat->Nat->Bool)(p:Array Nat)(k:Nat):Prop:=∀i j,i<=j->j<k->lt (pl p i) (pl p j)=false
include o
theorem Ord.ir(i:Nat)(h:i<n):lt i i=false:=by cases e:lt i i with|false=>rfl|true=>rw[o.as i i h h e]at e;cases e
theorem Up.succ{p:Array Nat}(hp:Pm n p)(hn:0<n){k:Nat}(h:Up lt p k)(h1:1<=k)(e:lt (pl p k) (pl p (k-1))=false):Up lt p (k+1):=λi j cC hj=>by
 have b:=hp.bd hn;by_cases z:j=k
 ·subst z;by_cases y:i=j;·subst y;exact o.ir _ (b _)
  ·exact o.tr _ (pl p (j-1)) _ (b _) (b _) (b _) (h i (j-1) (by omega) (by omega)) e
 ·exact h i j cC (by omega)
theorem Dn.succ{p:Array Nat}(hp:Pm n p)(hn:0<n){k:Nat}(h:Dn lt p k)(h1:1<=k)(e:lt (pl p (k-1)) (pl p k)=false):Dn lt p (k+1):=λi j cC hj=>by
 have b:=hp.bd hn;by_cases z:j=k
 ·subst z;by_cases y:i=j;·subst y;exact o.ir _ (b _)
  ·exact o.tr _ (pl p (j-1)) _ (b _) (b _) (b _) e (h i (j-1) (by omega) (by omega))
 ·exact h i j cC (by omega)
theorem QoP{p:Array Nat}(hp:Pm n p)(hn:0<n):∀(f k:Nat),1<=k->k+f<=n->Up lt p k->Spc lt n (kas_asc p f k) λm=>k<=m/\m<=k+f/\Up lt p m/\(m=k+f\/lt (pl p m) (pl p (m-1))=true)|0,k,_,_,h=>⟨le_refl _,le_refl _,h,.inl rfl⟩|f+1,k,h1,h2,h=>by unfold kas_asc;rw[Qed,Qed];refine⟨hp.bd hn _,hp.bd hn _,?_⟩;dsimp only;cases e:lt (pl p k) (pl p (k-1))with|true=>rw[if_pos rfl];exact⟨le_refl _,by omega,h,.inr e⟩|false=>rw[if_neg (by simp)];exact(QoP hp hn f (k+1) (by omega) (by omega) (h.succ o hp hn h1 e)).mono λm⟨a,b,c,d⟩=>⟨by omega,by omega,c,d.imp (λz=>by omega) id⟩
def Eqs(lt:Nat->Nat->Bool)(p:Array Nat)(a k:Nat):Prop:=∀i j,a<=i->i<k->a<=j->j<k->lt (pl p i) (pl p j)=false
theorem Dn.turn{p:Array Nat}(hp:Pm n p)(hn:0<n){a k:Nat}(hk:k<=n)(h:Dn lt p k)(q:Eqs lt p a k):Dn lt (kas_rev p a k) k:=λi j cC hj=>by
 have b:=hp.bd hn;have hs:k<=p.size:=by rw[hp.size];exact hk
 rw[QbD hs,QbD hs];by_cases z:a<=i
 ·rw[if_pos (by omega),if_pos (by omega)];exact q _ _ (by omega) (by omega) (by omega) (by omega)
 ·rw[if_neg (by omega)];by_cases y:a<=j
  ·rw[if_pos (by omega)];exact h i _ (by omega) (by omega)
  ·rw[if_neg (by omega)];exact h i j cC hj
theorem QhF(hn:0<n):∀(f:Nat)(p:Array Nat)(k q:Nat),Pm n p->q+1<=k->k+f<=n->Dn lt p k->Eqs lt p (k-(q+1)) k->Spc lt n (kas_desc f p k q) λr=>Pm n r.1/\k<=r.2.1/\r.2.1<=k+f/\r.2.2+1<=r.2.1/\Dn lt r.1 r.2.1/\Eqs lt r.1 (r.2.1-(r.2.2+1)) r.2.1
 |0,p,k,q,hp,hq,hf,h,e=>⟨hp,le_refl _,le_refl _,hq,h,e⟩|f+1,p,k,q,hp,hq,hf,h,e=>by
  have b:=hp.bd hn;have one:∀p':Array Nat,Pm n p'->Eqs lt p' (k+1-(0+1)) (k+1):=λp' bW i j h1 h2 h3 h4=>by
   have:i=j:=by omega
   rw[this];exact o.ir _ (bW.bd hn _)
  unfold kas_desc;simp only[Qed];refine⟨b _,b _,?_⟩;dsimp only;cases c:lt (pl p k) (pl p (k-1))with
  |true=>
   rw[if_pos rfl];have c':=o.as _ _ (b _) (b _) c;split
   ·have hs:k<=p.size:=by rw[hp.size];omega
    have d:=h.turn o hp hn (by omega) e;have bW:=hp.rev (k-(q+1)) k;refine(QhF hn f _ (k+1) 0 bW (by omega) (by omega) (d.succ o bW hn (by omega) ?_) (one _ bW)).mono λr⟨a1,a2,a3,a4⟩=>⟨a1,by omega,by omega,a4⟩;rw[QbD hs,QbD hs,if_pos (by omega),if_neg (by omega)];exact o.tr _ (pl p (k-1)) _ (b _) (b _) (b _) c' (e _ _ (by omega) (by omega) (by omega) (by omega))
   ·exact(QhF hn f p (k+1) 0 hp (by omega) (by omega) (h.succ o hp hn (by omega) c') (one p hp)).mono λr⟨a1,a2,a3,a4⟩=>⟨a1,by omega,by omega,a4⟩|false=>
   rw[if_neg (by simp)];refine⟨b _,b _,?_⟩;dsimp only;cases c2:lt (pl p (k-1)) (pl p k)with|true=>rw[if_pos rfl];exact⟨hp,le_refl _,(by show k<=k+(f+1);omega),hq,h,e⟩|false=>
    rw[if_neg (by simp)];refine(QhF hn f p (k+1) (q+1) hp (by omega) (by omega) (h.succ o hp hn (by omega) c2) λi j h1 h2 h3 h4=>?_).mono λr⟨a1,a2,a3,a4⟩=>⟨a1,by omega,by omega,a4⟩;have lo:∀x,k+1-(q+1+1)<=x->x<k->k-(q+1)<=x:=λx hx _=>by omega
    by_cases zi:i=k
    ·by_cases zj:j=k;·rw[zi,zj];exact o.ir _ (b _)
     ·subst zi;exact o.tr _ (pl p (i-1)) _ (b _) (b _) (b _) (e _ _ (by omega) (by omega) (by omega) (by omega)) c
    ·by_cases zj:j=k
     ·subst zj;exact o.tr _ (pl p (j-1)) _ (b _) (b _) (b _) c2 (e _ _ (by omega) (by omega) (by omega) (by omega))
     ·exact e i j (by omega) (by omega) (by omega) (by omega)
theorem QpN(hn:0<n){p:Array Nat}{k aY:Nat}(hp:Pm n p)(h1:1<=k)(hk:k<=aY)(hr:aY<=n)(h:Dn lt p k):Spc lt n (kas_tail3 k aY p) λr=>1<=r.1/\r.1<=aY/\Pm n r.2/\Up lt r.2 r.1:=by
 unfold kas_tail3;have hs:k<=p.size:=by rw[hp.size];omega
 refine Spc.bind ((QoP o (hp.rev 0 k) hn (aY-k) k h1 (by omega) λi j cC hj=>?_).mono λm⟨a1,a2,a3,_⟩=>⟨by show 1<=m;omega,by show m<=aY;omega,hp.rev 0 k,a3⟩);rw[QbD hs,QbD hs,if_pos (by omega),if_pos (by omega)];exact h _ _ (by omega) (by omega)
theorem Qn2(hn:0<n){p:Array Nat}{k aY:Nat}(hp:Pm n p)(h1:1<=k)(hk:k+1<=aY)(hr:aY<=n)(h:Dn lt p (k+1)):Spc lt n (kas_descPart k aY p) λr=>1<=r.1/\r.1<=aY/\Pm n r.2/\Up lt r.2 r.1:=by
 unfold kas_descPart;refine Spc.bind ((QhF o hn (aY-(k+1)) p (k+1) 0 hp (by omega) (by omega) h λi j a1 a2 a3 a4=>?_).mono λr⟨a1,a2,a3,a4,a5,a6⟩=>?_)
 ·have:i=j:=by omega
  rw[this];exact o.ir _ (hp.bd hn _)
 ·split;·exact QpN o hn (a1.rev _ _) (by omega) (by omega) hr (a5.turn o a1 hn (by omega) a6)
  ·exact QpN o hn a1 (by omega) (by omega) hr a5
theorem Qu2(hn:0<n){p:Array Nat}{aY:Nat}(hp:Pm n p)(h1:1<=aY)(hr:aY<=n):Spc lt n (kas_count aY p) λr=>1<=r.1/\r.1<=aY/\Pm n r.2/\Up lt r.2 r.1:=by
 have b:=hp.bd hn;unfold kas_count;have up1:Up lt p 1:=λi j cC hj=>by
  have:i=j:=by omega
  rw[this];exact o.ir _ (b _)
 refine Spc.bind ((QoP o hp hn (aY-1) 1 (le_refl _) (by omega) up1).mono λm⟨a1,a2,a3,a4⟩=>?_);split;·exact⟨a1,by show m<=aY;omega,hp,a3⟩
 ·rename_i z;have zz:m≠aY:=by simpa using z
  have st0:lt (pl p m) (pl p (m-1))=true:=by
   rcases a4 with a4|a4;·omega
   ·exact a4
  split
  ·rw[Qed,Qed];refine⟨b _,b _,?_⟩;dsimp only;cases c:lt (pl p 0) (pl p (m-1))with
   |true=>rw[if_pos rfl];exact⟨a1,by show m<=aY;omega,hp,a3⟩|false=>
    rw[if_neg (by simp)];have hs:m<=p.size:=by rw[hp.size];omega
    have al:∀i j,i<m->j<m->lt (pl p i) (pl p j)=false:=λi j hi hj=>o.tr _ (pl p (m-1)) _ (b _) (b _) (b _) (a3 j (m-1) (by omega) (by omega)) (o.tr _ (pl p 0) _ (b _) (b _) (b _) c (a3 0 i (by omega) (by omega)));refine Qn2 o hn (hp.rev 0 m) a1 (by omega) hr ?_;have st:lt (pl p (m-1)) (pl p m)=false:=o.as _ _ (b _) (b _) st0;intro i j cC hj;rw[QbD hs,QbD hs];by_cases zj:j=m
    ·subst zj;by_cases zi:i=j;·subst zi;rw[if_neg (by omega)];exact o.ir _ (b _)
     ·rw[if_pos (by omega),if_neg (by omega)];exact o.tr _ (pl p (j-1)) _ (b _) (b _) (b _) st (al _ _ (by omega) (by omega))
    ·rw[if_pos (by omega),if_pos (by omega)];exact al _ _ (by omega) (by omega)
  ·have m1:m=1:=by omega
   subst m1;refine Qn2 o hn hp a1 (by omega) hr λi j cC hj=>?_;have st:lt (pl p (1-1)) (pl p 1)=false:=o.as _ _ (b _) (b _) st0;by_cases zi:i=j;·rw[zi];exact o.ir _ (b _)
   ·have:i=0:=by omega
    have:j=1:=by omega
    subst i j;exact st
theorem QiD{p:Array Nat}(hp:Pm n p)(hn:0<n){k:Nat}(h:Up lt p k):∀(f l r:Nat),l<=r->r<=k->r-l<=f->(∀i,i<l->lt (pl p k) (pl p i)=false)->(∀i,r<=i->i<k->lt (pl p i) (pl p k)=false)->Spc lt n (kas_place p k f l r) λm=>m<=k/\(∀i,i<m->lt (pl p k) (pl p i)=false)/\∀i,m<=i->i<k->lt (pl p i) (pl p k)=false
 |0,l,r,h1,h2,h3,ha,hb=>by
  have:r=l:=by omega
  subst this;exact⟨h2,ha,hb⟩|f+1,l,r,h1,h2,h3,ha,hb=>by
  have b:=hp.bd hn;unfold kas_place;split
  ·have:r=l:=by omega
   subst this;exact⟨h2,ha,hb⟩
  ·rw[Qed,Qed];refine⟨b _,b _,?_⟩;dsimp only;cases c:lt (pl p k) (pl p ((l+r)/2))with
   |true=>rw[if_pos rfl];refine QiD hp hn h f l _ (by omega) (by omega) (by omega) ha λi hi k8=>?_;exact o.tr _ (pl p ((l+r)/2)) _ (b _) (b _) (b _) (o.as _ _ (b _) (b _) c) (h _ _ hi k8)|false=>rw[if_neg (by simp)];refine QiD hp hn h f _ r (by omega) h2 (by omega) (λi hi=>?_) hb;exact o.tr _ (pl p ((l+r)/2)) _ (b _) (b _) (b _) (h _ _ (by omega) (by omega)) c
theorem Qtv(hn:0<n):∀(f:Nat)(p:Array Nat)(k:Nat),Pm n p->k+f=n->Up lt p k->Spc lt n (kas_bin f p k) λr=>Pm n r/\Up lt r n
 |0,p,k,hp,hk,h=>by
  have:k=n:=by omega
  subst this;exact⟨hp,h⟩|f+1,p,k,hp,hk,h=>by
  have b:=hp.bd hn;unfold kas_bin;refine Spc.bind ((QiD o hp hn h k 0 k (by omega) (le_refl _) (by omega) (λi hi=>by omega) (λi h1 h2=>by omega)).mono λl⟨a1,a2,a3⟩=>?_);refine Qtv hn f _ (k+1) (hp.bub _ _) (by omega) λi j cC hj=>?_;have hs:k<p.size:=by rw[hp.size];omega
  have e:k-(k-l)=l:=by omega
  rw[QpX hs (by omega),QpX hs (by omega),e];by_cases z1:i=j
  ·subst z1;split;·exact o.ir _ (b _)
   ·split<;>exact o.ir _ (b _)
  ·by_cases yj:j=l
   ·rw[if_pos yj,if_neg (by omega),if_neg (by omega)];exact a2 i (by omega)
   ·rw[if_neg yj];by_cases yi:i=l
    ·rw[if_pos yi,if_pos (by omega)];exact a3 _ (by omega) (by omega)
    ·rw[if_neg yi];split
     ·split;·exact h _ _ (by omega) (by omega)
      ·exact h _ _ (by omega) (by omega)
     ·split;·exact h _ _ (by omega) (by omega)
      ·exact h _ _ (by omega) (by omega)
theorem Qvv(hn:0<n):Spc lt n (kas_sort n) λr=>Pm n r/\Up lt r n:=by
 unfold kas_sort;refine Spc.bind ((Qu2 o hn ⟨.refl _⟩ hn (le_refl _)).mono λr⟨a1,a2,a3,a4⟩=>?_);have mx:max r.1 1=r.1:=by omega
 split
 ·rw[mx];exact Qtv o hn _ _ _ a3 (by omega) a4
 ·have:r.1=n:=by omega
  exact⟨a3,this▸a4⟩
end
end Wd
namespace Wd
open PySem PySem.W PySem.Calls PyProof.Rows
theorem Qo6(vs:List Value):((List.range vs.length).map λi=>vs.getD i Value.none)=vs:=by apply List.ext_getElem (by simp);intro i h1 h2;simp[h2]
noncomputable def Qae(h:Heap)(a:Addr)(vs:List Value):Heap:=((h.update a (Obj.mapSeq λ_=>#[])).push (seqObj "tuple" vs.toArray 0)).push (seqObj "list" #[] 0)
section
variable{prog:Program}{w:World}{A:Around}{E:Value->Shared->Prop}{s:Shared}{a:Addr}{vs:List Value}{lt:Nat->Nat->Bool}{κ:SortKind}
theorem Qvu{n:Nat}{P:PySem.Fin->Shared->Prop}(dt:s.heap.get? a=some (seqObj "list" vs.toArray n))(c9:vs.length<64)(o:Ord lt vs.length)(kd:2<=vs.length->∀(R:SortKind->Shared->Prop),R κ {s with heap:=Qae s.heap a vs}->wpAny (model prog w) A (keyKind' vs.toArray) R E {s with heap:=Qae s.heap a vs})(cp:∀i j(C:Bool->Shared->Prop),i<vs.length->j<vs.length->C (lt i j) {s with heap:=Qae s.heap a vs}->wpAny (model prog w) A (keyLt' κ (vs.getD i Value.none) (vs.getD j Value.none)) C (λ_ _=>False) {s with heap:=Qae s.heap a vs})(fin:∀p,Pm vs.length p->Up lt p vs.length->P (.done (.ret .none)) {s with heap:=sortedHeap s.heap a vs (List.toArray (p.toList.map λi=>vs.getD i Value.none))}):wpAny (model prog w) A (Builtin.«list.sort» ⟨[.ref a],[]⟩) P E s:=by
 have az:a<s.heap.objs.size:=Heap.lt_size dt;obtain⟨c,jU⟩:∃c,(s.heap.update a (Obj.mapSeq λ_=>(#[]:Array Value))).get? a=some (seqObj "list" #[] c):=⟨_,get?_update_seq dt λ_=>#[]⟩;have at2:(Qae s.heap a vs).get? a=some (seqObj "list" #[] c):=Heap.get?_push_of_some _ (Heap.get?_push_of_some _ jU);rw[list_sort_plain];apply wpAny_bind;apply listItems_at dt rfl;apply wpAny_bind;refine listUpdate_at dt rfl ?_ (by rw[size_toArray,sizeLine_eq];omega) (zero_le _);apply wpAny_bind;apply seqEpoch_at jU rfl;apply wpAny_bind;refine wpAny_newTuple ?_ (by show vs.length<=_;rw[sizeLine_eq];omega);apply wpAny_bind;refine wpAny_newList ?_ (zero_le _);apply wpAny_holding;show wpAny (model prog w) A _ P E {s with heap:=Qae s.heap a vs};dsimp only;have len:∀p:Array Nat,Pm vs.length p->(List.toArray (p.toList.map λi=>vs.getD i Value.none)).size<=sizeLine+1:=λp hp=>by rw[size_toArray,length_map,length_toList,hp.size,sizeLine_eq];omega
 by_cases two:vs.toArray.size<2
 ·rw[if_pos two,if_pos two];apply wpAny_bind;apply wpAny_pure;rw[StateT.run_pure];apply wpAny_bind;apply wpAny_pure;dsimp only;have one:vs.length<2:=by simpa using two
  have pm:Pm vs.length (List.toArray (List.range vs.length)):=⟨.refl _⟩;have e:(arrOf (SortSt.mk' general' (vs.toArray.zip vs.toArray) #[] 7 none)).map (·.2)=List.toArray ((List.toArray (List.range vs.length)).toList.map λi=>vs.getD i Value.none):=by
   show(vs.toArray.zip vs.toArray).map (·.2)=_;rw[List.toList_toArray,Qo6];apply Array.toList_inj.mp;rw[Array.toList_map,Array.toList_zip];rw[List.toList_toArray,List.map_snd_zip (le_refl _)]
  rw[e];apply wpAny_bind;apply seqEpoch_at at2 rfl;apply wpAny_bind;refine listUpdate_at at2 rfl ?_ (zero_le _) (len _ pm);simp only[bne_self_eq_false,Bool.false_eq_true,if_false];refine wpAny_pure (fin _ pm λi j h1 h2=>?_);have:i=j:=by omega
  rw[this];exact o.ir _ (pm.bd (by omega) _)
 ·rw[if_neg two,if_neg two];have h2:2<=vs.length:=by simpa using two
  apply wpAny_bind;refine kd h2 _ ?_;have run:=kat_run (prog:=prog) (w:=w) (A:=A) (E:=E) (κ:=κ) (ks:=vs) (vs:=vs) (s:={s with heap:=Qae s.heap a vs}) (Q:=λcZ s'=>∃p:Array Nat,Pm vs.length p/\Up lt p vs.length/\arrOf cZ=p.map (kas_item (vs.toArray.zip vs.toArray))/\failedOf cZ=none/\s'={s with heap:=Qae s.heap a vs}) (G:=λp s'=>Pm vs.length p/\Up lt p vs.length/\s'={s with heap:=Qae s.heap a vs}) rfl h2 c9 (λp cZ s' _ b1 b2⟨b3,b4,b5⟩=>⟨p,b3,b4,b1,b2,b5⟩) (Spc.wp (R:=λs'=>s'={s with heap:=Qae s.heap a vs}) (λi j C s' r hi hj hC=>by subst r;exact cp i j C hi hj (hC _ rfl)) (λp s' r hq=>⟨hq.1,hq.2,r⟩) rfl (Qvv o (by omega)));apply wpAny_bind;refine wpAny_mono run ?_ λ_ _ e=>e;rintro⟨⟨⟩,cZ⟩s'⟨p,hp,hu,lF,hf,rfl⟩;dsimp only;rw[kat_snds rfl lF];apply wpAny_bind;apply seqEpoch_at at2 rfl;apply wpAny_bind;refine listUpdate_at at2 rfl ?_ (zero_le _) (len p hp);rw[hf];simp only[bne_self_eq_false,Bool.false_eq_true,if_false];exact wpAny_pure (fin p hp hu)
end
section
variable{prog:Program}{w:World}{A:Around}{E:Value->Shared->Prop}{s:Shared}{T:String}{r d:Addr}{n:Nat}{P:Nat->Value->Prop}{OK:Heap->Prop}
theorem Qnr{Q:List Value->Shared->Prop}(K:KdlSrc prog w T r d n P OK)(hh:A.handled=none)(hok:OK s.heap)(hn:n<=sizeLine)(h:∀(h':Heap)(tk:Nat)(vs:List Value),s.heap.objs.size<=h'.objs.size->(∀b o,s.heap.get? b=some o->h'.get? b=some o)->vs.length=n->(∀(j:Nat)(v:Value),vs[j]?=some v->P j v)->Q vs {s with heap:=h',toks:=tk}):wpAny (model prog w) A (collect (.ref r)) Q E s:=by
 unfold collect;apply wpAny_bind;apply wpAny_runValue;apply codeAny_builtin entry_proto_collect';show wpAny _ _ (do again (.builtin "list.__iadd__" ⟨[<-newList [],.ref r],[]⟩)) _ _ s;apply wpAny_bind;refine wpAny_newList ?_ (zero_le _);apply wpAny_pure;refine⟨Code.quiet_builtin _ (by decide+kernel),codeAny_builtin entry_list_iadd' ?_⟩;show wpAny _ _ (Builtin.List.listExtendWith (.ref s.heap.objs.size) (.ref r) (.ref s.heap.objs.size)) _ _ {s with heap:=s.heap.push (seqObj "list" #[] 0)};have th:=K.there _ hok;have nw:(s.heap.push (seqObj "list" #[] 0)).get? s.heap.objs.size=some {cls:=.type "list",data:=.seq #[] 0}:=Heap.get?_push_size _ rfl;have key:=kdl_extend (A:=A) (s:={s with heap:=s.heap.push (seqObj "list" #[] 0)}) (R:=λr s'=>match r with
   |.ok (.ret v)=>wpAny (model prog w) A (match v with
    |.ref a=>do match(<-load a).data with
     |.seq xs _=>pure xs.toList|_=>unsupported "internal:collect"
    |_=>unsupported "internal:collect") Q E s'|.ok _=>False|.error e=>E e s') K hh (K.keep _ _ hok λb _ o e=>Heap.get?_push_of_some _ e) s.heap.objs.size (ne_of_gt th.1) (ne_of_gt th.2) (.ref s.heap.objs.size) 0 nw (λh' tk acc c hk hS bF=>by show wpAny (model prog w) A (do let o<-load s.heap.objs.size match o.data with|.seq xs _=>pure xs.toList|_=>unsupported "internal:collect") Q E {s with heap:=h',toks:=tk};apply wpAny_bind;apply wpAny_load hS;refine wpAny_pure (h h' tk acc.toList (le_of_lt (Heap.lt_size hS)) (λb o e=>hk b o (ne_of_lt (Heap.lt_size e)) (Heap.get?_push_of_some _ e)) (by rw[length_toList];exact bF.1) λj v e=>bF.2 j v (by rw[<-Array.getElem?_toList];exact e))) hn;exact key
theorem Qld{v:Value}{lt:Nat->Nat->Bool}{κ:SortKind}{Src:List Value->Prop}{Q:Value->Shared->Prop}{m:Nat}(c9:m<64)(o:Ord lt m)(len:∀vs,Src vs->vs.length=m)(col:∀(R:List Value->Shared->Prop)(E:Value->Shared->Prop),(∀(h':Heap)(tk:Nat)(vs:List Value),s.heap.objs.size<=h'.objs.size->(∀b o,s.heap.get? b=some o->h'.get? b=some o)->Src vs->R vs {s with heap:=h',toks:=tk})->wpAny (model prog w) A.in1 (collect v) R E s)(kd:∀(h':Heap)(tk:Nat)(vs:List Value),(∀b o,s.heap.get? b=some o->h'.get? b=some o)->Src vs->2<=vs.length->∀(R:SortKind->Shared->Prop)(E:Value->Shared->Prop),R κ {s with heap:=h',toks:=tk}->wpAny (model prog w) A.in1.in1 (keyKind' vs.toArray) R E {s with heap:=h',toks:=tk})(cp:∀(h':Heap)(tk:Nat)(vs:List Value),(∀b o,s.heap.get? b=some o->h'.get? b=some o)->Src vs->∀i j(C:Bool->Shared->Prop),i<vs.length->j<vs.length->C (lt i j) {s with heap:=h',toks:=tk}->wpAny (model prog w) A.in1.in1 (keyLt' κ (vs.getD i Value.none) (vs.getD j Value.none)) C (λ_ _=>False) {s with heap:=h',toks:=tk})(fin:∀(h':Heap)(tk:Nat)(vs:List Value)(p:Array Nat)(D c:Nat),(∀b o,s.heap.get? b=some o->h'.get? b=some o)->Src vs->Pm m p->Up lt p m->s.heap.objs.size<=D->h'.get? D=some (seqObj "list" (List.toArray (p.toList.map λi=>vs.getD i Value.none)) c)->Q (.ref D) {s with heap:=h',toks:=tk}):wpAny (model prog w) A (call (.builtin "sorted") [v]) Q E s:=by
 apply Calls.call_function_entry kind_sorted plain_sorted entry_sorted (args_sorted1 _);unfold Builtin.«sorted»;apply wpAny_bind (m:=checkCount "sorted" 1 1 _);apply wpAny_pure;apply wpAny_bind;refine col _ _ λh1 tk vs ku k1 src=>?_;have lv:=len vs src;apply wpAny_bind;refine wpAny_newList ?_ (by rw[sizeLine_eq];omega);have nw:(h1.push (seqObj "list" vs.toArray 0)).get? h1.objs.size=some (seqObj "list" vs.toArray 0):=Heap.get?_push_size _ rfl;have kS:∀b o,s.heap.get? b=some o->(Qae (h1.push (seqObj "list" vs.toArray 0)) h1.objs.size vs).get? b=some o:=λb o e=>by have e1:=k1 b o e;have eP:=Heap.lt_size e1;exact Heap.get?_push_of_some _ (Heap.get?_push_of_some _ ((Heap.get?_update_ne _ _ _ _ (ne_of_lt eP)).trans (Heap.get?_push_of_some _ e1)))
 apply wpAny_bind;apply wpAny_holding;refine wpAny_call_entry slot_list_sort ⟨_,nw,rfl⟩ entry_list_sort ?body (args_list_sort _);refine Qvu (s:={s with heap:=h1.push (seqObj "list" vs.toArray 0),toks:=tk}) (lt:=lt) (κ:=κ) nw (by omega) (lv▸o) (λh2 R hR=>kd _ tk vs kS src h2 R _ hR) (λi j C hi hj hC=>cp _ tk vs kS src i j C hi hj hC) λp hp hu=>?_;have eP:h1.objs.size<(h1.push (seqObj "list" vs.toArray 0)).objs.size:=Heap.lt_size nw;obtain⟨c1,b1⟩:∃c,((h1.push (seqObj "list" vs.toArray 0)).update h1.objs.size (Obj.mapSeq λ_=>(#[]:Array Value))).get? h1.objs.size=some (seqObj "list" #[] c):=⟨_,get?_update_seq nw λ_=>#[]⟩;have b2:(Qae (h1.push (seqObj "list" vs.toArray 0)) h1.objs.size vs).get? h1.objs.size=some (seqObj "list" #[] c1):=Heap.get?_push_of_some _ (Heap.get?_push_of_some _ b1);refine⟨_,rfl,wpAny_pure ⟨_,rfl,fin (sortedHeap (h1.push (seqObj "list" vs.toArray 0)) h1.objs.size vs (List.toArray (p.toList.map λi=>vs.getD i Value.none))) tk vs p h1.objs.size _ (λb o e=>?_) src (lv▸hp) (lv▸hu) ku (get?_update_seq b2 λ_=>List.toArray (p.toList.map λi=>vs.getD i Value.none))⟩⟩;have e1:=k1 b o e;exact(Heap.get?_update_ne _ _ _ _ (ne_of_lt (Heap.lt_size e1))).trans (kS b o e)
end
end Wd
namespace Wd
open PySem PySem.Spec PyProof.Rows L2
noncomputable def ltS(a b:Str):Bool:=decide (a.cps.toList<b.cps.toList)
def J2(a b:Str×Int):Bool:=if a.1=b.1 then decide (a.2<b.2)else ltS a.1 b.1
theorem QtA{a b:Str}(h:a.cps.toList=b.cps.toList):a=b:=by cases a;cases b;simp only[Str.mk.injEq];exact Array.toList_inj.mp h
theorem Qhy(a:Str):ltS a a=false:=strKind.irrefl _
theorem Qhz{a b:Str}(h:ltS a b=true):ltS b a=false:=by cases e:ltS b a with|false=>rfl|true=>have:=strKind.trans _ _ _ h e;rw[show strKind.blt a.cps.toList a.cps.toList=false from strKind.irrefl _]at this;cases this
theorem QdR{a b:Str}(h:ltS a b=false)(h':ltS b a=false):a=b:=QtA (strKind.total _ _ h h')
theorem Qf9{a c:Str}(b:Str)(h:ltS a c=true):ltS a b=true\/ltS b c=true:=strKind.negTrans _ _ _ h
theorem VF(a b:Str×Int):J2 a b=true↔ltS a.1 b.1=true\/a.1=b.1/\a.2<b.2:=by
 unfold J2;split
 ·rename_i h;rw[h,Qhy];simp
 ·rename_i h;simp[h]
theorem QiJ{a b:Str×Int}(h:J2 a b=true):J2 b a=false:=by cases e:J2 b a with|false=>rfl|true=>
  rcases(VF a b).mp h with h|⟨h1,h2⟩<;>rcases(VF b a).mp e with e|⟨e1,e2⟩;·rw[Qhz h]at e;cases e
  ·rw[e1,Qhy]at h;cases h
  ·rw[h1,Qhy]at e;cases e
  ·omega
theorem QgU{a c:Str×Int}(b:Str×Int)(h:J2 a c=true):J2 a b=true\/J2 b c=true:=by
 rw[VF,VF];rcases(VF a c).mp h with h|⟨h1,h2⟩
 ·rcases Qf9 b.1 h with z|z;·exact .inl (.inl z)
  ·exact .inr (.inl z)
 ·by_cases e:a.1=b.1
  ·by_cases z:a.2<b.2;·exact .inl (.inr ⟨e,z⟩)
   ·exact .inr (.inr ⟨e.symm.trans h1,by omega⟩)
  ·cases z:ltS a.1 b.1 with
   |true=>exact .inl (.inl rfl)|false=>cases y:ltS b.1 a.1 with|false=>exact absurd (QdR z y) e|true=>exact .inr (.inl (h1▸y))
theorem QsD{a b:Str×Int}(h:J2 a b=false)(h':J2 b a=false):a=b:=by
 have k:∀{a b:Str×Int},J2 a b=false->¬(ltS a.1 b.1=true\/a.1=b.1/\a.2<b.2):=λ{a b}h z=>by rw[(VF a b).mpr z]at h;cases h
 have e:a.1=b.1:=QdR (by cases z:ltS a.1 b.1 with|false=>rfl|true=>exact absurd (.inl z) (k h)) (by cases z:ltS b.1 a.1 with|false=>rfl|true=>exact absurd (.inl z) (k h'));have h1:¬a.2<b.2:=λz=>k h (.inr ⟨e,z⟩);have h2:¬b.2<a.2:=λz=>k h' (.inr ⟨e.symm,z⟩);exact Prod.ext e (by omega)
theorem QpZ{α:Type}(f:α->α->Bool)(as:∀a b,f a b=true->f b a=false)(ng:∀a b c,f a c=true->f a b=true\/f b c=true)(g:Nat->α)(n:Nat):Ord (λi j=>f (g i) (g j)) n:=⟨λi j _ _ h=>as _ _ h,λi j k _ _ _ h1 h2=>by cases e:f (g k) (g i)with
  |false=>rfl|true=>
   rcases ng _ (g j) _ e with z|z;·rw[z]at h2;cases h2
   ·rw[z]at h1;cases h1⟩
theorem QxI(ps:List (Str×Int)):Ord (λi j=>J2 (ps.getD i default) (ps.getD j default)) ps.length:=QpZ J2 (λ_ _=>QiJ) (λ_ b _=>QgU b) _ _
theorem QxH(ss:List Str):Ord (λi j=>ltS (ss.getD i default) (ss.getD j default)) ss.length:=QpZ ltS (λ_ _=>Qhz) (λ_ b _=>Qf9 b) _ _
def QgD{α:Type}(f:α->α->Bool)(x:α):List α->List α|[]=>[x]|y::r=>if f y x then y::QgD f x r else x::y::r
def ZK{α:Type}(f:α->α->Bool):List α->List α|[]=>[]|x::r=>QgD f x (ZK f r)
section
variable{α:Type}{f:α->α->Bool}
theorem Qfw(x:α):∀l:List α,(QgD f x l).Perm (x::l)
 |[]=>.refl _|y::r=>by
  unfold QgD;split;·exact((Qfw x r).cons y).trans (.swap _ _ _)
  ·exact .refl _
theorem Yq:∀l:List α,(ZK f l).Perm l|[]=>.nil|x::r=>(Qfw x _).trans ((Yq r).cons x)
def leG(f:α->α->Bool)(a b:α):Prop:=f b a=false
theorem QnS(as:∀a b,f a b=true->f b a=false)(ng:∀a b c,f a c=true->f a b=true\/f b c=true)(x:α):∀l:List α,l.Pairwise (leG f)->(QgD f x l).Pairwise (leG f)
 |[],_=>by simp[QgD]|y::r,h=>by
  have h':=List.pairwise_cons.mp h;unfold QgD;split
  ·rename_i e;refine List.pairwise_cons.mpr ⟨λz hz=>?_,QnS as ng x r h'.2⟩;rcases List.mem_cons.mp ((Qfw x r).mem_iff.mp hz)with q|q;·rw[q];exact as _ _ e
   ·exact h'.1 z q
  ·rename_i e;have e':f y x=false:=by simpa using e
   refine List.pairwise_cons.mpr ⟨λz hz=>?_,h⟩;rcases List.mem_cons.mp hz with q|q;·rw[q];exact e'
   ·unfold leG;cases w:f z x with
    |false=>rfl|true=>
     rcases ng _ y _ w with t|t;·rw[show f z y=false from h'.1 z q]at t;cases t
     ·rw[e']at t;cases t
theorem Qf2(as:∀a b,f a b=true->f b a=false)(ng:∀a b c,f a c=true->f a b=true\/f b c=true):∀l:List α,(ZK f l).Pairwise (leG f)|[]=>.nil|x::r=>QnS as ng x _ (Qf2 as ng r)
theorem QhK(tot:∀a b,f a b=false->f b a=false->a=b){a b:List α}(hp:a.Perm b)(ha:a.Pairwise (leG f))(hb:b.Pairwise (leG f)):a=b:=hp.eq_of_pairwise (λx y _ _ h1 h2=>tot x y h2 h1) ha hb
end
theorem QhQ{α:Type}[Inhabited α]{f:α->α->Bool}(as:∀a b,f a b=true->f b a=false)(ng:∀a b c,f a c=true->f a b=true\/f b c=true)(tot:∀a b,f a b=false->f b a=false->a=b)(l:List α){q:Array Nat}(hp:Pm l.length q)(hu:Up (λi j=>f (l.getD i default) (l.getD j default)) q l.length):q.toList.map (λi=>l.getD i default)=ZK f l:=by
 refine QhK tot ?_ ?_ (Qf2 as ng l)
 ·have h1:(q.toList.map λi=>l.getD i default).Perm ((List.range l.length).map λi=>l.getD i default):=(by simpa using hp.pm.toList:q.toList.Perm (List.range l.length)).map _;have h2:((List.range l.length).map λi=>l.getD i default)=l:=by
   apply List.ext_getElem (by simp);intro i a b;simp[b]
  rw[h2]at h1;exact h1.trans (Yq l).symm
 ·rw[pairwise_map,List.pairwise_iff_getElem];intro i j hi hj cC;have z:=hu i j (le_of_lt cC) (by rw[<-hp.size];simpa using hj);have g:∀k(hk:k<q.toList.length),pl q k=q.toList[k]:=λk hk=>by
   unfold pl;rw[Array.getElem?_eq_getElem (by simpa using hk)];simp
  simp only[g i hi,g j hj]at z;exact z
def Prs(H:Hp)(ys:List V)(ps:List (Str×Int)):Prop:=ys.length=ps.length/\∀(j:Nat)(x:Str)(i:Int),ps[j]?=some (x,i)->∃a,ys[j]?=some (.ref a)/\H a=some (.tup [.str x,.int i])
section
variable{X:Cx}
theorem Qvq{aa:List (Addr×Obj)}{σ:L2.St}{H:Hp}{s:Shared}(I:Inv X aa σ H s){a:Addr}{x:Str}{i:Int}(h:H a=some (.tup [.str x,.int i])):∃o n t u,s.heap.get? a=some o/\o.cls=.type "tuple"/\o.data=.seq #[.str x t,.int i u] n:=by obtain⟨_,its,vl,p⟩:=show ObjOk X.prog X.w H s.heap a (.tup [.str x,.int i])from I.hok a _ h;obtain⟨o,h1,h2,n,h3⟩:=p;cases vl with|cons r1 r=>cases r with|cons r2 r=>cases r;obtain⟨t,rfl⟩:=r1;obtain⟨u,rfl⟩:=r2;exact⟨o,n,t,u,h1,h2,h3⟩
theorem Qvj{h:Heap}:∀(vs:List Value),(∀v∈vs,∃a o n x t z,v=Value.ref a/\h.get? a=some o/\o.cls=.type "tuple"/\o.data=.seq #[.str x t,z] n)->∃fs,W.KatTups h vs fs/\fs.length=vs.length/\∀f∈fs,∃x t,f=Value.str x t
 |[],_=>⟨[],.nil,rfl,by simp⟩|v::vs,hv=>by
  obtain⟨fs,h1,h2,h3⟩:=Qvj vs λu hu=>hv u (.tail _ hu);obtain⟨a,o,n,x,t,z,rfl,e1,e2,e3⟩:=hv v (.head _);refine⟨.str x t::fs,.cons e1 e2 e3 rfl h1,by simp[h2],λf hf=>?_⟩;rcases List.mem_cons.mp hf with q|q;·exact⟨x,t,q⟩
  ·exact h3 f q
theorem Qjl:∀{ys:List V}{vs:List Value},Vals ys vs->∀i,RelV (ys.getD i .non) (vs.getD i Value.none)|_,_,.nil,_=>rfl|_,_,.cons h _,0=>h|_,_,.cons _ r,i+1=>Qjl r i
theorem Qla{ys:List V}{vs:List Value}(r:Vals ys vs):∀l:List Nat,Vals (l.map λi=>ys.getD i .non) (l.map λi=>vs.getD i Value.none)|[]=>.nil|i::l=>.cons (Qjl r i) (Qla r l)
theorem QpF:CallR X (.builtin "sorted") (λxs H Q=>∃p ys ps,xs=[.ref p]/\SqL X.K H p ys/\ps.length<64/\Prs H ys ps/\∀l q,H l=none->Pm ps.length q->Up (λi j=>J2 (ps.getD i default) (ps.getD j default)) q ps.length->Q (.ref l) (upd H l (.lst (q.toList.map λi=>ys.getD i .non)))):=by
 intro aa s σ H xs us Q I r h;obtain⟨p,ys,ps,rfl,hq,c9,pr,k⟩:=h;obtain⟨u,rfl,rx⟩:=Qab r;cases rx;obtain⟨its,r',pl,hz⟩:=I.list hq;have l1:=r'.length;have l2:=pr.1;have at_:∀j(hj:j<ps.length),∃a o n t u,its.getD j Value.none=.ref a/\s.heap.get? a=some o/\o.cls=.type "tuple"/\o.data=.seq #[.str (ps.getD j default).1 t,.int (ps.getD j default).2 u] n:=λj hj=>by
  obtain⟨a,e1,e2⟩:=pr.2 j ps[j].1 ps[j].2 (getElem?_eq_getElem hj);obtain⟨o,n,t,u,e3,e4,e5⟩:=Qvq I e2;obtain⟨v,e6,e7⟩:=r'.get e1;cases e7;refine⟨a,o,n,t,u,?_,e3,e4,?_⟩;·rw[getD_eq_getElem?_getD,e6];rfl
  ·rw[getD_eq_getElem?_getD,getElem?_eq_getElem hj];exact e5
 refine Qld (Src:=λvs=>vs=its) (m:=ps.length) (κ:=tuples' true) c9 (QxI ps) (λvs h=>by subst h;omega) (λR E hR=>?_) (λh' tk vs kp sr two R E hR=>?_) (λh' tk vs kp sr i j C hi hj hC=>?_) (λh' tk vs q D c kp sr hp hu le hD=>?_)
 ·refine collect_list pl.isList (hR _ s.toks its ?_ (λb o e=>?_) rfl) (by omega);·rw[Heap.size_update,size_push'];omega
  ·have eP:=Heap.lt_size e;exact(Heap.get?_update_ne _ _ _ _ (ne_of_lt eP)).trans (Heap.get?_push_of_some _ e)
 ·subst sr;obtain⟨fs,f1,f2,f3⟩:=Qvj (h:=h') vs λv hv=>by
   obtain⟨j,hj,rfl⟩:=getElem_of_mem hv;obtain⟨a,o,n,t,u,e1,e2,e3,e4⟩:=at_ j (by omega);have e0:vs.getD j Value.none=vs[j]:=by simp[hj]
   exact⟨a,o,n,_,t,_,e0▸e1,kp _ _ e2,e3,e4⟩
  refine W.kat_kind (T:=.type "str") f1 (by omega) (λv hv=>?_) (by rfl) hR;obtain⟨x,t,rfl⟩:=f3 v hv;exact .now
 ·subst sr;obtain⟨a,o,n,t,u,e1,e2,e3,e4⟩:=at_ i (by omega);obtain⟨b,o2,n2,t2,u2,g1,g2,g3,g4⟩:=at_ j (by omega);rw[e1,g1];refine W.kat_lt (b:=true) (kp _ _ e2) e4 (kp _ _ g2) g4 ?_;refine W.kat_cons (wpAny_eqBool_str ?_);generalize hx:ps.getD i default=x at hC;generalize hy:ps.getD j default=y at hC;unfold J2 at hC;by_cases z:x.1=y.1
  ·rw[if_pos z]at hC;rw[decide_eq_true z];refine W.kat_yes (W.kat_cons (wpAny_eqBool_int ?_));by_cases z2:x.2=y.2
   ·rw[beq_iff_eq.mpr z2];refine W.kat_yes (W.kat_nil ?_);rw[decide_eq_false (by omega)]at hC;exact hC
   ·rw[beq_eq_false_iff_ne.mpr z2];exact W.kat_no (W.kat_one _ _ (lt_int hC))
  ·rw[if_neg z]at hC;rw[decide_eq_false z];exact W.kat_no (oneLt_str hC)
 ·subst sr;have c6:=hp.size;refine⟨.ref D,_,I.laid (t':=tk) kp le (show ObjOk X.prog X.w _ h' _ (.lst _)from⟨by rw[length_map,length_toList,c6];omega,_,c,Qla r' _,hD⟩),rfl,k _ q (I.hok.fresh le) hp hu⟩
end
noncomputable def QrM:D->Option (Str×Int)|.tup [.str x,.int i]=>some (x,i)|_=>none
noncomputable def prD(p:Str×Int):D:=.tup [.str p.1,.int p.2]
theorem QtR{d:D}{p:Str×Int}(h:QrM d=some p):d=prD p:=by
 unfold QrM at h;split at h;·cases h;rfl
 ·cases h
def QfU:List D->Option (List (Str×Int))|[]=>some []|d::ds=>(QrM d).bind λp=>(QfU ds).map (p::·)
theorem Qlk:∀{ds:List D}{ps:List (Str×Int)},QfU ds=some ps->ds=ps.map prD|[],ps,h=>by cases h;rfl|d::ds,ps,h=>by obtain⟨p,h1,h2⟩:=QY h;obtain⟨qs,h3,rfl⟩:=Zi h2;rw[map_cons,<-QtR h1,<-Qlk h3]
theorem Qjq:∀ps:List (Str×Int),QfU (ps.map prD)=some ps|[]=>rfl|p::ps=>by rw[map_cons,QfU,Qjq ps];rfl
def D.sortP:D->Option D|.lst ds=>(QfU ds).bind λps=>if ps.length<64 then some (.lst ((ZK J2 ps).map prD))else none|_=>none
theorem QnA{K:Fg}{F H:Hp}(sm:Sm F H):∀{xs:List V}{ps:List (Str×Int)},Reps K F xs (ps.map prD)->Prs H xs ps/\∀i,i<ps.length->Rep K F (xs.getD i .non) (prD (ps.getD i default))|xs,[],r=>by cases r;exact⟨⟨rfl,by simp⟩,by simp⟩|xs,p::ps,r=>by cases r with|cons h r=>
  obtain⟨⟨l,q⟩,g⟩:=QnA sm r;refine⟨⟨by simp[l],λj x i e=>?_⟩,λi hi=>?_⟩;·cases j with
   |zero=>
    simp at e;subst e;cases h with|tup f0 f1=>cases f1 with|cons a1 a2=>cases a1;cases a2 with|cons b1 b2=>
    cases b1;cases b2;exact⟨_,rfl,sm _ _ f0⟩
   |succ j=>
    obtain⟨a,e1,e2⟩:=q j x i (by simpa using e);exact⟨a,by simpa using e1,e2⟩
  ·cases i with|zero=>exact h|succ i=>exact g i (by simpa using hi)
theorem Qli{K:Fg}{F:Hp}{xs:List V}{g:Nat->D}:∀(l:List Nat),(∀i∈l,Rep K F (xs.getD i .non) (g i))->Reps K F (l.map λi=>xs.getD i .non) (l.map g)|[],_=>.nil|i::l,h=>.cons (h i (.head _)) (Qli l λj hj=>h j (.tail _ hj))
section
variable{X:Cx}{O:List Nat}{a:Expr}{pos:Pos}
theorem Qs8{x:Str}{p:Pos}{ev:EvE}(hg:Gl X x)(hm:X.mg x=none)(hv:bootBuiltins x=some (.builtin "sorted"))(ha:PE X a (tR X O ev))(hn:x≠"__name__":=by decide)(bJ:(x==("__debug__":Str))=false:=by decide)(he:starEach [a] X.env=[(false,eval a X.env)]:=by rfl):PE X (.Call (.Name x p) [a] [] pos) (tO X O (eUn D.sortP ev)):=PE.imp (Qcv QpF hg hm hv (Qe0 ha he) hn bJ he rfl) λσ H Q⟨F0,F,en,d,rs,w,k⟩=>by
  obtain⟨dx,e1,e2⟩:=QY w;refine⟨F0,F,en,dx,rs,e1,λv F1 H1 g1 r1=>?_⟩;cases dx with
  |lst ds=>
   obtain⟨ps,h1,h2⟩:=QY e2;split at h2
   ·rename_i c9;cases h2;obtain⟨l,xs,rfl,h,r⟩:=r1.lst g1.fh;have hd:=Qlk h1;subst hd;obtain⟨pr,rp⟩:=QnA g1.fh r;refine⟨l,xs,ps,rfl,SqL.of h,c9,pr,λq A hq pm up=>?_⟩;refine k q none _ ((ZK J2 ps).map prD) F1 _ (g1.trans (Gr.newO g1.fh hq (.lst _))) (g1.hh.none hq) (g1.fh.none hq) QJ ?_ rfl trivial;rw[<-QhQ (λ_ _=>QiJ) (λ_ b _=>QgU b) (λ_ _=>QsD) ps pm up,map_map];refine Qli _ λi hi=>rp i ?_;have:=(pm.pm.toList.mem_iff).mp hi;simpa using this
   ·cases h2|_=>cases e2
noncomputable def QdC:List Kd->Option (List Str)|[]=>some []|.inr x::ks=>(QdC ks).map (x::·)|.inl _::_=>none
theorem Qjn:∀{ks:List Kd}{ss:List Str},QdC ks=some ss->ks=ss.map .inr|[],ss,h=>by cases h;rfl|.inr x::ks,ss,h=>by obtain⟨ts,h1,rfl⟩:=Zi h;rw[map_cons,<-Qjn h1]|.inl _::_,_,h=>by cases h
theorem QhJ:∀ss:List Str,QdC (ss.map .inr)=some ss|[]=>rfl|x::ss=>by rw[map_cons,QdC,QhJ ss];rfl
def D.sortK:D->Option D|.dic ks _=>(QdC ks).bind λss=>if ss.length<64 then some (.lst ((ZK ltS ss).map .str))else none|_=>none
theorem QpG(hc:X.calm=true):CallR X (.builtin "sorted") (λxs H Q=>∃p ss ys,xs=[.ref p]/\Rd H p (.dK ((ss.map Sum.inr).zip ys))/\(ss.map Sum.inr:List Kd).length=ys.length/\ss.length<64/\∀l,H l=none->Q (.ref l) (upd H l (.lst ((ZK ltS ss).map V.str)))):=by
 intro aa s σ H xs us Q I r h;obtain⟨p,ss,ys,rfl,hd,hl,c9,k⟩:=h;obtain⟨u,rfl,rx⟩:=Qab r;cases rx;obtain⟨z,di,vs,rel,dd⟩:=QfZ I.hok hd;obtain⟨ep,da⟩:=dd.dictAt;have hlen:=Qwe rel;have hzl:((ss.map Sum.inr:List Kd).zip ys).length=ss.length:=by rw[length_zip,<-hl,length_map];omega
 have hzs:=sizeLine_eq;refine Qld (Src:=λus=>us.length=ss.length/\∀(j:Nat)(v:Value),us[j]?=some v->∃t,v=.str (ss.getD j default) t) (m:=ss.length) (κ:=oneType') c9 (QxH ss) (λus h=>h.1) (λR E hR=>?_) (λh' tk us kp sr two R E hR=>?_) (λh' tk us kp sr i j C hi hj hC=>?_) (λh' tk us q D c kp sr hp hu le hD=>?_)
 ·refine Qnr (W.kdl_dict (knd:=Zr X.prog X.w) (kvs:=vs) (ep:=ep) di) (I.ok.hd hc) da (by omega) λh' tk us le kp hn hP=>hR h' tk us le kp ⟨by omega,λj v e=>?_⟩;obtain⟨kk,y,h1,h2⟩:=hP j v e;have hj:j<ss.length:=by have:=(List.getElem?_eq_some_iff.mp e).1;omega
  have e3:=Qw6 rel (getElem?_eq_getElem (by omega)) h1;rw[List.getElem_zip,List.getElem_map]at e3;have e4:=e3.1;subst e4;obtain⟨t,e5⟩:=(show∃t,v=Value.str _ t from Qwn h2);exact⟨t,by rw[e5,getD_eq_getElem?_getD,getElem?_eq_getElem hj];rfl⟩
 ·refine W.kas_kind (T:=.type "str") two (λv hv=>?_) (by rfl) (by rfl) hR;obtain⟨j,hj,rfl⟩:=getElem_of_mem hv;obtain⟨t,e⟩:=sr.2 j _ (getElem?_eq_getElem hj);rw[e];exact .now
 ·obtain⟨t,e⟩:=sr.2 i _ (getElem?_eq_getElem hi);obtain⟨t2,e2⟩:=sr.2 j _ (getElem?_eq_getElem hj);rw[show us.getD i Value.none=us[i]by simp[hi],show us.getD j Value.none=us[j]by simp[hj],e,e2];exact W.kas_lt_str hC
 ·have c6:=hp.size;have e:=QhQ (λ_ _=>Qhz) (λ_ b _=>Qf9 b) (λ_ _=>QdR) ss hp hu;refine⟨.ref D,_,I.laid (t':=tk) kp le (show ObjOk X.prog X.w _ h' _ (.lst _)from⟨by rw[length_map,<-e,length_map,length_toList,c6];omega,_,c,?_,hD⟩),rfl,k _ (I.hok.fresh le)⟩;rw[<-e,map_map];have g:∀l:List Nat,(∀i∈l,i<ss.length)->Vals (l.map (V.str∘λi=>ss.getD i default)) (l.map λi=>us.getD i Value.none):=λl=>by induction l with
   |nil=>exact λ_=>.nil|cons i l ih=>
    intro h;refine .cons ?_ (ih λj hj=>h j (.tail _ hj));have hi:i<us.length:=by rw[sr.1];exact h i (.head _)
    obtain⟨t,e⟩:=sr.2 i _ (getElem?_eq_getElem hi);show RelV (V.str (ss.getD i default)) (us.getD i Value.none);rw[show us.getD i Value.none=us[i]by simp[hi],e];exact⟨t,rfl⟩
  refine g _ λi hi=>?_;have:=(hp.pm.toList.mem_iff).mp hi;simpa using this
theorem Qs9{x:Str}{p:Pos}{ev:EvE}(hc:X.calm=true)(hg:Gl X x)(hm:X.mg x=none)(hv:bootBuiltins x=some (.builtin "sorted"))(ha:PE X a (tR X O ev))(hn:x≠"__name__":=by decide)(bJ:(x==("__debug__":Str))=false:=by decide)(he:starEach [a] X.env=[(false,eval a X.env)]:=by rfl):PE X (.Call (.Name x p) [a] [] pos) (tO X O (eUn D.sortK ev)):=PE.imp (Qcv (QpG hc) hg hm hv (Qe0 ha he) hn bJ he rfl) λσ H Q⟨F0,F,en,d,rs,w,k⟩=>by
  obtain⟨dx,e1,e2⟩:=QY w;refine⟨F0,F,en,dx,rs,e1,λv F1 H1 g1 r1=>?_⟩;cases dx with
  |dic ks ds=>
   obtain⟨ss,h1,h2⟩:=QY e2;split at h2
   ·rename_i c9;cases h2;obtain⟨l,xs,rfl,h,hl,r⟩:=r1.dic g1.fh;have hd:=Qjn h1;subst hd;refine⟨l,ss,xs,rfl,h,hl,c9,λq hq=>?_⟩;refine k q none _ ((ZK ltS ss).map .str) F1 _ (g1.trans (Gr.newO g1.fh hq (.lst _))) (g1.hh.none hq) (g1.fh.none hq) QJ ?_ rfl trivial;have g:∀l:List Str,Reps X.K F1 (l.map V.str) (l.map D.str):=λl=>by induction l with
     |nil=>exact .nil|cons y l ih=>exact .cons (.str y) ih
    exact g _
   ·cases h2|_=>cases e2
end
def QrQ(b:EvS)(ds:List D):Option D:=if ds.length=2 then match b (sD 2 ds)with|some (.nx e)=>(e[0]?).join|_=>none else none
def spA(K:Fg)(f:List D->Option D):Sp:=λvs H Q _=>∃F p u kk xs es c d,Sm F H/\vs=[.ref p,u]/\Rep K F u c/\F p=none/\H p=some (ho kk xs)/\Vv kk xs/\Reps K F xs es/\f [dOf kk es,c]=some d/\∀bX bz cw F' H',Gr F (er H p) F' H'->F' p=none->H' p=some (ho bX bz)->Vv bX bz->Reps K F' bz cw->d=dOf bX cw->Q .non H'
section
variable{P:Program}{w:World}{K:Fg}{mg:Str->Option Value}{ab:Heap}{x y z:Str}{st:Stmt}{k:Nat}{b:EvS}
theorem QqH{F H:Hp}{u:V}{c:D}{p:Addr}{kk:Option (List Kd)}{xs:List V}{es:List D}(s:Sm F H)(r:Rep K F u c)(hf:F p=none)(hp:H p=some (ho kk xs))(hk:Vv kk xs)(re:Reps K F xs es):RS K H ⟨F,er H p,some p⟩ F H [some (V.ref p),some u] [some (dOf kk es),some c] [0,Q4 0]:=by
 have two:∀{i:Nat}{d:D},([some (dOf kk es),some c]:Qj)[i]?=some (some d)->i=0/\d=dOf kk es\/i=1/\d=c:=λ{i d}h=>by match i,h with
  |0,h=>simp at h;exact .inl ⟨rfl,h.symm⟩|1,h=>simp at h;exact .inr ⟨rfl,h.symm⟩|n+2,h=>simp at h
 refine⟨s,Qtr,.refl F,λ_ _ h=>.inl h,λi d h hi=>?_,λi d h hi=>?_,λi j q d1 d2 hi hj h1 h2 _ _=>?_,λi hi=>?_,rfl⟩
 ·rcases two h with⟨rfl,_⟩|⟨rfl,rfl⟩;·exact absurd hi (by simp)
  ·exact⟨u,rfl,r⟩
 ·rcases two h with⟨rfl,rfl⟩|⟨rfl,rfl⟩;·exact⟨p,kk,xs,es,rfl,QiN,hf,hp,re,rfl,hk⟩
  ·exact absurd hi (by unfold Q4;simp)
 ·rcases two h1 with⟨rfl,_⟩|⟨rfl,_⟩
  ·rcases two h2 with⟨rfl,_⟩|⟨rfl,_⟩;·rfl
   ·exact absurd hj (by unfold Q4;simp)
  ·exact absurd hi (by unfold Q4;simp)
 ·have:i=0:=by
   rcases List.mem_cons.mp hi with z|z;·unfold Q4 at z;omega
   ·have:=List.mem_singleton.mp z;unfold Q4 at this;omega
  subst this;exact⟨p,rfl,rfl⟩
theorem QxL(h:Df K mg x st [y,z])(S:FnScope [y,z] [y,z] (Qa st)){O' OL:List Nat}(iy:0∈O')(iw:Q4 0∈O')(hb:∀(f:Addr)(ax:Value)(A:Around)(ag:List Env)(s:Shared)(H:Hp)(E:XK),Room k (A.deeper (envOfC x (Qa st) s.heap.objs.size f ax))->PSs (Vu CX0 P w K mg ab [y,z] x (Qa st) f ax A ag s H E).nox (Zf st) (tS (Vu CX0 P w K mg ab [y,z] x (Qa st) f ax A ag s H E).nox [0,Q4 0] O' OL false b)):Cal P w K mg ab (k+1) x [y,z] (spA K (QrQ b)):=by
 obtain⟨f,fd,F,d9,hm⟩:=h;refine⟨f,fd,F.ok S (λvs H Q E q=>by obtain⟨_,p,u,_,_,_,_,_,_,hv,_⟩:=q;rw[hv];rfl) (λax A ag s H vs Q E hr q=>?_),d9,F.kp,hm⟩;obtain⟨Fz,p,u,kk,xs,es,c,d,sm,hv,r,hf,hp,hk,re,e,k⟩:=q;refine⟨_,hb f ax A ag s H E hr,?_⟩;have e':(match b (sD 2 [dOf kk es,c])with
  |some (.nx e)=>(e[0]?).join|_=>none)=some d:=e;cases q:b (sD 2 [dOf kk es,c])with
 |none=>rw[q]at e';cases e'|some fl=>
  rw[q]at e';have cI:start [y,z] vs=[some (V.ref p),some u]:=by rw[hv];rfl
  rw[cI];refine⟨⟨Fz,er H p,some p⟩,Fz,[some (dOf kk es),some c],fl,QqH sm r hf hp hk re,q,?_⟩;cases fl with
  |nx en=>intro σ' F' H' s' rs;have hd:en[0]?=some (some d):=Zd e';obtain⟨p',bX,bz,cw,h1,h2,h3,h4,h5,h6,h7⟩:=rs.own _ _ hd iy;obtain⟨p2,m1,m2⟩:=rs.pin _ iw;cases m1;rw[h1]at m2;cases m2;exact k bX bz cw F' H' rs.ex.gr h3 h4 h7 h5 h6|rt d'=>cases e'|bk en=>cases e'|ct en=>cases e'
end
section
variable{μ:Type}
abbrev EvR(μ:Type):=Qj->μ->Option (Qj×μ)
noncomputable def loopR(g:EvG)(b:EvR μ):List D->EvR μ|[],e,m=>some (e,m)|d::ds,e,m=>(g d e).bind λe1=>(b e1 m).bind λr=>loopR g b ds r.1 r.2
def Qac(it:EvI)(g:EvG)(b:EvR μ):EvR μ:=λe m=>(it e).bind λds=>loopR g b ds e m
abbrev Rsc(μ:Type):=μ->Fz->Hp->Hp->Prop
def tSR(X:Cx)(O:List Nat)(Res:Rsc μ)(b:EvR μ):TS:=λDn σ H=>∃F0 F e m r,RS X.K X.H₀ F0 F H σ e O/\Res m F0 F H/\b e m=some r/\∀σ' F' H',Sm F F'->RS X.K X.H₀ F0 F' H' σ' r.1 O->Res r.2 F0 F' H'->Dn.nx σ' H'
variable{X:Cx}{O:List Nat}{Res:Rsc μ}{tg iter:Expr}{body:List Stmt}{pos:Pos}
theorem QiO{it:EvI}{g:EvG}{b:EvR μ}(gr:∀m F0 F H F' H',Res m F0 F H->Gr F H F' H'->Res m F0 F' H')(hc:X.calm=true)(hp:PassesOwn (model X.prog X.w) X.A X.env X.xe)(hi:PI X tg iter (tI X O it))(hg:PG X tg (tG X O O g))(hb:PSs X body (tSR X O Res b))(hs:∀x,foldedSetIterable iter X.env x=pure x:=by intro _;rfl):PS X (.For tg iter body [] pos) (tSR X O Res (Qac it g b)):=PS.imp (QkP hp hc hi hg hb hs) λDn σ H⟨F0,F,en,m,rr,rs,res,z,k⟩=>by
  obtain⟨ds,e1,e2⟩:=QY z;refine⟨F0,F,en,ds,rs,e1,λF1 H1 J g1 io=>?_⟩;refine⟨λi n σ' H'=>n=ds.length-i/\i<=ds.length/\∃F' bg m',Sm F1 F'/\RS X.K X.H₀ F0 F' H' σ' bg O/\Res m' F0 F' H'/\loopR g b (ds.drop i) bg m'=some rr,⟨ds.length,by omega,by omega,F1,en,m,.refl F1,rs.grow g1,gr _ _ _ _ _ _ res g1,by rw[drop_zero];exact e2⟩,?_⟩;rintro i n σ' H'⟨rfl,hle,F',bg,m',s',bI,dg,e3⟩;rcases lt_or_ge i ds.length with hi|hi
  ·refine .inr ⟨io.go i F' H' s' bI.fh hi,λσ2 H2=>∃n',n'<ds.length-i/\n'=ds.length-(i+1)/\i+1<=ds.length/\∃F' bg m',Sm F1 F'/\RS X.K X.H₀ F0 F' H2 σ2 bg O/\Res m' F0 F' H2/\loopR g b (ds.drop (i+1)) bg m'=some rr,λσ2 H2⟨n',h1,h2⟩=>⟨n',h1,h2⟩,λx H2 hy=>?_⟩;obtain⟨F2,d,g2,hd,r2⟩:=io.yld i F' H' x H2 s' bI.fh hi hy;have fI:ds.drop i=d::ds.drop (i+1):=by
    rw[drop_eq_getElem_cons hi];rw[getElem?_eq_getElem hi]at hd;cases hd;rfl
   rw[fI]at e3;obtain⟨fN,e4,e5⟩:=QY (show((g d bg).bind λe1=>(b e1 m').bind λr=>loopR g b (ds.drop (i+1)) r.1 r.2)=some rr from e3);obtain⟨gp,e6,e7⟩:=QY e5;refine⟨F0,F2,bg,d,fN,bI.grow g2,r2,e4,λσ3 H3 F3 s3 cL=>?_⟩;have sA:Sm F1 F3:=(s'.trans g2.ff).trans s3.ff;exact⟨F0,F3,fN,m',gp,cL,gr _ _ _ _ _ _ (gr _ _ _ _ _ _ dg g2) s3,e6,λσ4 F4 H4 s4 cF iK=>⟨_,by omega,rfl,hi,F4,gp.1,gp.2,sA.trans s4,cF,iK,e7⟩⟩
  ·have hz:ds.drop i=[]:=drop_eq_nil_of_le hi;rw[hz]at e3;cases e3;exact .inl ⟨io.stop i F' H' s' bI.fh hi,k σ' F' H' (g1.ff.trans s') bI dg⟩
theorem Qbd{st:Stmt}{b:EvR μ}(h:PS X st (tSR X O Res b)):PSs X [st] (tSR X O Res b):=Qf8 h
end
def Qth:V->List V->Hp->VK->Prop:=λx vs H Q=>∃p ah k y,x=.ref p/\vs=[kV k,y]/\H p=some (.dK ah)/\ah.length<sizeLine/\(∀v,Z5 ah k=some v->Q v H)/\(Z5 ah k=none->Q y (upd H p (.dK (Vr ah k y))))
section
variable{X:Cx}
theorem Qq1:MtR X "dict.setdefault" Qth:=by
 intro aa s σ H x vs v us Q I rx rv h;obtain⟨p,ah,k,y,rfl,rfl,hH,hz,q1,q2⟩:=h;cases rx;obtain⟨u,w',rfl,ru,cm⟩:=Qkn rv;obtain⟨_,di,ps,rel,dd⟩:=Qts I.hok hH;have hlen:=Paired.length rel;have eA:(Zr X.prog X.w).is k u=true:=QfW ru;refine PySem.call_meetsIn PySem.F.slot_dict_setdefault dd.typeIs PySem.F.entry_dict_setdefault (PySem.F.args_dict_setdefault_3 _ _ _) (PySem.kt_meets_setdefault (Zr X.prog X.w) p eA di w') ⟨ps,dd,by omega,λv hv=>?_,λhn h' hd hs=>?_⟩;·have e:=rel.val k;rw[hv]at e;cases c:Z5 ah k with|none=>rw[c]at e;exact e.elim|some x=>rw[c]at e;exact⟨x,H,I.tok _,e,q1 x c⟩
 ·have e1:Z5 ah k=none:=by
   have e:=rel.val k;rw[hn]at e;cases c:Z5 ah k with|none=>rfl|some x=>rw[c]at e;exact e.elim
  have hl:(Vr ah k y).length<=sizeLine:=by have:=Qdq ah k y;omega
  have he:∃q,h'.get? p=some q:=let⟨q,_,_,hq,_⟩:=hd;⟨q,hq⟩;exact⟨y,_,QiR I (by rw[hH];exact True.intro) hs he (Qqf hl di (rel.put k cm) hd),cm,q2 e1⟩
end
abbrev KM:=List (Str×List Int)
noncomputable def addI(l:List Int)(i:Int):List Int:=if l.getLast?=some i then l else l++[i]
def Jl:KM->Str->Int->KM|[],x,i=>[(x,[i])]|(y,l)::m,x,i=>if y=x then(y,addI l i)::m else(y,l)::Jl m x i
noncomputable def VC(m:KM)(qs:List Addr):List (Kd×V):=(m.map λx=>(Sum.inr x.1:Kd)).zip (qs.map V.ref)
theorem Qhd(x:Str)(i:Int):∀(m:KM)(qs:List Addr),qs.length=m.length->(∃j q l,m[j]?=some (x,l)/\qs[j]?=some q/\Z5 (VC m qs) (.inr x)=some (.ref q)/\Jl m x i=m.set j (x,addI l i))\/(Z5 (VC m qs) (.inr x)=none/\Jl m x i=m++[(x,[i])])
 |[],[],_=>.inr ⟨rfl,rfl⟩|[],_::_,h=>by simp at h|_::_,[],h=>by simp at h|(y,l)::m,q::qs,h=>by
  have hc:VC ((y,l)::m) (q::qs)=(.inr y,.ref q)::VC m qs:=rfl;by_cases e:y=x
  ·subst e;refine .inl ⟨0,q,l,rfl,rfl,?_,?_⟩;·rw[hc,Qct rfl]
   ·unfold Jl;rw[if_pos rfl];rfl
  ·have e':¬(Sum.inr y:Kd)=.inr x:=λz=>e (by cases z;rfl);rcases Qhd x i m qs (by simpa using h)with⟨j,q',l',h1,h2,h3,h4⟩|⟨h1,h2⟩
   ·refine .inl ⟨j+1,q',l',by simpa using h1,by simpa using h2,?_,?_⟩;·rw[hc,Qba e'];exact h3
    ·unfold Jl;rw[if_neg e,h4];rfl
   ·refine .inr ⟨?_,?_⟩;·rw[hc,Qba e'];exact h1
    ·unfold Jl;rw[if_neg e,h2];rfl
def KRes:Rsc KM:=λm F0 F H=>∃(p:Addr)(qs:List Addr),F0.p=some p/\qs.length=m.length/\H p=some (.dK (VC m qs))/\F p=none/\F0.h p=none/\p∉qs/\qs.Nodup/\∀(j:Nat)(q:Addr)(l:Str×List Int),qs[j]?=some q->m[j]?=some l->H q=some (.lst (l.2.map V.int))/\F q=none/\F0.h q=none
theorem Gr.keepN{F H F' H':Hp}(g:Gr F H F' H'){a:Addr}{o:HO}(h:H a=some o)(f:F a=none):F' a=none:=by cases e:F' a with|none=>rfl|some z=>
  rcases g.fr a z e with y|y;·rw[f]at y;cases y
  ·rw[h]at y;cases y
theorem KRes.gr(m:KM)(F0:Fz)(F H F' H':Hp)(r:KRes m F0 F H)(g:Gr F H F' H'):KRes m F0 F' H':=by obtain⟨p,qs,h1,h2,h3,h4,h5,h6,h7,h8⟩:=r;refine⟨p,qs,h1,h2,g.hh _ _ h3,g.keepN h3 h4,h5,h6,h7,λj q l a b=>?_⟩;obtain⟨c1,c2,c3⟩:=h8 j q l a b;exact⟨g.hh _ _ c1,g.keepN c1 c2,c3⟩
theorem RS.nest{K:Fg}{H₀:Hp}{F0:Fz}{F H F' H':Hp}{σ:L2.St}{e:Qj}{i:Nat}(r:RS K H₀ F0 F H σ e [Q4 i])(hl:e.length<=1000)(s:Sm F F')(s2:Sm F' H')(s3:Sm F0.h H')(fr:∀a o,F' a=some o->F a=some o\/F0.h a=none):RS K H₀ F0 F' H' σ e [Q4 i]:=by
 have no:∀{j:Nat}{d:D},e[j]?=some (some d)->j∈[Q4 i]->False:=λ{j d}h hj=>by have:=(List.getElem?_eq_some_iff.mp h).1;have:=List.mem_singleton.mp hj;unfold Q4 at this;omega
 refine⟨s2,s3,r.ff.trans s,λa o h=>?_,λj d h hj=>?_,λj d h hj=>(no h hj).elim,λj _ _ _ _ hj _ h1=>(no h1 hj).elim,r.pin,r.len⟩
 ·rcases fr a o h with z|z;·exact r.fr a o z
  ·exact .inr z
 ·obtain⟨v,h1,h2⟩:=r.slot j d h hj;exact⟨v,h1,h2.mono s⟩
def Qbx(a b:Nat):EvR KM:=λe m=>match e[a]?,e[b]? with|some (some (.str x)),some (some (.int i))=>if e.length<=1000/\m.length<1000/\(∀l∈m,l.2.length<1000)then some (e,Jl m x i)else none|_,_=>none
theorem Qtf{K:Fg}{F:Hp}{v:V}{x:Str}(r:Rep K F v (.str x)):v=.str x:=by cases r;rfl
theorem Qkt{K:Fg}{F:Hp}{v:V}{x:Int}(r:Rep K F v (.int x)):v=.int x:=by cases r;rfl
theorem QsJ(m:KM)(qs:List Addr)(h:qs.length=m.length):(VC m qs).length=m.length:=by unfold VC;rw[length_zip,length_map,length_map];omega
theorem QsI(m:KM)(qs:List Addr)(j:Nat)(x:Str)(l l':List Int)(h:m[j]?=some (x,l)):VC (m.set j (x,l')) qs=VC m qs:=by
 unfold VC;congr 1;apply List.ext_getElem?;intro n;rw[getElem?_map,getElem?_map,getElem?_set];split
 ·rename_i z;subst z;have:=(List.getElem?_eq_some_iff.mp h).1;rw[if_pos this,h];rfl
 ·rfl
theorem QjB:∀(m:KM)(qs:List Addr)(x:Str)(l:List Int)(q:Addr),qs.length=m.length->VC (m++[(x,l)]) (qs++[q])=VC m qs++[(.inr x,.ref q)]|[],[],_,_,_,_=>rfl|[],_::_,_,_,_,h=>by simp at h|_::_,[],_,_,_,h=>by simp at h|y::m,r::qs,x,l,q,h=>by show(.inr y.1,.ref r)::VC (m++[(x,l)]) (qs++[q])=_;rw[QjB m qs x l q (by simpa using h)];rfl
theorem KRes.put{K:Fg}{m:KM}{qs:List Addr}{p q:Addr}{F0:Fz}{F H F' H':Hp}{j:Nat}{x:Str}{l l':List Int}(h1:F0.p=some p)(h2:qs.length=m.length)(h3:H p=some (.dK (VC m qs)))(h4:F p=none)(h5:F0.h p=none)(h6:p∉qs)(h7:qs.Nodup)(h8:∀(j:Nat)(q:Addr)(l:Str×List Int),qs[j]?=some q->m[j]?=some l->H q=some (.lst (l.2.map V.int))/\F q=none/\F0.h q=none)(hj:m[j]?=some (x,l))(hq:qs[j]?=some q)(g:Gr F (er H q) F' H')(hF:F' q=none)(hH:H' q=some (.lst (l'.map V.int))):KRes (m.set j (x,l')) F0 F' H':=by
 have kM:q∈qs:=mem_of_getElem? hq;have pq:p≠q:=λz=>h6 (z▸kM);have ep:er H q p=some (.dK (VC m qs)):=by rw[Qc0 pq];exact h3
 refine⟨p,qs,h1,by rw[length_set];exact h2,?_,g.keepN ep h4,h5,h6,h7,λn r t a b=>?_⟩
 ·rw[QsI m qs j x l l' hj];exact g.hh _ _ ep
 ·rw[getElem?_set]at b;split at b
  ·rename_i z;subst z;rw[hq]at a;cases a;split at b;·cases b;exact⟨hH,hF,(h8 _ _ _ hq hj).2.2⟩
   ·cases b
  ·rename_i z;obtain⟨c1,c2,c3⟩:=h8 n r t a b;have rq:r≠q:=λw=>z ((List.getElem?_inj (List.getElem?_eq_some_iff.mp hq).1 h7).mp (by rw[hq,a,w]));have jP:er H q r=some (.lst (t.2.map V.int)):=by rw[Qc0 rq];exact c1
   exact⟨g.hh _ _ jP,g.keepN jP c2,c3⟩
section
variable{X:Cx}{i a b:Nat}
theorem Qll{X:Cx}{e:Expr}{es:List Expr}{p pos:Pos}{x:Str}{ps:List Str}{k:Nat}{sp:Sp}{t:TA}(c:Cal X.prog X.w X.K X.mg X.ab k x ps sp)(hr:Room k X.A)(hg:Gl X x)(ha:PA X (e::es) t)(bJ:(x==("__debug__":Str))=false:=by decide)(he:starEach (e::es) X.env=(false,eval e X.env)::starEach es X.env:=by rfl)(cn:(backTo pos (starEach es X.env)).any (·.1)=false:=by rfl):PE X (.Call (.Name x p) (e::es) [] pos) (Qkq sp [] E0 t):=by obtain⟨fa,fd,F,hb,hk,hm⟩:=c;exact QiG F hr hg hm hk hb .nil QoG ha bJ he cn
theorem QuO{st:Stmt}{f:List D->Option D}(hf:∀(l:List Int)(n:Int),l.length<1000->f [.lst (l.map .int),.int n]=some (.lst ((addI l n).map .int)))(h:PS X st (QfT (Qkq (spA X.K f) [] E0 (YY (tBM X.K "dict" Qth (Qd7 i) (YY (Qd7 a) (YY (Qoq Qa6) Qa6))) (YY (Qd7 b) Qa6))))):PS X st (tSR X [Q4 i] KRes (Qbx a b)):=by
 refine PS.imp h λDn σ H⟨F0,F,en,m,r,rs,res,z,k⟩=>?_;obtain⟨xx,ii,jG,jF,hl,jB,fH,rfl⟩:∃xx ii,en[a]?=some (some (.str xx))/\en[b]?=some (some (.int ii))/\en.length<=1000/\m.length<1000/\(∀l∈m,l.2.length<1000)/\r=(en,Jl m xx ii):=by
  unfold Qbx at z;split at z
  ·rename_i h1 h2;split at z;·rename_i h3;cases z;exact⟨_,_,h1,h2,h3.1,h3.2.1,h3.2.2,rfl⟩
   ·cases z
  ·cases z
 obtain⟨p,qs,h1,h2,h3,h4,h5,h6,h7,h8⟩:=res;obtain⟨p',bW,hσ⟩:=rs.pin i (List.mem_singleton.mpr rfl);rw[h1]at bW;cases bW;have no:∀{j:Nat}{d:D},en[j]?=some (some d)->j∉[Q4 i]:=λ{j d}h hj=>by
  have:=(List.getElem?_eq_some_iff.mp h).1;have:=List.mem_singleton.mp hj;unfold Q4 at this;omega
 have sa:σ[a]?=some (some (.str xx)):=by obtain⟨v,e1,e2⟩:=rs.slot a _ jG (no jG);rw[e1,Qtf e2]
 have sb:σ[b]?=some (some (.int ii)):=by
  obtain⟨v,e1,e2⟩:=rs.slot b _ jF (no jF);rw[e1,Qkt e2]
 have fin:∀(Hx:Hp)(m1:KM)(cA:List Addr)(j:Nat)(q:Addr)(l':List Int),Sm F Hx->Sm F0.h Hx->cA.length=m1.length->Hx p=some (.dK (VC m1 cA))->p∉cA->cA.Nodup->(∀(j:Nat)(q:Addr)(l:Str×List Int),cA[j]?=some q->m1[j]?=some l->Hx q=some (.lst (l.2.map V.int))/\F q=none/\F0.h q=none)->m1[j]?=some (xx,l')->cA[j]?=some q->l'.length<1000->Jl m xx ii=m1.set j (xx,addI l' ii)->∀E,spA X.K f ([.ref q,.int ii]++[]) Hx (λ_ H1=>Dn.nx σ H1) E:=λHx m1 cA j q l' s1 s2 e2 e3 e6 e7 e8 hj hq dI ea E=>by
  obtain⟨c1,c2,c3⟩:=e8 j q _ hq hj;refine⟨F,q,.int ii,none,l'.map V.int,l'.map D.int,.int ii,_,s1,rfl,.int ii,c2,c1,trivial,Reps.ints l',hf l' ii dI,λbX bz cw F' H' g dG bW cM re ed=>?_⟩;cases bX with
  |some _=>cases ed|none=>
   cases ed;have ex:bz=(addI l' ii).map V.int:=by
    refine re.intsOf ?_;generalize addI l' ii=t;induction t with|nil=>rfl|cons y t ih=>show(Wd.intsOf (t.map .int)).map (y::·)=_;rw[ih];rfl
   subst ex;refine k σ F' H' g.ff (rs.nest hl g.ff g.fh (λc o h=>?_) λc o h=>?_) (ea▸KRes.put (K:=X.K) h1 e2 e3 h4 h5 e6 e7 e8 hj hq g dG bW)
   ·have cq:c≠q:=λz=>by rw[z,c3]at h;cases h
    exact g.hh _ _ (by rw[Qc0 cq];exact s2 c o h)
   ·rcases g.fr c o h with y|y;·exact .inl y
    ·refine .inr ?_;by_cases cq:c=q;·rw[cq];exact c3
     ·rw[Qc0 cq]at y;exact s2.none y
 have hz:=sizeLine_eq;have kl:=QsJ m qs h2;refine⟨.ref p,hσ,.inr (.inr (.inl ⟨rfl,.inl ⟨_,h3⟩⟩)),.str xx,sa,zero_le _,λl eZ=>?_⟩;have pl:p≠l:=λe=>by rw[e,eZ]at h3;cases h3
 have lq:∀j q,qs[j]?=some q->q≠l:=λj q hq e=>by
  have hj:j<m.length:=by rw[<-h2];exact(List.getElem?_eq_some_iff.mp hq).1
  have:=(h8 j q _ hq (getElem?_eq_getElem hj)).1;rw[e,eZ]at this;cases this
 have s1:Sm F (upd H l (.lst [])):=rs.fh.upd _ (rs.fh.none eZ);have s2:Sm F0.h (upd H l (.lst [])):=rs.hh.upd _ (rs.hh.none eZ);have e8:∀(j:Nat)(q:Addr)(l1:Str×List Int),qs[j]?=some q->m[j]?=some l1->upd H l (.lst []) q=some (.lst (l1.2.map V.int))/\F q=none/\F0.h q=none:=λj q l1 a1 a2=>by
  obtain⟨c1,c2,c3⟩:=h8 j q l1 a1 a2;exact⟨by rw[Qn (lq j q a1)];exact c1,c2,c3⟩
 refine⟨p,VC m qs,.inr xx,.ref l,rfl,rfl,by rw[Qn pl];exact h3,by omega,λv hv=>?_,λhn=>?_⟩
 ·rcases Qhd xx ii m qs h2 with⟨j,q,l',a1,a2,a3,a4⟩|⟨a1,_⟩
  ·rw[hv]at a3;cases a3;exact⟨.int ii,sb,fin _ m qs j q l' s1 s2 h2 (by rw[Qn pl];exact h3) h6 h7 e8 a1 a2 (fH _ (mem_of_getElem? a1)) a4 (λ_ _ _=>False)⟩
  ·rw[hv]at a1;cases a1
 ·rcases Qhd xx ii m qs h2 with⟨j,q,l',a1,a2,a3,a4⟩|⟨_,a4⟩;·rw[hn]at a3;cases a3
  ·have lm:l∉qs:=λh=>by
    obtain⟨j,hj,e⟩:=getElem_of_mem h;exact lq j l (by rw[getElem?_eq_getElem hj,e]) rfl
   have Fl:F l=none:=rs.fh.none eZ;refine⟨.int ii,sb,fin _ (m++[(xx,[])]) (qs++[l]) m.length l [] (s1.upd _ h4) (s2.upd _ h5) (by simp[h2]) ?_ ?_ ?_ ?_ (by simp) (by rw[<-h2];simp) (by simp) ?_ (λ_ _ _=>False)⟩;·rw[QJ,Qsf _ hn,QjB m qs xx [] l h2]
   ·simp only[mem_append,List.mem_singleton,not_or];exact⟨h6,pl⟩
   ·rw[nodup_append];exact⟨h7,by simp,λy hy z hz e=>by rw[List.mem_singleton.mp hz]at e;exact lm (e▸hy)⟩
   ·intro j q l1 b1 b2;rcases lt_or_ge j qs.length with hj|hj
    ·rw[getElem?_append_left hj]at b1;rw[getElem?_append_left (by omega)]at b2;have qp:q≠p:=λe=>h6 (e▸mem_of_getElem? b1);rw[Qn qp];exact e8 j q l1 b1 b2
    ·have ej:j=qs.length:=by
      have:=(List.getElem?_eq_some_iff.mp b1).1;simp at this;omega
     subst ej;rw[getElem?_append_right (le_refl _)]at b1;rw[getElem?_append_right (by omega)]at b2;simp at b1;have l9:l1=(xx,[]):=by
      have:qs.length-m.length=0:=by omega
      rw[this]at b2;simpa using b2.symm
     subst b1;subst l9;rw[Qn (Ne.symm pl),QJ];exact⟨rfl,Fl,rs.hh.none eZ⟩
   ·rw[a4,List.set_append_right _ _ (le_refl _)];simp[addI]
end
noncomputable def kmD(m:KM):D:=.dic (m.map λx=>.inr x.1) (m.map λx=>.lst (x.2.map .int))
def Qkr(i:Nat)(b:EvR KM):EvS:=λe=>match e[i]? with|some (some (.dic [] []))=>if e.length<=1000 then(b (e.set i none) []).bind λr=>if i<r.1.length/\r.1.length<=1000 then some (.nx (r.1.set i (some (kmD r.2))))else none else none|_=>none
section
variable{K:Fg}{H₀:Hp}{F0:Fz}{F H:Hp}{σ:L2.St}{e:Qj}{i:Nat}
theorem RS.nestIn{p:Addr}(r:RS K H₀ F0 F H σ e [i])(hl:e.length<=1000)(h1:σ[i]?=some (some (.ref p))):RS K H₀ ⟨F0.f,F0.h,some p⟩ F H σ (e.set i none) [Q4 i]:=by
 have q:∀{j:Nat}{d:D},(e.set i none)[j]?=some (some d)->j≠i/\e[j]?=some (some d):=λ{j d}h=>by
  rw[getElem?_set]at h;split at h;·split at h<;>cases h
  ·rename_i z;exact⟨λw=>z w.symm,h⟩
 have no:∀{j:Nat}{d:D},(e.set i none)[j]?=some (some d)->j∈[Q4 i]->False:=λ{j d}h hj=>by
  have:=(List.getElem?_eq_some_iff.mp (q h).2).1;have:=List.mem_singleton.mp hj;unfold Q4 at this;omega
 refine⟨r.fh,r.hh,r.ff,r.fr,λj d h hj=>?_,λj d h hj=>(no h hj).elim,λj _ _ _ _ hj _ h1=>(no h1 hj).elim,λj hj=>?_,by rw[length_set];exact r.len⟩;·exact r.slot j d (q h).2 λz=>(q h).1 (List.mem_singleton.mp z)
 ·have:j=i:=by have:=List.mem_singleton.mp hj;unfold Q4 at this;omega
  subst this;exact⟨p,rfl,h1⟩
theorem RS.nestOut{p:Addr}{m:KM}(r:RS K H₀ ⟨F0.f,F0.h,some p⟩ F H σ e [Q4 i])(res:KRes m ⟨F0.f,F0.h,some p⟩ F H)(hi:i<e.length)(hl:e.length<=1000):∃F',Sm F F'/\RS K H₀ F0 F' H σ (e.set i (some (kmD m))) [i]:=by
 obtain⟨p',qs,h1,h2,h3,h4,h5,h6,h7,h8⟩:=res;cases h1;obtain⟨p',bW,hσ⟩:=r.pin i (List.mem_singleton.mpr rfl);cases bW;have at_:∀q∈qs,∃l:Str×List Int,H q=some (.lst (l.2.map V.int))/\F q=none/\F0.h q=none:=λq hq=>by
  obtain⟨j,hj,rfl⟩:=getElem_of_mem hq;exact⟨_,h8 j _ _ (getElem?_eq_getElem hj) (getElem?_eq_getElem (by omega))⟩
 let F':Hp:=λa=>if a∈qs then H a else F a;have s1:Sm F F':=λa o h=>by
  have:a∉qs:=λz=>by obtain⟨_,_,f,_⟩:=at_ a z;rw[h]at f;cases f
  show(if a∈qs then H a else F a)=_;rw[if_neg this];exact h
 have s2:Sm F' H:=λa o h=>by
  have h':(if a∈qs then H a else F a)=some o:=h;split at h';·exact h'
  ·exact r.fh a o h'
 have q:∀{j:Nat}{d:D},j≠i->(e.set i (some (kmD m)))[j]?=some (some d)->e[j]?=some (some d):=λ{j d}z h=>by rwa[getElem?_set_ne (Ne.symm z)]at h
 have i1:i<1000:=by omega
 refine⟨F',s1,s2,r.hh,r.ff.trans s1,λa o h=>?_,λj d h hj=>?_,λj d h hj=>?_,λj j' _ _ _ hj ig _ _ _ _=>by rw[List.mem_singleton.mp hj,List.mem_singleton.mp ig],λj hj=>?_,by rw[length_set];exact r.len⟩
 ·have h':(if a∈qs then H a else F a)=some o:=h;split at h'
  ·rename_i z;obtain⟨_,_,_,f⟩:=at_ a z;exact .inr f
  ·exact r.fr a o h'
 ·have ji:j≠i:=λz=>hj (List.mem_singleton.mpr z);have h':=q ji h;obtain⟨v,a1,a2⟩:=r.slot j d h' λz=>by
   have:=(List.getElem?_eq_some_iff.mp h').1;have:=List.mem_singleton.mp z;unfold Q4 at this;omega
  exact⟨v,a1,a2.mono s1⟩
 ·have:=List.mem_singleton.mp hj;subst this;rw[getElem?_set,if_pos rfl,if_pos hi]at h;cases h;refine⟨p,some (m.map λx:Str×List Int=>(Sum.inr x.1:Kd)),qs.map V.ref,m.map λx=>.lst (x.2.map .int),hσ,h5,?_,h3,?_,rfl,by show(m.map λx=>(Sum.inr x.1:Kd)).length=_;simp[h2]⟩
  ·show(if p∈qs then H p else F p)=_;rw[if_neg h6];exact h4
  ·have g:∀(cA:List Addr)(m1:KM),cA.length=m1.length->(∀(j:Nat)(q:Addr)(l:Str×List Int),cA[j]?=some q->m1[j]?=some l->F' q=some (.lst (l.2.map V.int)))->Reps K F' (cA.map V.ref) (m1.map λx=>.lst (x.2.map .int)):=λcA=>by induction cA with
    |nil=>intro m1 h _;cases m1 with|nil=>exact .nil|cons _ _=>simp at h
    |cons q1 cA ih=>intro m1 h hh;cases m1 with
     |nil=>simp at h|cons l1 m1=>exact .cons (.lst (hh 0 q1 l1 rfl rfl) (Reps.ints _)) (ih m1 (by simpa using h) λj q l a b=>hh (j+1) q l (by simpa using a) (by simpa using b))
   refine g qs m h2 λj q l a b=>?_;show(if q∈qs then H q else F q)=_;rw[if_pos (mem_of_getElem? a)];exact(h8 j q l a b).1
 ·have:=List.mem_singleton.mp hj;unfold Q4 at this;omega
end
section
variable{X:Cx}{OL:List Nat}{w:Bool}{i:Nat}{st:Stmt}{b:EvR KM}
theorem QuK(h:PS X st (tSR X [Q4 i] KRes b)):PS X st (tS X [i] [i] OL w (Qkr i b)):=PS.imp h λDn σ H⟨F0,F,en,fl,rs,z,k⟩=>by
 unfold Qkr at z;split at z
 ·rename_i he;split at z
  ·rename_i hl;obtain⟨r,e1,e2⟩:=QY z;split at e2;·rename_i hc;cases e2;obtain⟨p,kk,xs,ds,h1,h2,h3,h4,h5,h6,h7⟩:=rs.own i _ he (List.mem_singleton.mpr rfl);cases kk with|none=>cases h6|some ks=>
     cases h6;cases h5;refine⟨⟨F0.f,F0.h,some p⟩,F,en.set i none,[],r,rs.nestIn hl h1,⟨p,[],rfl,rfl,h4,h3,h2,by simp,nodup_nil,by simp⟩,e1,λσ' F' H' s bI res=>?_⟩;obtain⟨F2,s2,dA⟩:=bI.nestOut res hc.1 hc.2;exact k σ' F2 H' (s.trans s2) dA
   ·cases e2
  ·cases z
 ·cases z
end
noncomputable def prL(x:Str×List Int):D:=.tup [.str x.1,.lst (x.2.map .int)]
def kmL(m:KM):D:=.lst (m.map prL)
noncomputable def DRes:Rsc KM:=λm F0 F H=>∃(p:Addr)(ts ls:List Addr),F0.p=some p/\ts.length=m.length/\ls.length=m.length/\H p=some (.lst (ts.map V.ref))/\F p=none/\F0.h p=none/\p∉ls/\ls.Nodup/\∀(j:Nat)(t q:Addr)(l:Str×List Int),ts[j]?=some t->ls[j]?=some q->m[j]?=some l->H t=some (.tup [.str l.1,.ref q])/\F0.h t=none/\H q=some (.lst (l.2.map V.int))/\F q=none/\F0.h q=none
theorem DRes.gr(m:KM)(F0:Fz)(F H F' H':Hp)(r:DRes m F0 F H)(g:Gr F H F' H'):DRes m F0 F' H':=by obtain⟨p,ts,ls,h1,h2,fc,h3,h4,h5,h6,h7,h8⟩:=r;refine⟨p,ts,ls,h1,h2,fc,g.hh _ _ h3,g.keepN h3 h4,h5,h6,h7,λj t q l a b c=>?_⟩;obtain⟨c1,c2,c3,c4,c5⟩:=h8 j t q l a b c;exact⟨g.hh _ _ c1,c2,g.hh _ _ c3,g.keepN c3 c4,c5⟩
section
variable{K:Fg}{H₀:Hp}{F0:Fz}{F H:Hp}{σ:L2.St}{e:Qj}{i:Nat}
theorem DRes.out{p:Addr}{m:KM}{P₀:Option Addr}(r:RS K H₀ ⟨F0.f,F0.h,some p⟩ F H σ e [Q4 i])(res:DRes m ⟨F0.f,F0.h,some p⟩ F H)(hi:i<e.length)(hl:e.length<=1000):∃F',Sm F F'/\RS K H₀ ⟨F0.f,F0.h,P₀⟩ F' H σ (e.set i (some (kmL m))) [i]:=by
 obtain⟨p',ts,ls,h1,h2,fc,h3,h4,h5,h6,h7,h8⟩:=res;cases h1;obtain⟨p',bW,hσ⟩:=r.pin i (List.mem_singleton.mpr rfl);cases bW;have at_:∀q∈ls,F q=none/\F0.h q=none:=λq hq=>by obtain⟨j,hj,rfl⟩:=getElem_of_mem hq;exact(h8 j _ _ _ (getElem?_eq_getElem (by omega)) (getElem?_eq_getElem hj) (getElem?_eq_getElem (by omega))).2.2.2
 have at2:∀t∈ts,F0.h t=none/\t≠p:=λt ht=>by
  obtain⟨j,hj,rfl⟩:=getElem_of_mem ht;have:=h8 j _ _ _ (getElem?_eq_getElem hj) (getElem?_eq_getElem (by omega)) (getElem?_eq_getElem (by omega));exact⟨this.2.1,λz=>by rw[z,h3]at this;cases this.1⟩
 let F':Hp:=λa=>if a∈ls\/a∈ts then H a else F a;have s1:Sm F F':=λa o h=>by
  show(if a∈ls\/a∈ts then H a else F a)=_;split;·exact r.fh a o h
  ·exact h
 have s2:Sm F' H:=λa o h=>by
  have h':(if a∈ls\/a∈ts then H a else F a)=some o:=h;split at h';·exact h'
  ·exact r.fh a o h'
 have q:∀{j:Nat}{d:D},j≠i->(e.set i (some (kmL m)))[j]?=some (some d)->e[j]?=some (some d):=λ{j d}z h=>by rwa[getElem?_set_ne (Ne.symm z)]at h
 refine⟨F',s1,s2,r.hh,r.ff.trans s1,λa o h=>?_,λj d h hj=>?_,λj d h hj=>?_,λj j' _ _ _ hj ig _ _ _ _=>by rw[List.mem_singleton.mp hj,List.mem_singleton.mp ig],λj hj=>?_,by rw[length_set];exact r.len⟩
 ·have h':(if a∈ls\/a∈ts then H a else F a)=some o:=h;split at h'
  ·rename_i z;rcases z with z|z;·exact .inr (at_ a z).2
   ·exact .inr (at2 a z).1
  ·exact r.fr a o h'
 ·have ji:j≠i:=λz=>hj (List.mem_singleton.mpr z);have h':=q ji h;obtain⟨v,a1,a2⟩:=r.slot j d h' λz=>by have:=(List.getElem?_eq_some_iff.mp h').1;have:=List.mem_singleton.mp z;unfold Q4 at this;omega
  exact⟨v,a1,a2.mono s1⟩
 ·have:=List.mem_singleton.mp hj;subst this;rw[getElem?_set,if_pos rfl,if_pos hi]at h;cases h;refine⟨p,none,ts.map V.ref,m.map prL,hσ,h5,?_,h3,?_,rfl,trivial⟩;·show(if p∈ls\/p∈ts then H p else F p)=_;rw[if_neg (λz=>z.elim h6 λz=>(at2 p z).2 rfl)];exact h4
  ·have g:∀(eJ dY:List Addr)(m1:KM),eJ.length=m1.length->dY.length=m1.length->(∀(j:Nat)(t q:Addr)(l:Str×List Int),eJ[j]?=some t->dY[j]?=some q->m1[j]?=some l->F' t=some (.tup [.str l.1,.ref q])/\F' q=some (.lst (l.2.map V.int)))->Reps K F' (eJ.map V.ref) (m1.map prL):=λeJ=>by induction eJ with
    |nil=>intro dY m1 h _ _;cases m1 with
     |nil=>exact .nil|cons _ _=>simp at h
    |cons t1 eJ ih=>
     intro dY m1 h h' hh;cases m1 with
     |nil=>simp at h|cons l1 m1=>cases dY with
      |nil=>simp at h'|cons q1 dY=>
       obtain⟨a1,a2⟩:=hh 0 t1 q1 l1 rfl rfl rfl;exact .cons (.tup a1 (.cons (.str _) (.cons (.lst a2 (Reps.ints _)) .nil))) (ih dY m1 (by simpa using h) (by simpa using h') λj t q l a b c=>hh (j+1) t q l (by simpa using a) (by simpa using b) (by simpa using c))
   refine g ts ls m h2 fc λj t q l a b c=>?_;obtain⟨c1,c2,c3,c4,c5⟩:=h8 j t q l a b c;refine⟨?_,?_⟩
   ·show(if t∈ls\/t∈ts then H t else F t)=_;rw[if_pos (.inr (mem_of_getElem? a))];exact c1
   ·show(if q∈ls\/q∈ts then H q else F q)=_;rw[if_pos (.inl (mem_of_getElem? b))];exact c3
 ·have:=List.mem_singleton.mp hj;unfold Q4 at this;omega
end
section
variable{μ:Type}{X:Cx}{O:List Nat}{Res:Rsc μ}
theorem QsU:PSs X [] (tSR X O Res λe m=>some (e,m)):=PSs.imp QdJ λDn σ H⟨F0,F,en,m,r,rs,res,z,k⟩=>by cases z;exact k σ F H (.refl F) rs res
end
def Qe6(i:Nat)(cv:EvE)(ba bb:EvR KM):EvR KM:=λe m=>if i<e.length/\e.length<=1000 then match cv (e.set i (some (kmL m)))with|some (.bl true)=>ba e m|some (.bl false)=>bb e m|_=>none else none
section
variable{X:Cx}{i:Nat}
theorem Qqd{c:Expr}{a b:List Stmt}{cv:EvE}{ba bb:EvR KM}{pos:Pos}(hc:PT X c (tDT X [i] cv))(ha:PSs X a (tSR X [Q4 i] DRes ba))(hb:PSs X b (tSR X [Q4 i] DRes bb)):PS X (.If c a b pos) (tSR X [Q4 i] DRes (Qe6 i cv ba bb)):=PS.imp (Qho hc ha hb) λDn σ H⟨F0,F,en,m,r,rs,res,z,k⟩=>by
  obtain⟨f,h,po⟩:=F0;unfold Qe6 at z;split at z
  ·rename_i hl;have dg:=res;obtain⟨p,ts,ls,h1,_⟩:=dg;cases h1;obtain⟨F1,s1,bZ⟩:=DRes.out (F0:=⟨f,h,none⟩) (P₀:=none) rs res hl.1 hl.2;have go:∀{H':Hp},Sm H H'->Gr F H F H':=λs=>⟨.refl F,s,rs.fh.trans s,λa o h=>.inl h⟩;split at z;·rename_i e1;exact⟨_,F1,_,true,bZ,e1,λF' H' g=>Qe2 ⟨_,F,en,m,r,rs.grow (go g.hh),DRes.gr _ _ _ _ _ _ res (go g.hh),z,k⟩⟩
   ·rename_i e1;exact⟨_,F1,_,false,bZ,e1,λF' H' g=>Qcj ⟨_,F,en,m,r,rs.grow (go g.hh),DRes.gr _ _ _ _ _ _ res (go g.hh),z,k⟩⟩
   ·cases z
  ·cases z
noncomputable def QkH(ev:EvE):EvR KM:=λe m=>match ev e with|some (.int n)=>if h:e.length<=1000/\m.length<1000/\(∀l∈m,l.2.length<1000)/\m≠[]then some (e,m.dropLast++[((m.getLast h.2.2.2).1,(m.getLast h.2.2.2).2++[n])])else none|_=>none
noncomputable def Qiv(ex en:EvE):EvR KM:=λe m=>match ex e,en e with|some (.str x),some (.int n)=>if e.length<=1000/\m.length<1000 then some (e,m++[(x,[n])])else none|_,_=>none
theorem QsH(m:KM)(h:m≠[])(x:Str×List Int):m.dropLast++[x]=m.set (m.length-1) x:=by
 have hl:0<m.length:=List.length_pos_iff.mpr h;conv=>rhs;rw[<-List.dropLast_concat_getLast h]
 rw[List.set_append_right _ _ (by simp)];simp
theorem QuN{st:Stmt}{ea ev:EvE}(h1:∀e,ea e=some (.int (-1)))(h:PS X st (QfT (tBM X.K "list" QdI (tOp (rIx X.K) (tOp (rIx X.K) (Qd7 i) (tD X [Q4 i] ea)) (tC (.int 1))) (YY (tD X [Q4 i] ev) Qa6)))):PS X st (tSR X [Q4 i] DRes (QkH ev)):=PS.imp h λDn σ H⟨F0,F,en,m,r,rs,res,z,k⟩=>by
  obtain⟨nn,ly,hl,jB,fH,b8,rfl⟩:∃nn,ev en=some (.int nn)/\en.length<=1000/\m.length<1000/\(∀l∈m,l.2.length<1000)/\∃b8:m≠[],r=(en,m.dropLast++[((m.getLast b8).1,(m.getLast b8).2++[nn])]):=by
   unfold QkH at z;split at z
   ·rename_i n e1;split at z
    ·rename_i hh;cases z;exact⟨n,e1,hh.1,hh.2.1,hh.2.2.1,hh.2.2.2,rfl⟩
    ·cases z
   ·cases z
  obtain⟨p,ts,ls,a1,a2,a3,a4,a5,a6,a7,a8,a9⟩:=id res;obtain⟨p',bW,hσ⟩:=rs.pin i (List.mem_singleton.mpr rfl);rw[a1]at bW;cases bW;refine⟨.ref p,hσ,F0,F,en,_,rs,h1 en,λv F1 H1 g1 r1=>?_⟩;have iB:=Qkt r1;subst iB;have lp:0<m.length:=List.length_pos_iff.mpr b8;have hj:m.length-1<m.length:=by omega
  have tj:ts[m.length-1]?=some ts[m.length-1]:=getElem?_eq_getElem (by omega);have lj:ls[m.length-1]?=some ls[m.length-1]:=getElem?_eq_getElem (by omega);have mj:m[m.length-1]?=some (m.getLast b8):=by rw[getElem?_eq_getElem hj,List.getLast_eq_getElem]
  have my:=DRes.gr _ _ _ _ _ _ res g1;obtain⟨c1,c2,c3,c4,c5⟩:=a9 _ _ _ _ tj lj mj;refine .inl ⟨p,ts.map V.ref,-1,.ref ts[m.length-1],rfl,rfl,SqL.of (g1.hh _ _ a4),?_,?_⟩
  ·have lt:(ts.map V.ref).length=m.length:=by rw[length_map];exact a2
   unfold atI ixN;rw[lt,if_neg (by omega),if_pos (by omega)];have e0:((-1:Int)+(m.length:Int)).toNat=m.length-1:=by omega
   show(ts.map V.ref)[((-1:Int)+(m.length:Int)).toNat]?=_;rw[e0,getElem?_map,tj];rfl
  ·refine .inr (.inl ⟨ts[m.length-1],[.str (m.getLast b8).1,.ref ls[m.length-1]],1,.ref ls[m.length-1],rfl,rfl,SqT.of (g1.hh _ _ c1),rfl,?_⟩);refine⟨.inl ⟨rfl,_,SqL.of (g1.hh _ _ c3)⟩,F0,F1,en,_,rs.grow g1,ly,λu F2 H2 g2 r2=>?_⟩;have eu:=Qkt r2;subst eu;have g:=g1.trans g2;have gA:=sizeLine_eq;have mz:=fH _ (List.getLast_mem b8);refine⟨ls[m.length-1],_,.int nn,rfl,rfl,g.hh _ _ c3,by rw[length_map];omega,?_⟩;have lq:ls[m.length-1]∈ls:=getElem_mem _;have jW:F2 ls[m.length-1]=none:=g.keepN c3 c4;have pq:p≠ls[m.length-1]:=λz=>a7 (by rw[z];exact lq);refine k σ F2 _ g.ff (rs.nest hl g.ff (g.fh.upd _ jW) ((rs.hh.trans g.hh).upd _ c5) λc o h=>?_) ?_
   ·rcases g.fr c o h with y|y;·exact .inl y
    ·exact .inr (rs.hh.none y)
   ·show DRes (m.dropLast++[((m.getLast b8).1,(m.getLast b8).2++[nn])]) F0 F2 _;rw[QsH m b8];refine⟨p,ts,ls,a1,by rw[length_set];exact a2,by rw[length_set];exact a3,by rw[Qn pq];exact g.hh _ _ a4,g.keepN a4 a5,a6,a7,a8,λj t q l b1 b2 b3=>?_⟩;rw[getElem?_set]at b3;split at b3
    ·rename_i zj;subst zj;try rw[if_pos hj]at b3
     cases b3;rw[tj]at b1;cases b1;rw[lj]at b2;cases b2;have tq:ts[m.length-1]≠ls[m.length-1]:=λz=>by rw[z,c3]at c1;cases c1
     refine⟨by rw[Qn tq];exact g.hh _ _ c1,c2,?_,jW,c5⟩;rw[QJ,map_append];rfl
    ·rename_i zj;obtain⟨d1,d2,d3,d4,d5⟩:=a9 j t q l b1 b2 b3;have qq:q≠ls[m.length-1]:=λw=>zj ((List.getElem?_inj (List.getElem?_eq_some_iff.mp lj).1 a8).mp (by rw[lj,b2,w]));have tq:t≠ls[m.length-1]:=λw=>by rw[w,c3]at d1;cases d1
     exact⟨by rw[Qn tq];exact g.hh _ _ d1,d2,by rw[Qn qq];exact g.hh _ _ d3,g.keepN d3 d4,d5⟩
theorem QuM{st:Stmt}{ex bg:EvE}(h:PS X st (QfT (tBM X.K "list" QdI (Qd7 i) (YY (QrH (YY (tD X [Q4 i] ex) (YY (Qoq (YY (tD X [Q4 i] bg) Qa6)) Qa6))) Qa6)))):PS X st (tSR X [Q4 i] DRes (Qiv ex bg)):=PS.imp h λDn σ H⟨F0,F,en,m,r,rs,res,z,k⟩=>by
  obtain⟨xx,nn,hex,lA,hl,jB,rfl⟩:∃xx nn,ex en=some (.str xx)/\bg en=some (.int nn)/\en.length<=1000/\m.length<1000/\r=(en,m++[(xx,[nn])]):=by
   unfold Qiv at z;split at z
   ·rename_i x n e1 e2;split at z
    ·rename_i hh;cases z;exact⟨x,n,e1,e2,hh.1,hh.2,rfl⟩
    ·cases z
   ·cases z
  obtain⟨p,ts,ls,a1,a2,a3,a4,a5,a6,a7,a8,a9⟩:=id res;obtain⟨p',bW,hσ⟩:=rs.pin i (List.mem_singleton.mpr rfl);rw[a1]at bW;cases bW;have gA:=sizeLine_eq;refine⟨.ref p,hσ,.inl ⟨rfl,_,SqL.of a4⟩,F0,F,en,_,rs,hex,λv F1 H1 g1 r1=>⟨F0,F1,en,_,rs.grow g1,lA,λu F2 H2 g2 r2=>?_⟩⟩;have iB:=Qtf r1;subst iB;have lS:=Qkt r2;subst lS;have g:=g1.trans g2;refine⟨by simp;omega,λq hq=>⟨by simp;omega,λt ht=>?_⟩⟩;have tq:t≠q:=λw=>by rw[w,QJ]at ht;cases ht
  have fE:H2 t=none:=by rw[Qn tq]at ht;exact ht
  have fP:=g.hh _ _ a4;have pq:p≠q:=λw=>by rw[w,hq]at fP;cases fP
  have pt:p≠t:=λw=>by rw[w,fE]at fP;cases fP
  have keep:∀c o,H2 c=some o->c≠p->upd (upd (upd H2 q (.lst [.int nn])) t (.tup [.str xx,.ref q])) p (.lst (ts.map V.ref++[.ref t])) c=some o:=λc o h hp=>by
   rw[Qn hp,Qn (λw=>by rw[w,fE]at h;cases h),Qn (λw=>by rw[w,hq]at h;cases h)];exact h
  have Fp:F2 p=none:=g.keepN a4 a5;refine⟨p,ts.map V.ref,.ref t,rfl,rfl,by rw[Qn pt,Qn pq];exact fP,by rw[length_map];omega,?_⟩;refine k σ F2 _ g.ff (rs.nest hl g.ff (λc o h=>keep c o (g.fh c o h) λw=>by rw[w,Fp]at h;cases h) (λc o h=>keep c o (g.hh _ _ (rs.hh c o h)) λw=>by rw[w,a6]at h;cases h) λc o h=>?_) ?_
  ·rcases g.fr c o h with y|y;·exact .inl y
   ·exact .inr (rs.hh.none y)
  ·have jV:H q=none:=g.hh.none hq;have mq:H t=none:=g.hh.none fE;have lq:q∉ls:=λw=>by
    obtain⟨j,hj,e⟩:=getElem_of_mem w;have:=(a9 j _ _ _ (getElem?_eq_getElem (by omega)) (getElem?_eq_getElem hj) (getElem?_eq_getElem (by omega))).2.2.1;rw[e,jV]at this;cases this
   refine⟨p,ts++[t],ls++[q],a1,by simp[a2],by simp[a3],by rw[QJ,map_append];rfl,Fp,a6,?_,?_,λj t' q' l b1 b2 b3=>?_⟩
   ·simp only[mem_append,List.mem_singleton,not_or];exact⟨a7,pq⟩
   ·rw[nodup_append];exact⟨a8,by simp,λy hy z hz e=>by rw[List.mem_singleton.mp hz]at e;exact lq (e▸hy)⟩
   ·rcases lt_or_ge j m.length with hj|hj
    ·rw[getElem?_append_left (by omega)]at b1 b2 b3;obtain⟨d1,d2,d3,d4,d5⟩:=a9 j t' q' l b1 b2 b3;have tp:t'≠p:=λw=>by rw[w,a4]at d1;cases d1
     have qp:q'≠p:=λw=>a7 (w▸mem_of_getElem? b2);exact⟨keep _ _ (g.hh _ _ d1) tp,d2,keep _ _ (g.hh _ _ d3) qp,g.keepN d3 d4,d5⟩
    ·have ej:j=m.length:=by
      have:=(List.getElem?_eq_some_iff.mp b3).1;simp at this;omega
     subst ej;rw[getElem?_append_right (by omega)]at b1 b2 b3;have z1:m.length-ts.length=0:=by omega
     have z2:m.length-ls.length=0:=by omega
     have z3:m.length-m.length=0:=by omega
     rw[z1]at b1;rw[z2]at b2;rw[z3]at b3;cases b1;cases b2;cases b3;refine⟨by rw[Qn (Ne.symm pt),QJ],rs.hh.none mq,by rw[Qn (Ne.symm pq),Qn (Ne.symm tq),QJ];rfl,g.fh.none hq,rs.hh.none jV⟩
def Qhv(i:Nat)(b:EvR KM):EvS:=λe=>match e[i]? with|some (some (.lst []))=>if e.length<=1000 then(b (e.set i none) []).bind λr=>if i<r.1.length/\r.1.length<=1000 then some (.nx (r.1.set i (some (kmL r.2))))else none else none|_=>none
theorem QsX{OL:List Nat}{w:Bool}{st:Stmt}{b:EvR KM}(h:PS X st (tSR X [Q4 i] DRes b)):PS X st (tS X [i] [i] OL w (Qhv i b)):=PS.imp h λDn σ H⟨F0,F,en,fl,rs,z,k⟩=>by
 unfold Qhv at z;split at z
 ·rename_i he;split at z
  ·rename_i hl;obtain⟨r,e1,e2⟩:=QY z;split at e2
   ·rename_i hc;cases e2;obtain⟨p,kk,xs,ds,h1,h2,h3,h4,h5,h6,h7⟩:=rs.own i _ he (List.mem_singleton.mpr rfl);cases kk with
    |some ks=>cases h6|none=>
     cases h6;cases h5;refine⟨⟨F0.f,F0.h,some p⟩,F,en.set i none,[],r,rs.nestIn hl h1,⟨p,[],[],rfl,rfl,rfl,h4,h3,h2,by simp,nodup_nil,by simp⟩,e1,λσ' F' H' s bI res=>?_⟩;obtain⟨F2,s2,dA⟩:=DRes.out (P₀:=F0.p) bI res hc.1 hc.2;exact k σ' F2 H' (s.trans s2) dA
   ·cases e2
  ·cases z
 ·cases z
end
noncomputable def hdI:List D->Bool|.int _::_=>true|_=>false
mutual inductive NoI:D->Prop where|non:NoI .non|bl(b:Bool):NoI (.bl b)|int(i:Int):NoI (.int i)|str(x:Str):NoI (.str x)|tup{ds:List D}(h:NoIs ds):NoI (.tup ds)|lst{ds:List D}(h:NoIs ds)(hd:hdI ds=false):NoI (.lst ds)inductive NoIs:List D->Prop where|nil:NoIs []|cons{d:D}{ds:List D}(h:NoI d)(r:NoIs ds):NoIs (d::ds)end
def ClI(K:Fg)(G:Hp):Prop:=∀a xs,G a=some (.lst xs)->∀i r,xs≠V.int i::r
theorem ClI.un{K:Fg}{G G':Hp}(c:ClI K G)(c':ClI K G'):ClI K (un G G'):=λa xs h=>by
 rcases Qko h with z|z;·exact c a xs z
 ·exact c' a xs z
theorem ClI.emp(K:Fg):ClI K λ_=>none:=λa xs h=>by cases h
mutual theorem Rep.suppI{K:Fg}{F:Hp}:∀{v:V}{d:D},Rep K F v d->NoI d->∃G,Sm G F/\Rep K G v d/\ClI K G
 |_,_,.non,_=>⟨λ_=>none,λ_ _ h=>(by cases h),.non,.emp K⟩|_,_,.bl b,_=>⟨λ_=>none,λ_ _ h=>(by cases h),.bl b,.emp K⟩|_,_,.int i,_=>⟨λ_=>none,λ_ _ h=>(by cases h),.int i,.emp K⟩|_,_,.str x,_=>⟨λ_=>none,λ_ _ h=>(by cases h),.str x,.emp K⟩|_,_,.tup (a:=a) (xs:=xs) h r,.tup n=>by
  obtain⟨G,s,r',c⟩:=Reps.suppI r n;have s2:=Qte h;refine⟨un G (sgl a (.tup xs)),Qom s s2,.tup (Qon s s2 _ _ (QpR _ _)) (r'.mono (Qoo _ _)),λb ys hb=>?_⟩;rcases Qko hb with z|z;·exact c b ys z
  ·unfold sgl at z;split at z<;>cases z|_,_,.lst (a:=a) (xs:=xs) (ds:=ds) h r,.lst n hd=>by
  obtain⟨G,s,r',c⟩:=Reps.suppI r n;have s2:=Qte h;refine⟨un G (sgl a (.lst xs)),Qom s s2,.lst (Qon s s2 _ _ (QpR _ _)) (r'.mono (Qoo _ _)),λb ys hb=>?_⟩;rcases Qko hb with z|z;·exact c b ys z
  ·unfold sgl at z;split at z
   ·cases z;intro i t e;subst e;cases r with|cons r0 _=>cases r0;cases hd
   ·cases z|_,_,.scr _,n=>by cases n|_,_,.dic _ _ _,n=>by cases n theorem Reps.suppI{K:Fg}{F:Hp}:∀{vs:List V}{ds:List D},Reps K F vs ds->NoIs ds->∃G,Sm G F/\Reps K G vs ds/\ClI K G|_,_,.nil,_=>⟨λ_=>none,λ_ _ h=>(by cases h),.nil,.emp K⟩|_,_,.cons h r,.cons n m=>by obtain⟨G,s,h',c⟩:=Rep.suppI h n;obtain⟨G',s',r',c'⟩:=Reps.suppI r m;exact⟨un G G',Qom s s',.cons (h'.mono (Qoo _ _)) (r'.mono (Qon s s')),.un c c'⟩end
structure Wm(F1 H1:Hp)(p:Addr)(us:List V)(B:Nat)(H:Hp):Prop where
 old:Sm H1 H
 lst:H p=some (.lst us)inn:∀(k:Nat)(v:V),us[k]?=some v->∃(t q:Addr)(x:Str)(is:List Int),v=V.ref t/\H t=some (.tup [.str x,.ref q])/\H q=some (.lst (is.map V.int))/\is.length<=B/\H1 q=none/\q≠p/\(F1 t=some (.tup [.str x,.ref q])\/H1 t=none)
theorem Wm.mono{F1 H1:Hp}{p:Addr}{us:List V}{B:Nat}{H H':Hp}(w:Wm F1 H1 p us B H)(s:Sm H H'):Wm F1 H1 p us B H':=⟨w.old.trans s,s _ _ w.lst,λk v hk=>by obtain⟨t,q,x,is,e1,e2,e3,e4⟩:=w.inn k v hk;exact⟨t,q,x,is,e1,s _ _ e2,s _ _ e3,e4⟩⟩
theorem Wm.step{F1 H1:Hp}{p:Addr}{us:List V}{B:Nat}{H:Hp}(w:Wm F1 H1 p us B H){q:Addr}{is:List Int}{n:Int}(hq:q≠p)(hH:H q=some (.lst (is.map V.int)))(hl:is.length<=B)(h1:H1 q=none):Wm F1 H1 p us (B+1) (upd H q (.lst (is.map V.int++[.int n]))):=by
 refine⟨w.old.upd _ h1,by rw[Qn (Ne.symm hq)];exact w.lst,λk v hk=>?_⟩;obtain⟨t,q',x,kz,e1,e2,e3,e4,e5,e6,e7⟩:=w.inn k v hk;have tq:t≠q:=λz=>by rw[z,hH]at e2;cases e2
 by_cases z:q'=q;·subst z;exact⟨t,q',x,is++[n],e1,by rw[Qn tq];exact e2,by rw[QJ,map_append];rfl,by simp;omega,e5,e6,e7⟩
 ·exact⟨t,q',x,kz,e1,by rw[Qn tq];exact e2,by rw[Qn z];exact e3,by omega,e5,e6,e7⟩
theorem Wm.start{K:Fg}{G F1 H1 F' H':Hp}(c:ClI K G)(sG:Sm G F1)(g:Gr G H1 F' H'){p:Addr}{us:List V}{m:KM}{B:Nat}(hp:F' p=none)(hp1:H1 p=none)(hH:H' p=some (.lst us))(r:Reps K F' us (m.map prL))(hm:∀l∈m,l.2≠[]/\l.2.length<=B):Wm F1 H1 p us B H':=by refine⟨g.hh,hH,λk v hk=>?_⟩;obtain⟨d,h1,h2⟩:=r.getV hk;rw[getElem?_map]at h1;obtain⟨l,h3,rfl⟩:=Option.map_eq_some_iff.mp h1;obtain⟨ne,lb⟩:=hm l (mem_of_getElem? h3);unfold prL at h2;cases h2 with|tup a1 a2=>cases a2 with|cons b1 b2=>cases b1;cases b2 with|cons c1 c2=>cases c2;cases c1 with|lst d1 d2=>
 rename_i t q zs;have ez:zs=l.2.map V.int:=d2.intsOf (by
  generalize l.2=t;induction t with|nil=>rfl|cons y t ih=>show(Wd.intsOf (t.map .int)).map (y::·)=_;rw[ih];rfl);subst ez;refine⟨t,q,l.1,l.2,rfl,g.fh _ _ a1,g.fh _ _ d1,lb,?_,(λz=>by rw[z,hp]at d1;cases d1),?_⟩
 ·rcases g.fr q _ d1 with y|y
  ·exfalso;cases e:l.2 with
   |nil=>exact ne e|cons i is=>rw[e]at y;exact c q _ y i _ rfl
  ·exact y
 ·rcases g.fr t _ a1 with y|y;·exact .inl (sG _ _ y)
  ·exact .inr y
def Qqp(i j:Nat)(c c1 c2:EvE)(ds:List D)(T:D)(e:Qj):Prop:=NoIs ds/\(∃m:KM,T=kmL m/\m.length<=400/\∀l∈m,l.2≠[]/\l.2.length<=500)/\i<e.length/\j<e.length/\c (e.set i (some T))=some (.bl false)/\∀x is,is.length<=1000->c1 ((e.set i none).set j (some (prL (x,is))))=some (.bl false)/\c2 ((e.set i none).set j (some (prL (x,is))))=some (.bl false)
open Classical in noncomputable def Qks(i j:Nat)(f:List D->Option D)(l:EvL)(c c1 c2:EvE):EvS:=λe=>(l e).bind λds=>(f ds).bind λT=>if Qqp i j c c1 c2 ds T e then some (.nx ((e.set i none).set j none))else none
section
variable{X:Cx}{OL:List Nat}{w:Bool}
theorem QsV{i j:Nat}{more:Str}{cY:List Stmt}{f:List D->Option D}{l:EvL}{cv jT jS:EvE}(cC:i≠j)(hi0:i<1000)(h:PSs X cY (Qiu (Qos (Qkq (spO X.K f) [] E0 (tL X [] l)) (QkC i)) (Qiu (Qor (tDT X [i] cv) Qht Qkp) (Qiu (Qva (Qtn X.K (Qd7 i)) (QkC j) (Qiu (Qor (tDT X [] jT) Qht Qkp) (Qiu (Qor (tDT X [] jS) Qht Qkp) (QfT (tBM X.K "list" QdI (tOp (rIx X.K) (Qd7 j) (tC (.int 1))) (YY (tC (.int 1)) Qa6)))))) (QfT (tBM X.K "list" QdI (Qd7 i) (YY (QrH (YY (tC (.str more)) (YY (Qoq Qa6) Qa6))) Qa6))))))):PSs X cY (tS X [] [] OL w (Qks i j f l cv jT jS)):=by
 refine PSs.imp h λDn σ H⟨F0,F,en,fl,rs,z,k⟩=>?_;obtain⟨ds,e1,z1⟩:=QY z;obtain⟨T,e2,z2⟩:=QY z1;split at z2
 ·rename_i cond;cases z2;obtain⟨ni,⟨m,rfl,ml,mo⟩,il,jl,ec,lV⟩:=cond;refine⟨F0,F,en,ds,rs,e1,λvs F1 H1 g1 r1=>?_⟩;obtain⟨G,sG,rG,cG⟩:=r1.suppI ni;refine⟨G,ds,_,sG.trans g1.fh,by rw[append_nil];exact rG,e2,λp kk xs cw F' H' g2 n1 n2 hp rp ed hok=>?_⟩;cases kk with|some _=>cases ed|none=>
  cases ed;obtain⟨gu,su⟩:=Gr.un sG g1.fh g2;have bZ:=rs.grow g1;have mr:F1 p=none:=g1.fh.none n1;have up:un F1 F' p=none:=by unfold un;rw[mr];exact n2
  have j9:=(bZ.grow gu).putO' i (bZ.hh.none n1) up hp hok (rp.mono su) (λj d hj=>absurd hj (by simp)) (by simp) (λj z=>by unfold Q4 at z;omega);refine⟨F0,_,_,false,j9,ec,λF3 H3 g3=>Qcj ?_⟩;have sl:i<σ.length:=by rw[rs.len];exact il
  have sj:j<σ.length:=by rw[rs.len];exact jl
  have hus:xs.length=m.length:=by rw[rp.length,length_map]
  have gA:=sizeLine_eq;refine⟨.ref p,by rw[getElem?_set,if_pos rfl,if_pos sl],p,rfl,⟨xs,SqL.of (g3.hh _ _ hp)⟩,λidx n σ' H'=>n=xs.length-idx/\idx<=xs.length/\Wm F1 H1 p xs (500+idx) H'/\(σ'=σ.set i (some (.ref p))\/∃u,σ'=(σ.set i (some (.ref p))).set j (some u)),⟨xs.length,by omega,by omega,(Wm.start cG sG g2 n2 n1 hp rp mo).mono g3.hh,.inl rfl⟩,?_⟩;rintro idx n σ' H'⟨rfl,hle,wm,hσ⟩;rcases lt_or_ge idx xs.length with bA|hge
  ·refine .inr ⟨⟨xs,xs[idx],SqL.of wm.lst,getElem?_eq_getElem bA⟩,λσ2 H2=>Wm F1 H1 p xs (500+(idx+1)) H2/\∃u,σ2=(σ.set i (some (.ref p))).set j (some u),λσ2 H2⟨a,b⟩=>⟨xs.length-(idx+1),by omega,rfl,by omega,a,.inr b⟩,λv H2 hy=>?_⟩;obtain⟨rfl,gZ⟩:=hy;have kC:=gZ xs (SqL.of wm.lst);obtain⟨t,q,sx,is,rfl,b1,b2,b3,b4,b5,b6⟩:=wm.inn idx v kC;have e5:σ'.set j (some (.ref t))=(σ.set i (some (.ref p))).set j (some (.ref t)):=by
    rcases hσ with h|⟨u,h⟩;·rw[h]
    ·rw[h,List.set_set]
   have tq:t≠q:=λz=>by rw[z,b2]at b1;cases b1
   let F9:Hp:=λa=>if a=t then some (.tup [.str sx,.ref q])else if a=q then some (.lst (is.map V.int))else F1 a;have ft:F9 t=some (.tup [.str sx,.ref q]):=if_pos rfl;have fq:F9 q=some (.lst (is.map V.int)):=by show(if q=t then _ else if q=q then _ else _)=_;rw[if_neg (Ne.symm tq),if_pos rfl]
   have g9:Gr F1 H1 F9 H2:=by
    refine⟨λa o h=>?_,wm.old,λa o h=>?_,λa o h=>?_⟩
    ·have hH:=wm.old _ _ (g1.fh a o h);by_cases z1:a=t;·rw[z1,b1]at hH;rw[z1,ft];exact hH
     ·by_cases z2:a=q;·rw[z2]at h;rw[g1.fh.none b4]at h;cases h
      ·show(if a=t then _ else if a=q then _ else F1 a)=_;rw[if_neg z1,if_neg z2];exact h
    ·have h':(if a=t then some (HO.tup [.str sx,.ref q])else if a=q then some (.lst (is.map V.int))else F1 a)=some o:=h;split at h';·rename_i z;rw[z,b1];exact h'
     ·split at h';·rename_i z;rw[z,b2];exact h'
      ·exact wm.old _ _ (g1.fh a o h')
    ·have h':(if a=t then some (HO.tup [.str sx,.ref q])else if a=q then some (.lst (is.map V.int))else F1 a)=some o:=h;split at h'
     ·rename_i z;rcases b6 with y|y;·left;rw[z,y];exact h'
      ·right;rw[z];exact y
     ·split at h';·rename_i z;right;rw[z];exact b4
      ·exact .inl h'
   have jf:=((bZ.grow g9).kill i (some (.ref p)) (by simp)).put' j (v:=.ref t) (d:=prL (sx,is)) (.tup ft (.cons (.str sx) (.cons (.lst fq (Reps.ints is)) .nil))) (by simp);obtain⟨lW,gM⟩:=lV sx is (by omega);refine(show _ from ?_);show(λσ2 H2=>_) (σ'.set j (some (.ref t))) H2;dsimp only;rw[e5];refine⟨F0,F9,_,false,jf,lW,λF4 H4 g4=>Qcj ⟨F0,F4,_,false,jf.grow g4,gM,λF5 H5 g5=>Qcj ?_⟩⟩;have s5:Sm H2 H5:=g4.hh.trans g5.hh;have j2:((σ.set i (some (.ref p))).set j (some (.ref t)))[j]?=some (some (.ref t)):=by rw[getElem?_set,if_pos rfl,if_pos (by rw[length_set];exact sj)]
   refine⟨.ref t,j2,.inr (.inl ⟨t,_,1,.ref q,rfl,rfl,SqT.of (s5 _ _ b1),rfl,?_⟩)⟩;refine⟨.inl ⟨rfl,_,SqL.of (s5 _ _ b2)⟩,q,_,.int 1,rfl,rfl,s5 _ _ b2,by rw[length_map];omega,?_⟩;exact⟨(wm.mono s5).step b5 (s5 _ _ b2) b3 b4,_,rfl⟩
  ·refine .inl ⟨⟨xs,SqL.of wm.lst,hge⟩,?_⟩;have si:σ'[i]?=some (some (.ref p)):=by
    rcases hσ with h|⟨u,h⟩;·rw[h,getElem?_set,if_pos rfl,if_pos sl]
    ·rw[h,getElem?_set_ne (Ne.symm cC),getElem?_set,if_pos rfl,if_pos sl]
   refine⟨.ref p,si,.inl ⟨rfl,_,SqL.of wm.lst⟩,(by first|(simp;done)|(simp;omega)),λl hl=>⟨(by first|(simp;done)|(simp;omega)),λt ht=>?_⟩⟩;have pl:p≠l:=λz=>by have:=wm.lst;rw[z,hl]at this;cases this
   have jx:H' t=none:=by
    by_cases z:t=l;·rw[z,QJ]at ht;cases ht
    ·rw[Qn z]at ht;exact ht
   have pt:p≠t:=λz=>by have:=wm.lst;rw[z,jx]at this;cases this
   refine⟨p,xs,.ref t,rfl,rfl,by rw[Qn pt,Qn pl];exact wm.lst,by omega,?_⟩;have s9:Sm H1 (upd (upd (upd H' l (.lst [])) t (.tup [.str more,.ref l])) p (.lst (xs++[.ref t]))):=((wm.old.upd _ (wm.old.none hl)).upd _ (wm.old.none jx)).upd _ n1;have j8:=bZ.grow (⟨.refl F1,s9,g1.fh.trans s9,λa o h=>.inl h⟩:Gr F1 H1 F1 _);have ki:=j8.kill i (some (.ref p)) (by simp);refine k σ' F1 _ g1.ff ?_;rcases hσ with h|⟨u,h⟩;·rw[h];exact ki.forget j
   ·rw[h];exact ki.kill j (some u) (by simp)
 ·cases z2
end
section
variable{X:Cx}{O:List Nat}{x:Str}{pos p:Pos}{e:Expr}{es:List Expr}{l:EvL}{k k':Nat}{ps:List Str}
theorem dv(i:Nat)(hN:X.N[i]?=some x:=by rfl)(hv:Vis X.env.scope x:=by first|exact Or.inl rfl|exact Or.inr (Or.inl rfl)|exact Or.inr (Or.inr rfl))(hd:(x==("__debug__":Str))=false:=by decide)(hc:(x==("__classdict__":Str))=false:=by decide):PE X (.Name x pos) (tR X O (eV i)):=ZS i hN hv hd hc
theorem dq{i:Int}{j}:PE X (.Constant (.int i) j pos) (tR X O (eC (.int i))):=dr QA
theorem dn(i:Nat)(hr:PA X es (tL X O l))(hN:X.N[i]?=some x:=by rfl)(hv:Vis X.env.scope x:=by first|exact Or.inl rfl|exact Or.inr (Or.inl rfl)|exact Or.inr (Or.inr rfl))(hO:i∉O:=by decide)(hd:(x==("__debug__":Str))=false:=by decide)(hc:(x==("__classdict__":Str))=false:=by decide):PA X (.Name x pos::es) (tL X O (lC (eV i) l)):=Qn5 (Qs i hN hv hO hd hc) hr
theorem dc{f:List D->Option D}(c:Cal X.prog X.w X.K X.mg X.ab k x ps (spD X.K f))(hr:Room k' X.A)(ha:PA X (e::es) (tL X O l))(hk:k<=k':=by decide)(hg:Gl X x:=by exact rfl)(bJ:(x==("__debug__":Str))=false:=by decide)(he:starEach (e::es) X.env=(false,eval e X.env)::starEach es X.env:=by rfl)(cn:(backTo pos (starEach es X.env)).any (·.1)=false:=by rfl):PE X (.Call (.Name x p) (e::es) [] pos) (tD X O (eK f l)):=Qs0 c (hr.mono hk) hg ha bJ he cn
theorem okD{P:Program}{w:World}{K:Fg}{mg:Str->Option Value}{ab:Heap}{st:Stmt}(N ps:List Str)(b:EvS)(k:Nat)(h:Df K mg x st ps)(S:FnScope N ps (Qa st))(hb:N.Nodup->∀{f:Addr}{ax:Value}{A:Around}{ag:List Env}{s:Shared}{H:Hp}{E:XK},Room k (A.deeper (envOfC x (Qa st) s.heap.objs.size f ax))->PSs (Vu CX0 P w K mg ab N x (Qa st) f ax A ag s H E).nox (Zf st) (tS (Vu CX0 P w K mg ab N x (Qa st) f ax A ag s H E).nox [] [] [] false b)):Cal P w K mg ab (k+1) x ps (spD K (Qx N.length ps.length b)):=okC h S λ_ _ _ _ _ _ _ hr=>hb S.nd hr
end
section
variable{X:Cx}{O:List Nat}{x:Str}{pos p:Pos}{a b:Expr}{es:List Expr}{l:EvL}{k:Nat}{ea eb:EvE}
theorem dE(hr:Room k X.A)(ha:PE X a (tR X O ea))(hb:PE X b (tR X O eb)):PT X (.Compare a [.Eq] [b] pos) (tDT X O (eOp D.eqO ea eb)):=Vg (V1 hr.units) ha hb (JJ _)
theorem dF(hr:Room k X.A)(ha:PE X a (tR X O ea))(hb:PE X b (tR X O eb)):PT X (.Compare a [.NotEq] [b] pos) (tDT X O (eOp D.neO ea eb)):=Vg (Qp0 hr.units) ha hb (JJ _)
theorem dy{z:Int}{j}{q:Pos}(i:Nat)(hN:X.N[i]?=some x:=by rfl)(hv:Vis X.env.scope x:=by first|exact Or.inl rfl|exact Or.inr (Or.inl rfl)|exact Or.inr (Or.inr rfl))(hd:(x==("__debug__":Str))=false:=by decide)(hc:(x==("__classdict__":Str))=false:=by decide):PE X (.Subscript (.Name x p) (.Constant (.int z) j q) pos) (tD X O (eOp D.ix (eV i) (eC (.int z)))):=Qz (dv i hN hv hd hc) dq
theorem dx{z:Int}{j}{q:Pos}(i:Nat)(hN:X.N[i]?=some x:=by rfl)(hv:Vis X.env.scope x:=by first|exact Or.inl rfl|exact Or.inr (Or.inl rfl)|exact Or.inr (Or.inr rfl))(hd:(x==("__debug__":Str))=false:=by decide)(hc:(x==("__classdict__":Str))=false:=by decide):PE X (.Subscript (.Name x p) (.Constant (.int z) j q) pos) (tR X O (eOp D.ix (eV i) (eC (.int z)))):=dr (dy i hN hv hd hc)
end
end Wd
namespace My
section
open PySem Wd
def QfC:EvS:=Qi (eUn D.len (eUn D.strI (eV 0)))
def Qax:List D->Option D:=Qx 1 1 QfC
def QkY:EvS:=Qi (Qm (lC (eV 0) (lC (eC (.int 0)) (lC (eC (.int 0)) (lC (eC (.int 0)) lN)))))
def QaF:List D->Option D:=Qx 1 1 QkY
def QcS:EvS:=Qi (eOp D.le (eOp D.add (eOp D.add (eOp D.ix (eV 1) (eC (.int 1))) (eOp D.ix (eV 1) (eC (.int 3)))) (eV 2)) (eOp D.ix (eV 0) (eC (.int 1))))
def YN:List D->Option D:=Qx 3 3 QcS
def Qdx:EvS:=Qi (eOr (eOp D.eqO (eOp D.ix (eV 1) (eC (.int 2))) (eC (.int 0))) (eOp D.le (eOp D.add (eOp D.add (eOp D.ix (eV 1) (eC (.int 2))) (eC (.int 1))) (eV 2)) (eOp D.ix (eV 0) (eC (.int 0)))))
def QbA:List D->Option D:=Qx 3 3 Qdx
def QfA:EvS:=Qi (Qm (lC (Qm (lC (eV 0) (lC (eV 1) (lC (eV 2) lN)))) (lC (Qm (lC (eV 0) (lC (eV 1) (lC (eOp D.add (eV 2) (eV 3)) (lC (eV 4) lN))))) lN)))
def Qaw:List D->Option D:=Qx 5 5 QfA
def QeE:EvS:=sQ (Qc (eOp D.ix (eV 1) (eC (.int 0))) (gS 4)) (sQ (Qc (eOp D.ix (eV 1) (eC (.int 1))) (gS 5)) (sQ (Qc (eOp D.ix (eV 1) (eC (.int 2))) (gS 6)) (sQ (Qc (eOp D.add (eOp D.ix (eV 1) (eC (.int 3))) (eV 3)) (gS 7)) (sQ (sIf (QM (eK QbA (lC (eV 0) (lC (eV 1) (lC (eV 2) lN)))) (eK YN (lC (eV 0) (lC (eV 1) (lC (eOp D.add (eC (.int 1)) (eV 3)) lN))))) (sQ (Qc (eIf (eOp D.eqO (eV 6) (eC (.int 0))) (eC (.int 0)) (eOp D.add (eV 6) (eC (.int 1)))) (gS 8)) (Qi (eK Qaw (lC (eV 4) (lC (eV 5) (lC (eV 8) (lC (eV 2) (lC (eV 7) lN)))))))) sNx) (sQ (sIf (QM (eOp D.gt (eV 6) (eC (.int 0))) (eK YN (lC (eV 0) (lC (eV 1) (lC (eOp D.add (eC (.int 2)) (eV 3)) lN))))) (Qi (eK Qaw (lC (eV 4) (lC (eOp D.add (eV 5) (eC (.int 1))) (lC (eC (.int 0)) (lC (eV 2) (lC (eV 7) lN))))))) sNx) (Qi (eK Qaw (lC (eOp D.add (eV 4) (eC (.int 1))) (lC (eC (.int 0)) (lC (eC (.int 0)) (lC (eV 2) (lC (eV 3) lN))))))))))))
def QaP:List D->Option D:=Qx 9 4 QeE
def QeJ:EvS:=sQ (sIf (eOp D.eqO (eOp D.ix (eV 0) (eC (.int 2))) (eC (.int 0))) (Qi (eV 0)) sNx) (Qi (Qm (lC (eOp D.ix (eV 0) (eC (.int 0))) (lC (eOp D.add (eOp D.ix (eV 0) (eC (.int 1))) (eC (.int 1))) (lC (eC (.int 0)) (lC (eOp D.ix (eV 0) (eC (.int 3))) lN))))))
def QaR:List D->Option D:=Qx 1 1 QeJ
def Qdu:EvS:=sQ (Qc (eK QaR (lC (eV 1) lN)) (gS 4)) (sQ (sIf (Ja (eK YN (lC (eV 0) (lC (eV 4) (lC (eOp D.add (eV 2) (eV 3)) lN))))) (Qc (eK QaF (lC (eOp D.add (eOp D.ix (eV 4) (eC (.int 0))) (eC (.int 1))) lN)) (gS 4)) sNx) (sQ (Qc (Qm (lC (eOp D.ix (eV 4) (eC (.int 0))) (lC (eOp D.ix (eV 4) (eC (.int 1))) (lC (eC (.int 0)) lN)))) (gS 5)) (Qi (Qm (lC (eV 5) (lC (Qm (lC (eOp D.ix (eV 4) (eC (.int 0))) (lC (eOp D.add (eOp D.ix (eV 4) (eC (.int 1))) (eV 2)) (lC (eC (.int 0)) (lC (eOp D.ix (eV 4) (eC (.int 3))) lN))))) lN))))))
def YI:List D->Option D:=Qx 6 4 Qdu
def QeF:EvS:=sQ (sIf (eOp D.eqO (eV 0) (eK QaF (lC (eOp D.ix (eV 0) (eC (.int 0))) lN))) (Qi (eV 0)) sNx) (Qi (eK QaF (lC (eOp D.add (eOp D.ix (eV 0) (eC (.int 0))) (eC (.int 1))) lN)))
def QaQ:List D->Option D:=Qx 1 1 QeF
def QbT:EvS:=sQ (Qc (eK QaQ (lC (eV 1) lN)) (gS 2)) (sQ (sIf (QM (eOp D.ix (eV 0) (eC (.int 2))) (eOp D.eqO (eOp D.mod (eOp D.ix (eV 2) (eC (.int 0))) (eC (.int 2))) (eC (.int 0)))) (Qi (eK QaF (lC (eOp D.add (eOp D.ix (eV 2) (eC (.int 0))) (eC (.int 1))) lN))) sNx) (Qi (eV 2)))
def Vk:List D->Option D:=Qx 3 2 QbT
def QcR:EvS:=sQ (Qc (eOp D.ix (eK QaQ (lC (eV 0) lN)) (eC (.int 0))) (gS 2)) (Qi (Qm (lC (Qm (lC (eV 2) (lC (eC (.int 0)) (lC (eC (.int 0)) lN)))) (lC (eK QaF (lC (eOp D.add (eV 2) (eV 1)) lN)) lN))))
def QaV:List D->Option D:=Qx 3 2 QcR
def QeI:EvS:=Qi (QM (JR D.le D.le (eC (.int 4)) (eOp D.ix (eV 0) (eC (.int 0))) (eC (.int 90))) (JR D.le D.le (eC (.int 2)) (eOp D.ix (eV 0) (eC (.int 1))) (eC (.int 60))))
def Qb4:List D->Option D:=Qx 1 1 QeI
def Qdw:EvS:=Qi (eOp D.inO (eOp D.ix (eV 0) (eC (.int 0))) (Qm (lC (eC (.str "chapter")) (lC (eC (.str "heading")) lN))))
def Vq:List D->Option D:=Qx 1 1 Qdw
def Qg4:EvS:=Qi (eOp D.inO (eOp D.ix (eV 0) (eC (.int 0))) (Qm (lC (eC (.str "word")) (lC (eC (.str "ref")) lN))))
def Ye:List D->Option D:=Qx 1 1 Qg4
def QeG:EvS:=Qi (eIf (eOp D.eqO (eOp D.ix (eV 0) (eC (.int 0))) (eC (.str "para"))) (eC (.str "")) (eOp D.ix (eV 0) (eUn D.neg (eC (.int 1)))))
def Yv:List D->Option D:=Qx 1 1 QeG
def QeH:EvS:=Qi (eIf (eOp D.eqO (eOp D.ix (eV 0) (eC (.int 0))) (eC (.str "para"))) (eOp D.ix (eV 0) (eC (.int 1))) (Qg lN))
def JH:List D->Option D:=Qx 1 1 QeH
def QkV:EvS:=sQ (Qc (Qg lN) (gS 1)) (sQ (Jg (QL (eV 0)) (gS 2) (QrI 1 (Q2 1 [] (QL (eK JH (lC (eV 2) lN))) (gS 0) (eOp D.eqO (eOp D.ix (eV 0) (eC (.int 0))) (eC (.str "ref"))) (eOp D.ix (eV 0) (eC (.int 1)))))) (Qi (eV 1)))
def Z4:List D->Option D:=Qx 3 1 QkV
def Qdv:EvS:=sQ (sIf (eOp D.eqO (eOp D.ix (eV 0) (eC (.int 0))) (eC (.str "plates"))) (Qi (eOp D.add (eC (.int 2)) (eOp D.ix (eV 0) (eC (.int 1))))) sNx) (sQ (sIf (QM (eK Vq (lC (eV 0) lN)) (eOp D.ix (eV 1) (eC (.int 3)))) (Qi (eC (.int 4))) sNx) (Qi (eOp D.add (eC (.int 2)) (eOp D.mulA (eC (.int 2)) (eUn D.len (Q2 1 [] (QL (eK JH (lC (eV 0) lN))) (gS 0) (eK Ye (lC (eV 0) lN)) (eV 0)))))))
def Vp:List D->Option D:=Qx 2 2 Qdv
def Qa2:EvS:=Qi (eOp D.add (eC (.int 3)) (eUn D.sumL (Q2 1 [1] (QL (eV 0)) (gS 0) (eC (.bl true)) (eK Vp (lC (eV 0) (lC (eV 1) lN))))))
def Vz:List D->Option D:=Qx 2 2 Qa2
def Qbm:EvS:=Qi (eK Qax (lC (eK Vz (lC (eV 0) (lC (eV 1) lN))) lN))
def VY:List D->Option D:=Qx 2 2 Qbm
def QcT:EvS:=Qi (eUn D.anyL (Q2 1 [1] (QL (eV 0)) (gS 0) (eC (.bl true)) (eOp D.gt (eUn D.len (eV 0)) (eV 1))))
def VN:List D->Option D:=Qx 2 2 QcT
def ZY:EvS:=sQ (sIf (eK Vq (lC (eV 0) lN)) (sQ (Qc (eIf (eOp D.ix (eV 1) (eC (.int 3))) (eOp D.add (eC (.int 2)) (eV 2)) (eC (.int 0))) (gS 3)) (Qi (eOp D.gt (eOp D.add (eUn D.len (eOp D.ix (eV 0) (eC (.int 1)))) (eV 3)) (eOp D.ix (eV 1) (eC (.int 0)))))) sNx) (Qi (QM (eOp D.eqO (eOp D.ix (eV 0) (eC (.int 0))) (eC (.str "table"))) (eK VN (lC (eOp D.ix (eV 0) (eC (.int 1))) (lC (eOp D.ix (eV 1) (eC (.int 0))) lN)))))
def Zc:List D->Option D:=Qx 4 3 ZY
def Qbp:EvS:=sQ (sIf (eOp D.eqO (eOp D.ix (eV 0) (eC (.int 0))) (eC (.str "word"))) (Qi (eK VN (lC (eOp D.add (Qg (lC (eOp D.ix (eV 0) (eC (.int 1))) lN)) (eOp D.ix (eV 0) (eC (.int 2)))) (lC (eOp D.ix (eV 1) (eC (.int 0))) lN)))) sNx) (Qi (QM (eOp D.eqO (eOp D.ix (eV 0) (eC (.int 0))) (eC (.str "ref"))) (eOp D.gt (eOp D.add (eOp D.add (eUn D.len (eOp D.ix (eV 0) (eC (.int 2)))) (eV 2)) (eUn D.len (eOp D.ix (eV 0) (eC (.int 3))))) (eOp D.ix (eV 1) (eC (.int 0))))))
def VZ:List D->Option D:=Qx 3 3 Qbp
def Qa4:EvS:=sQ (sIf (eOp D.eqO (eOp D.ix (eV 0) (eC (.int 0))) (eC (.str "heading"))) (Qi (eOp D.gt (eOp D.add (eOp D.ix (eV 0) (eC (.int 2))) (eC (.int 1))) (eOp D.ix (eV 1) (eC (.int 1))))) sNx) (Qi (QM (eOp D.eqO (eOp D.ix (eV 0) (eC (.int 0))) (eC (.str "table"))) (eOp D.gt (eUn D.len (eOp D.ix (eV 0) (eC (.int 1)))) (eOp D.ix (eV 1) (eC (.int 1))))))
def VA:List D->Option D:=Qx 2 2 Qa4
def Qbq:EvS:=Qi (QM (eOp D.eqO (eOp D.ix (eV 0) (eC (.int 0))) (eC (.str "word"))) (eOp D.gt (eOp D.add (eUn D.len (eOp D.ix (eV 0) (eC (.int 2)))) (eC (.int 1))) (eOp D.ix (eV 1) (eC (.int 1)))))
def V0:List D->Option D:=Qx 2 2 Qbq
def Qdy:EvS:=sQ (sIf (eOp D.dIn (eV 0) (eV 2)) Ve sNx) (Qec 2 (eV 0) (eC (.bl true)))
def Qaa:List D->Option D:=Qdh 3 3 Qdy
def Qa3:EvS:=sQ (sIf (eK Zc (lC (eV 0) (lC (eV 2) (lC (eV 3) lN)))) Ve sNx) (sQ (sIf (eK VA (lC (eV 0) (lC (eV 2) lN))) Ve sNx) (sIf (eOp D.neO (eK Yv (lC (eV 0) lN)) (eC (.str ""))) (VD 4 Qaa (lC (eK Yv (lC (eV 0) lN)) (lC (eV 1) lN))) sNx))
def Yz:List D->Option D:=Qdh 5 5 Qa3
def Qbo:EvS:=sQ (sIf (eK VZ (lC (eV 0) (lC (eV 2) (lC (eV 3) lN)))) Ve sNx) (sQ (sIf (eK V0 (lC (eV 0) (lC (eV 2) lN))) Ve sNx) (sIf (eOp D.eqO (eOp D.ix (eV 0) (eC (.int 0))) (eC (.str "mark"))) (VD 4 Qaa (lC (eOp D.ix (eV 0) (eC (.int 1))) (lC (eV 1) lN))) sNx))
def YT:List D->Option D:=Qdh 5 5 Qbo
def VB:EvS:=sQ (Qc (eUn D.len (Q2 1 [] (QL (eV 0)) (gS 0) (eK Ye (lC (eV 0) lN)) (eV 0))) (gS 5)) (Jg (QL (eV 0)) (gS 6) (sQ (VD 4 YT (lC (eV 6) (lC (eV 1) (lC (eV 2) (lC (eV 3) lN))))) (sIf (eK Ye (lC (eV 6) lN)) (ZC 5 D.sub (eC (.int 1))) (sIf (eOp D.eqO (eV 5) (eC (.int 0))) Ve sNx))))
def Yy:List D->Option D:=Qdh 7 5 VB
def Qbn:EvS:=Jg (Qbv (eV 0)) (Jp [gS 2,gS 3]) (Jg (QL (eK Z4 (lC (Qg (lC (eV 3) lN)) lN))) (gS 4) (sIf (eOp D.dNotIn (eV 4) (eV 1)) Ve sNx))
def YS:List D->Option D:=Qx 5 2 Qbn
def QkW:EvS:=sQ (sIf (Ja (eK Qb4 (lC (eV 1) lN))) Ve sNx) (sQ (Qc (eK VY (lC (eV 0) (lC (eV 1) lN))) (gS 2)) (sQ (Qc (eC (.dic [] [])) (gS 3)) (sQ (Jg (Qbv (eV 0)) (Jp [gS 4,gS 5]) (sQ (VD 3 Yz (lC (eV 5) (lC (eV 4) (lC (eV 1) (lC (eV 2) lN))))) (VD 3 Yy (lC (eK JH (lC (eV 5) lN)) (lC (eV 4) (lC (eV 1) (lC (eV 2) lN))))))) (J5 (eK YS (lC (eV 0) (lC (eV 3) lN)))))))
def QbF:List D->Option D:=Qx 6 2 QkW
def Qbl:EvS:=sQ (Qc (Qg lN) (gS 2)) (sQ (Qc (eK QaF (lC (eC (.int 1)) lN)) (gS 3)) (sQ (sIf (Ja (eOp D.ix (eV 1) (eC (.int 3)))) (Qi (Qm (lC (eV 2) (lC (eV 3) lN)))) sNx) (sQ (Jg (QL (eV 0)) (gS 4) (sIf (eK Vq (lC (eV 4) lN)) (sQ (Qc (eK YI (lC (eV 1) (lC (eV 3) (lC (eC (.int 1)) (lC (eC (.int 0)) lN))))) (gS 5)) (sQ (sP 2 (eOp D.ix (eV 5) (eC (.int 0)))) (Qc (eOp D.ix (eV 5) (eC (.int 1))) (gS 3)))) sNx)) (sQ (sIf (eOp D.gt (eUn D.len (eV 2)) (eC (.int 0))) (Qc (eK Vk (lC (eV 1) (lC (eV 3) lN))) (gS 3)) sNx) (Qi (Qm (lC (eV 2) (lC (eV 3) lN))))))))
def VX:List D->Option D:=Qx 6 2 Qbl
def Qds:EvS:=sQ (Qc (Qg lN) (gS 4)) (sQ (Qc (eC (.int 0)) (gS 5)) (sQ (Jg (QL (eV 0)) (gS 6) (sIf (eK Ye (lC (eV 6) lN)) (sQ (sIf (eOp D.eqO (eOp D.ix (eV 6) (eC (.int 0))) (eC (.str "ref"))) (sQ (Qc (eOp D.add (eOp D.add (eUn D.len (eOp D.ix (eV 6) (eC (.int 2)))) (eOp D.ix (eV 3) (eV 5))) (eUn D.len (eOp D.ix (eV 6) (eC (.int 3))))) (gS 7)) (sQ (Qc (eK QaP (lC (eV 1) (lC (eV 2) (lC (eV 7) (lC (eC (.int 0)) lN))))) (gS 8)) (ZC 5 D.addI (eC (.int 1))))) (Qc (eK QaP (lC (eV 1) (lC (eV 2) (lC (eUn D.len (eOp D.ix (eV 6) (eC (.int 1)))) (lC (eUn D.len (eOp D.ix (eV 6) (eC (.int 2)))) lN))))) (gS 8))) (sQ (sP 4 (eOp D.ix (eV 8) (eC (.int 0)))) (Qc (eOp D.ix (eV 8) (eC (.int 1))) (gS 2)))) sNx)) (Qi (Qm (lC (eV 4) (lC (eK QaR (lC (eV 2) lN)) lN))))))
def V8:List D->Option D:=Qx 9 4 Qds
def Qdt:EvS:=sQ (sIf (eOp D.eqO (eOp D.ix (eV 0) (eC (.int 0))) (eC (.str "plates"))) (Qi (eK QaV (lC (eV 2) (lC (eOp D.ix (eV 0) (eC (.int 1))) lN)))) sNx) (sQ (sIf (eOp D.eqO (eOp D.ix (eV 0) (eC (.int 0))) (eC (.str "table"))) (Qi (eK YI (lC (eV 1) (lC (eV 2) (lC (eUn D.len (eOp D.ix (eV 0) (eC (.int 1)))) (lC (eC (.int 0)) lN)))))) sNx) (sQ (sIf (eOp D.eqO (eOp D.ix (eV 0) (eC (.int 0))) (eC (.str "heading"))) (Qi (eK YI (lC (eV 1) (lC (eV 2) (lC (eC (.int 1)) (lC (eOp D.ix (eV 0) (eC (.int 2))) lN)))))) sNx) (Qi (eK YI (lC (eV 1) (lC (eK Vk (lC (eV 1) (lC (eV 2) lN))) (lC (eC (.int 1)) (lC (eC (.int 0)) lN))))))))
def V9:List D->Option D:=Qx 3 3 Qdt
def QeD:EvS:=sQ (Qc (eK VX (lC (eV 0) (lC (eV 1) lN))) (gS 3)) (sQ (Qc (Qg (lC (eOp D.ix (eV 3) (eC (.int 0))) lN)) (gS 4)) (sQ (Qc (eOp D.ix (eV 3) (eC (.int 1))) (gS 5)) (sQ (Qc (eC (.int 0)) (gS 6)) (sQ (Jg (QL (eV 0)) (gS 7) (sQ (sIf (eOp D.eqO (eOp D.ix (eV 7) (eC (.int 0))) (eC (.str "para"))) (sQ (Qc (eK V8 (lC (eOp D.ix (eV 7) (eC (.int 1))) (lC (eV 1) (lC (eV 5) (lC (JF (eV 2) (oAt (eV 6)) oNo) lN))))) (gS 3)) (sQ (sP 4 (eOp D.ix (eV 3) (eC (.int 0)))) (ZC 6 D.addI (eUn D.len (eK Z4 (lC (Qg (lC (eV 7) lN)) lN)))))) (sQ (Qc (eK V9 (lC (eV 7) (lC (eV 1) (lC (eV 5) lN)))) (gS 3)) (sP 4 (Qg (lC (eOp D.ix (eV 3) (eC (.int 0))) lN))))) (Qc (eOp D.ix (eV 3) (eC (.int 1))) (gS 5)))) (Qi (eV 4))))))
def Yu:List D->Option D:=Qx 8 3 QeD
def QaW:EvS:=sQ (Qc (Qg lN) (gS 3)) (sQ (Qc (eC (.int 0)) (gS 4)) (sQ (Jg (QL (eV 0)) (gS 5) (sIf (eK Ye (lC (eV 5) lN)) (ZC 4 D.addI (eC (.int 1))) (sIf (eOp D.eqO (eOp D.ix (eV 5) (eC (.int 0))) (eV 2)) (sP 3 (Qm (lC (eOp D.ix (eV 5) (eC (.int 1))) (lC (eOp D.ix (eOp D.ix (eV 1) (eV 4)) (eC (.int 0))) lN)))) sNx))) (Qi (eV 3))))
def J4:List D->Option D:=Qx 6 3 QaW
def QbU:EvS:=sQ (Qc (eC (.dic [] [])) (gS 2)) (sQ (Jg (QgE (eV 0) (JF (eV 1) (oAt (eC (.int 1))) oNo)) (Jp [gS 3,gS 4]) (sQ (sIf (eOp D.neO (eK Yv (lC (eV 3) lN)) (eC (.str ""))) (Qec 2 (eK Yv (lC (eV 3) lN)) (eOp D.ix (eOp D.ix (eV 4) (eC (.int 0))) (eC (.int 0)))) sNx) (Jg (QL (eK J4 (lC (eK JH (lC (eV 3) lN)) (lC (eV 4) (lC (eC (.str "mark")) lN))))) (Jp [gS 5,gS 6]) (Qec 2 (eV 5) (eV 6))))) (Qi (eV 2)))
def Yl:List D->Option D:=Qx 7 2 QbU
def QkX:EvS:=sQ (J5 (eK QbF (lC (eV 0) (lC (eV 1) lN)))) (Qi (eK Yu (lC (eV 0) (lC (eV 1) (lC (eV 2) lN)))))
def QhC:List D->Option D:=Qx 3 3 QkX
def Qbr:EvS:=sQ (Qc (eK Yl (lC (eV 0) (lC (eK Yu (lC (eV 0) (lC (eV 1) (lC (eV 2) lN)))) lN))) (gS 3)) (Qi (Q2 1 [3] (QL (eK Z4 (lC (eV 0) lN))) (gS 0) (eC (.bl true)) (eK Qax (lC (eOp D.dget (eV 1) (eV 0)) lN))))
def ZQ:List D->Option D:=Qx 4 3 Qbr
def QfB:EvS:=sQ (Qc (eV 2) (gS 3)) (sQ (Qc (eK ZQ (lC (eV 0) (lC (eV 1) (lC (eV 3) lN)))) (gS 4)) (sQ (QpS (eOp D.neO (eV 4) (eV 3)) (sQ (Qc (eV 4) (gS 3)) (Qc (eK ZQ (lC (eV 0) (lC (eV 1) (lC (eV 3) lN)))) (gS 4)))) (Qi (eV 3))))
def Qc5:List D->Option D:=Qx 5 3 QfB
def QiU:EvS:=sQ (J5 (eK QbF (lC (eV 0) (lC (eV 1) lN)))) (Qi (eK Qc5 (lC (eV 0) (lC (eV 1) (lC (eOp D.mulA (Qg (lC (eC (.int 1)) lN)) (eUn D.len (eK Z4 (lC (eV 0) lN)))) lN)))))
def QdS:List D->Option D:=Qx 2 2 QiU
def Qdr:EvS:=Qi (eK Yu (lC (eV 0) (lC (eV 1) (lC (eK QdS (lC (eV 0) (lC (eV 1) lN))) lN))))
def V7:List D->Option D:=Qx 2 2 Qdr
def QaT:EvS:=sIf (eOr (eOp D.eqO (eUn D.len (eV 0)) (eC (.int 0))) (eOp D.neO (eOp D.ix (eV 0) (eUn D.neg (eC (.int 1)))) (eV 1))) (sP 0 (eV 1)) sNx
def Qb5:List D->Option D:=QrQ QaT
def QiV:EvS:=sQ (Qc (eK V7 (lC (eV 0) (lC (eV 1) lN))) (gS 2)) (sQ (Qc (eC (.dic [] [])) (gS 3)) (sQ (Qkr 3 (Qac (QgE (eV 0) (JF (eV 2) (oAt (eC (.int 1))) oNo)) (Jp [gS 4,gS 5]) (Qac (QL (eK J4 (lC (eK JH (lC (eV 4) lN)) (lC (eV 5) (lC (eC (.str "key")) lN))))) (Jp [gS 6,gS 7]) (Qbx 6 7)))) (Qi (Q2 1 [3] (QL (eUn D.sortK (eV 3))) (gS 0) (eC (.bl true)) (Qm (lC (eV 0) (lC (eOp D.dget (eV 1) (eV 0)) lN)))))))
def Qgc:List D->Option D:=Qx 8 2 QiV
def QeM:EvS:=sQ (sIf (eOp D.lt (eV 1) (eUn D.len (eV 0))) (Qi (eOp D.ix (eV 0) (eV 1))) sNx) (Qi (eC (.int 0)))
def Jm:List D->Option D:=Qx 2 2 QeM
def Qg5:EvS:=Qi (QM (JO "int" (eV 0)) (Ja (JO "bool" (eV 0))))
def Qek:List D->Option D:=Qx 1 1 Qg5
def QkZ:EvS:=sQ (Qc (eOp D.mod (eOp D.mulA (eOp D.add (eOp D.add (eOp D.mod (eV 0) (eC (.int 2147483647))) (eOp D.mulA (eOp D.mulA (eV 1) (eV 1)) (eC (.int 7919)))) (eC (.int 104729))) (eC (.int 48271))) (eC (.int 2147483647))) (gS 2)) (Qi (eOp D.mod (eOp D.add (eOp D.mulA (eV 2) (eV 2)) (eOp D.mulA (eC (.int 69621)) (eV 1))) (eC (.int 2147483629))))
def YL:List D->Option D:=Qx 3 2 QkZ
def QlO:EvS:=sQ (Qc (eC (.str "abcdefghijkl")) (gS 1)) (Qi (eOp D.add (eOp D.add (eOp D.add (JF (eC (.str "xxx")) oNo (oAt (eOp D.mod (eOp D.mulA (eV 0) (eC (.int 7))) (eC (.int 4))))) (eOp D.ix (eV 1) (eOp D.mod (eOp D.fdiv (eV 0) (eC (.int 12))) (eC (.int 12))))) (eOp D.ix (eV 1) (eOp D.mod (eV 0) (eC (.int 12))))) (JF (eC (.str "yy")) oNo (oAt (eOp D.mod (eOp D.mulA (eV 0) (eC (.int 5))) (eC (.int 3)))))))
def Qbc:List D->Option D:=Qx 2 1 QlO
def QfD:EvS:=sQ (Qc (eC (.int 10)) (gS 2)) (sQ (Jg (Vs (eOp D.mod (eOp D.fdiv (eV 1) (eC (.int 97))) (eC (.int 4)))) (gS 3) (Qc (eOp D.mulA (eV 2) (eC (.int 10))) (gS 2))) (sQ (sIf (eOp D.eqO (eOp D.mod (eOp D.fdiv (eV 1) (eC (.int 97))) (eC (.int 8))) (eC (.int 7))) (Qc (eOp D.pow (eC (.int 10)) (eC (.int 30))) (gS 2)) sNx) (Qi (eOp D.ix (Qg (lC (eOp D.add (eC (.int 1)) (eOp D.mod (eOp D.fdiv (eV 1) (eC (.int 16))) (eC (.int 3)))) (lC (eOp D.sub (eOp D.sub (eV 2) (eC (.int 1))) (eOp D.mod (eOp D.fdiv (eV 1) (eC (.int 16))) (eC (.int 5)))) (lC (eOp D.add (eC (.int 1)) (eOp D.mod (eV 0) (eOp D.pow (eC (.int 10)) (eC (.int 39))))) lN)))) (eOp D.mod (eOp D.fdiv (eV 1) (eC (.int 997))) (eC (.int 3)))))))
def Qc6:List D->Option D:=Qx 4 2 QfD
def Qg6:EvS:=sQ (Qc (eC (.str "!\"#$&'()*+,-./0123456789:;<=>?@ABCDEFGHIJKLMNOPQRSTUVWXYZ[\\]^_`")) (gS 3)) (sQ (Qc (eOp D.add (eV 3) (eC (.str "abcdefghijklmnopqrstuvwxyz{}~|"))) (gS 3)) (sQ (Qc (eC (.str "")) (gS 4)) (sQ (Jg (Vs (eV 1)) (gS 5) (sQ (Qc (eOp D.add (eOp D.add (eOp D.fdiv (eV 0) (eC (.int 7))) (eOp D.mulA (eV 5) (eOp D.add (eC (.int 1)) (eOp D.mod (eV 0) (eC (.int 13)))))) (eOp D.mulA (eV 5) (eV 5))) (gS 6)) (sQ (Qc (eOp D.ix (eV 3) (eOp D.mod (eV 6) (eOp D.add (eOp D.sub (eUn D.len (eV 3)) (eC (.int 1))) (eV 2)))) (gS 7)) (sQ (sIf (QM (eOp D.eqO (eV 2) (eC (.int 1))) (eOp D.eqO (eOp D.mod (eOp D.add (eOp D.fdiv (eV 0) (eC (.int 3))) (eV 5)) (eC (.int 4))) (eC (.int 0)))) (Qc (eC (.str " ")) (gS 7)) sNx) (Qc (eOp D.add (eV 4) (eV 7)) (gS 4)))))) (Qi (eV 4)))))
def Y3:List D->Option D:=Qx 8 3 Qg6
def QiZ:EvS:=sQ (Qc (eK YL (lC (eV 0) (lC (eOp D.add (eV 1) (eC (.int 20))) lN))) (gS 2)) (sQ (Qc (eOp D.mod (eV 2) (eC (.int 17))) (gS 3)) (sQ (Qc (eOp D.add (eC (.int 1)) (eOp D.mod (eOp D.fdiv (eV 2) (eC (.int 17))) (eOp D.ix (Qg (lC (eC (.int 11)) (lC (eC (.int 40)) lN))) (eUn D.intB (eOp D.eqO (eOp D.mod (eOp D.fdiv (eV 2) (eC (.int 187))) (eC (.int 9))) (eC (.int 4))))))) (gS 4)) (sQ (Qc (eOp D.add (eC (.int 1)) (eOp D.mod (eOp D.fdiv (eV 2) (eC (.int 97))) (eOp D.ix (Qg (lC (eC (.int 4)) (lC (eC (.int 30)) lN))) (eUn D.intB (eOp D.eqO (eOp D.mod (eOp D.fdiv (eV 2) (eC (.int 1009))) (eC (.int 11))) (eC (.int 5))))))) (gS 5)) (sQ (Qc (eK Y3 (lC (eOp D.fdiv (eV 2) (eC (.int 17))) (lC (eV 4) (lC (eC (.int 1)) lN)))) (gS 6)) (sQ (Qc (eK Y3 (lC (eOp D.fdiv (eV 2) (eC (.int 19))) (lC (eV 4) (lC (eC (.int 0)) lN)))) (gS 7)) (sQ (Qc (eK Qbc (lC (eV 1) lN)) (gS 8)) (sQ (Qc (eV 8) (gS 9)) (sQ (sIf (eOp D.eqO (eOp D.mod (eOp D.fdiv (eV 2) (eC (.int 1009))) (eC (.int 2))) (eC (.int 0))) (Qc (eC (.str "")) (gS 9)) sNx) (sQ (sIf (eOp D.eqO (eV 3) (eC (.int 0))) (Qi (Qm (lC (eC (.str "chapter")) (lC (eOp D.add (eOp D.ix (eV 7) (eC (.int 0))) (eUn D.strip (eV 6))) (lC (eV 9) lN))))) sNx) (sQ (sIf (eOp D.eqO (eV 3) (eC (.int 1))) (Qi (Qm (lC (eC (.str "heading")) (lC (eOp D.add (eOp D.ix (eV 7) (eC (.int 0))) (eUn D.strip (eV 6))) (lC (eOp D.sub (eV 5) (eC (.int 1))) (lC (eV 9) lN)))))) sNx) (sQ (sIf (eOp D.eqO (eV 3) (eC (.int 2))) (Qi (Qm (lC (eC (.str "table")) (lC (Q2 1 [6,4] (Vs (eV 5)) (gS 0) (eC (.bl true)) (JF (eV 1) oNo (oAt (eOp D.max2 (eC (.int 0)) (eOp D.sub (eV 2) (eV 0)))))) (lC (eV 9) lN))))) sNx) (sQ (sIf (eOp D.eqO (eV 3) (eC (.int 3))) (Qi (Qm (lC (eC (.str "plates")) (lC (eK Qc6 (lC (eV 0) (lC (eV 2) lN))) (lC (eV 9) lN))))) sNx) (sQ (sIf (eOp D.eqO (eV 3) (eC (.int 4))) (Qi (Qm (lC (eC (.str "break")) (lC (eC (.str "")) (lC (eC (.str "")) lN))))) sNx) (sQ (sIf (eOp D.lt (eV 3) (eC (.int 7))) (Qi (Qm (lC (eC (.str "mark")) (lC (eV 8) lN)))) sNx) (sQ (sIf (eOp D.eqO (eV 3) (eC (.int 7))) (Qi (Qm (lC (eC (.str "key")) (lC (JF (eOp D.mulA (eV 7) (eC (.int 9))) oNo (oAt (eOp D.add (eC (.int 1)) (eOp D.mod (eOp D.fdiv (eV 2) (eC (.int 97))) (eC (.int 80)))))) lN)))) sNx) (sQ (sIf (eOp D.lt (eV 3) (eC (.int 12))) (Qi (Qm (lC (eC (.str "ref")) (lC (eC (.str "")) (lC (JF (eV 7) oNo (oAt (eOp D.mod (eOp D.fdiv (eV 2) (eC (.int 97))) (eC (.int 3))))) (lC (eK Y3 (lC (eOp D.fdiv (eV 2) (eC (.int 23))) (lC (eOp D.mod (eOp D.fdiv (eV 2) (eC (.int 291))) (eC (.int 3))) (lC (eC (.int 0)) lN)))) lN)))))) sNx) (sQ (sIf (eOp D.eqO (eV 3) (eC (.int 12))) (Qi (Qm (lC (eC (.str "word")) (lC (eV 7) (lC (Q2 1 [6] (Vs (eV 5)) (gS 0) (eC (.bl true)) (JF (eV 1) (oAt (eV 0)) oNo)) lN))))) sNx) (Qi (Qm (lC (eC (.str "word")) (lC (eV 7) (lC (Qg lN) lN))))))))))))))))))))))
def Qat:List D->Option D:=Qx 10 2 QiZ
def QeK:EvS:=sQ (Qc (Qg lN) (gS 2)) (sQ (Jg (QL (eV 0)) (gS 3) (sIf (eOp D.eqO (eOp D.ix (eV 3) (eC (.int 0))) (eC (.str "mark"))) (sP 2 (eOp D.ix (eV 3) (eC (.int 1)))) (sIf (QM (eOp D.notInO (eOp D.ix (eV 3) (eC (.int 0))) (Qg (lC (eC (.str "break")) (lC (eC (.str "word")) (lC (eC (.str "key")) (lC (eC (.str "ref")) lN)))))) (eOp D.neO (eOp D.ix (eV 3) (eUn D.neg (eC (.int 1)))) (eC (.str "")))) (sP 2 (eOp D.ix (eV 3) (eUn D.neg (eC (.int 1))))) sNx))) (sQ (Qc (Qg lN) (gS 4)) (sQ (Jg (Qbv (eV 0)) (Jp [gS 5,gS 3]) (sIf (QM (eOp D.eqO (eOp D.ix (eV 3) (eC (.int 0))) (eC (.str "ref"))) (eOp D.eqO (eV 2) (Qg lN))) (sP 4 (Qm (lC (eC (.str "word")) (lC (eC (.str "lost")) (lC (Qg lN) lN))))) (sIf (eOp D.eqO (eOp D.ix (eV 3) (eC (.int 0))) (eC (.str "ref"))) (sQ (Qc (eOp D.ix (eV 2) (eOp D.mod (eK YL (lC (eOp D.ix (eV 1) (eV 5)) (lC (eOp D.add (eV 5) (eC (.int 90))) lN))) (eUn D.len (eV 2)))) (gS 6)) (sP 4 (Qm (lC (eC (.str "ref")) (lC (eV 6) (lC (eOp D.ix (eV 3) (eC (.int 2))) (lC (eOp D.ix (eV 3) (eC (.int 3))) lN))))))) (sP 4 (eV 3))))) (Qi (eV 4)))))
def Qb6:List D->Option D:=Qx 7 2 QeK
def QeL:EvS:=sQ (Qc (Qg lN) (gS 1)) (sQ (Qc (Qg lN) (gS 2)) (sQ (Jg (QL (eOp D.add (eV 0) (Qg (lC (Qm (lC (eC (.str "end")) (lC (eC (.str "")) (lC (eC (.str "")) lN)))) lN)))) (gS 3) (sQ (sIf (eOp D.inO (eOp D.ix (eV 3) (eC (.int 0))) (Qg (lC (eC (.str "mark")) (lC (eC (.str "key")) (lC (eC (.str "ref")) (lC (eC (.str "word")) lN)))))) (sQ (sP 2 (eV 3)) Yb) sNx) (sQ (sIf (QM (eOp D.neO (eV 2) (Qg lN)) (eOp D.inO (eOp D.ix (eOp D.ix (eV 2) (eUn D.neg (eC (.int 1)))) (eC (.int 0))) (Qg (lC (eC (.str "mark")) (lC (eC (.str "key")) lN))))) (sP 2 (Qm (lC (eC (.str "word")) (lC (eC (.str "end")) (lC (Qg lN) lN))))) sNx) (sQ (sIf (eOr (eOp D.neO (eV 2) (Qg lN)) (eOp D.eqO (eOp D.ix (eV 3) (eC (.int 0))) (eC (.str "break")))) (sP 1 (Qm (lC (eC (.str "para")) (lC (eV 2) lN)))) sNx) (sQ (Qc (Qg lN) (gS 2)) (sIf (eOp D.notInO (eOp D.ix (eV 3) (eC (.int 0))) (Qg (lC (eC (.str "break")) (lC (eC (.str "end")) lN)))) (sP 1 (eV 3)) sNx)))))) (Qi (eV 1))))
def Vb:List D->Option D:=Qx 4 1 QeL
def QiX:EvS:=sQ (sIf (eOr (eOp D.ix (eV 1) (eC (.int 3))) (eOp D.neO (eOp D.mod (eK Jm (lC (eV 0) (lC (eC (.int 4)) lN))) (eC (.int 3))) (eC (.int 1)))) (Qi (Qg lN)) sNx) (sQ (Qc (eOp D.add (eC (.int 1)) (eOp D.mod (eK YL (lC (eK Jm (lC (eV 0) (lC (eC (.int 4)) lN))) (lC (eC (.int 19)) lN))) (eC (.int 6)))) (gS 2)) (sQ (Qc (eC (.int 1)) (gS 3)) (sQ (Jg (Vs (eV 2)) (gS 4) (Qc (eOp D.mulA (eV 3) (eC (.int 10))) (gS 3))) (sQ (Qc (Qg (lC (Qm (lC (eC (.str "word")) (lC (eOp D.mulA (eC (.str "w")) (eOp D.max2 (eC (.int 1)) (eOp D.sub (eOp D.sub (eOp D.ix (eV 1) (eC (.int 0))) (eC (.int 1))) (eV 2)))) (lC (Qg lN) lN)))) (lC (Qm (lC (eC (.str "mark")) (lC (eC (.str "z")) lN))) (lC (Qm (lC (eC (.str "ref")) (lC (eC (.str "z")) (lC (eC (.str "")) (lC (eC (.str "")) lN))))) lN)))) (gS 5)) (Qi (Qg (lC (Qm (lC (eC (.str "plates")) (lC (eOp D.sub (eV 3) (eC (.int 2))) (lC (eC (.str "")) lN)))) (lC (Qm (lC (eC (.str "table")) (lC (Q2 1 [] (Vs (eOp D.sub (eOp D.ix (eV 1) (eC (.int 1))) (eC (.int 1)))) (gS 0) (eC (.bl true)) (eC (.str ""))) (lC (eC (.str "")) lN)))) (lC (Qm (lC (eC (.str "para")) (lC (eV 5) lN))) lN)))))))))
def QdU:List D->Option D:=Qx 6 2 QiX
def Qg8:EvS:=sQ (Qc (eC (.int 4)) (gS 2)) (sQ (Qc (eC (.int 2)) (gS 3)) (sQ (Jg (QL (eV 0)) (gS 4) (sQ (sIf (eOr (eOp D.eqO (eOp D.ix (eV 4) (eC (.int 0))) (eC (.str "chapter"))) (eOp D.eqO (eOp D.ix (eV 4) (eC (.int 0))) (eC (.str "heading")))) (Qc (eOp D.max2 (eV 2) (eOp D.add (eOp D.add (eUn D.len (eOp D.ix (eV 4) (eC (.int 1)))) (eC (.int 2))) (eV 1))) (gS 2)) sNx) (sQ (sIf (eOp D.eqO (eOp D.ix (eV 4) (eC (.int 0))) (eC (.str "heading"))) (Qc (eOp D.max2 (eV 3) (eOp D.add (eOp D.ix (eV 4) (eC (.int 2))) (eC (.int 1)))) (gS 3)) sNx) (sQ (sIf (eOp D.eqO (eOp D.ix (eV 4) (eC (.int 0))) (eC (.str "table"))) (sQ (Qc (eOp D.max2 (eV 3) (eUn D.len (eOp D.ix (eV 4) (eC (.int 1))))) (gS 3)) (Qc (eUn D.maxL (eOp D.add (Qg (lC (eV 2) lN)) (Q2 1 [] (QL (eOp D.ix (eV 4) (eC (.int 1)))) (gS 0) (eC (.bl true)) (eUn D.len (eV 0))))) (gS 2))) sNx) (sIf (eOp D.eqO (eOp D.ix (eV 4) (eC (.int 0))) (eC (.str "para"))) (sQ (Qc (eUn D.maxL (eOp D.add (Qg (lC (eV 2) lN)) (Q2 1 [1] (QL (eOp D.ix (eV 4) (eC (.int 1)))) (gS 0) (eOp D.eqO (eOp D.ix (eV 0) (eC (.int 0))) (eC (.str "ref"))) (eOp D.add (eOp D.add (eUn D.len (eOp D.ix (eV 0) (eC (.int 2)))) (eV 1)) (eUn D.len (eOp D.ix (eV 0) (eC (.int 3)))))))) (gS 2)) (sQ (Qc (eUn D.maxL (eOp D.add (Qg (lC (eV 2) lN)) (Q2 1 [] (QL (eOp D.ix (eV 4) (eC (.int 1)))) (gS 0) (eOp D.eqO (eOp D.ix (eV 0) (eC (.int 0))) (eC (.str "word"))) (eUn D.len (eOp D.ix (eV 0) (eC (.int 1))))))) (gS 2)) (sQ (Qc (Q2 1 [] (QL (eOp D.ix (eV 4) (eC (.int 1)))) (gS 0) (eOp D.eqO (eOp D.ix (eV 0) (eC (.int 0))) (eC (.str "word"))) (eOp D.ix (eV 0) (eC (.int 2)))) (gS 5)) (sQ (Qc (eUn D.maxL (eOp D.add (Qg (lC (eV 3) lN)) (Q2 1 [] (QL (eV 5)) (gS 0) (eC (.bl true)) (eOp D.add (eC (.int 1)) (eUn D.len (eV 0)))))) (gS 3)) (Jg (QL (eV 5)) (gS 6) (Qc (eUn D.maxL (eOp D.add (Qg (lC (eV 2) lN)) (Q2 1 [] (QL (eV 6)) (gS 0) (eC (.bl true)) (eUn D.len (eV 0))))) (gS 2))))))) sNx))))) (Qi (Qm (lC (eV 2) (lC (eV 3) lN))))))
def QcG:List D->Option D:=Qx 7 2 Qg8
def QiW:EvS:=sQ (Qc (eC (.int 3)) (gS 2)) (sQ (Jg (QL (eV 0)) (gS 3) (sQ (Qc (eOp D.add (eV 2) (eC (.int 2))) (gS 2)) (sQ (sIf (QM (eV 1) (eOr (eOp D.eqO (eOp D.ix (eV 3) (eC (.int 0))) (eC (.str "chapter"))) (eOp D.eqO (eOp D.ix (eV 3) (eC (.int 0))) (eC (.str "heading"))))) (Qc (eOp D.add (eV 2) (eC (.int 2))) (gS 2)) sNx) (sQ (sIf (eOp D.eqO (eOp D.ix (eV 3) (eC (.int 0))) (eC (.str "plates"))) (Qc (eOp D.add (eV 2) (eOp D.ix (eV 3) (eC (.int 1)))) (gS 2)) sNx) (sIf (eOp D.eqO (eOp D.ix (eV 3) (eC (.int 0))) (eC (.str "para"))) (Qc (eOp D.add (eV 2) (eOp D.mulA (eC (.int 2)) (eUn D.len (Q2 1 [] (QL (eOp D.ix (eV 3) (eC (.int 1)))) (gS 0) (eOr (eOp D.eqO (eOp D.ix (eV 0) (eC (.int 0))) (eC (.str "word"))) (eOp D.eqO (eOp D.ix (eV 0) (eC (.int 0))) (eC (.str "ref")))) (eV 0))))) (gS 2)) sNx))))) (Qi (eV 2)))
def QdT:List D->Option D:=Qx 4 2 QiW
def Qg9:EvS:=sQ (Qc (eOp D.add (JF (eV 0) oNo (oAt (eC (.int 63)))) (Qg (lC (eC (.int 7)) lN))) (gS 1)) (sQ (Qc (Q2 1 [1] (Vs (eOp D.mod (eK YL (lC (eK Jm (lC (eV 0) (lC (eC (.int 5)) lN))) (lC (eC (.int 29)) lN))) (eC (.int 35)))) (gS 0) (eC (.bl true)) (eOp D.ix (eV 1) (eOp D.mod (eV 0) (eUn D.len (eV 1))))) (gS 2)) (sQ (Qc (eK Vb (lC (eK Qb6 (lC (Q2 2 [] (Qbv (eV 2)) (Jp [gS 0,gS 1]) (eC (.bl true)) (eK Qat (lC (eV 1) (lC (eV 0) lN)))) (lC (eV 2) lN))) lN)) (gS 3)) (sQ (Qc (eOp D.eqO (eOp D.mod (eK Jm (lC (eV 0) (lC (eC (.int 3)) lN))) (eC (.int 2))) (eC (.int 1))) (gS 4)) (sQ (Qc (eK QdU (lC (eV 0) (lC (Qm (lC (eC (.int 4)) (lC (eC (.int 2)) (lC (eC (.bl false)) (lC (eV 4) lN))))) lN))) (gS 5)) (sQ (Qc (eUn D.len (eUn D.strI (eK QdT (lC (eOp D.add (eV 5) (eV 3)) (lC (eV 4) lN))))) (gS 6)) (sQ (Qc (eK QcG (lC (eOp D.add (eV 3) (eV 5)) (lC (eV 6) lN))) (Jp [gS 7,gS 8])) (sQ (sIf (eOp D.neO (eV 5) (Qg lN)) (Qc (eOp D.max2 (eV 7) (eOp D.add (eV 6) (eC (.int 2)))) (gS 7)) sNx) (sQ (Qc (eOp D.max2 (eV 7) (eOp D.add (eC (.int 4)) (eOp D.mod (eK YL (lC (eK Jm (lC (eV 0) (lC (eC (.int 0)) lN))) (lC (eC (.int 1)) lN))) (eC (.int 30))))) (gS 9)) (sQ (Qc (eOp D.max2 (eV 8) (eOp D.add (eC (.int 2)) (eOp D.mod (eK YL (lC (eK Jm (lC (eV 0) (lC (eC (.int 1)) lN))) (lC (eC (.int 2)) lN))) (eC (.int 5))))) (gS 10)) (sQ (sIf (eOp D.eqO (eOp D.mod (eK Jm (lC (eV 0) (lC (eC (.int 1)) lN))) (eC (.int 5))) (eC (.int 1))) (Qc (eOp D.max2 (eV 8) (eOp D.add (eC (.int 2)) (eOp D.mod (eK YL (lC (eK Jm (lC (eV 0) (lC (eC (.int 1)) lN))) (lC (eC (.int 4)) lN))) (eC (.int 59))))) (gS 10)) sNx) (sQ (Qc (Qm (lC (eV 9) (lC (eV 10) (lC (eOp D.eqO (eOp D.mod (eK Jm (lC (eV 0) (lC (eC (.int 2)) lN))) (eC (.int 2))) (eC (.int 1))) (lC (eV 4) lN))))) (gS 11)) (Qi (Qm (lC (eOp D.add (eK QdU (lC (eV 0) (lC (eV 11) lN))) (eV 3)) (lC (eV 11) (lC (eV 6) lN))))))))))))))))
def QcH:List D->Option D:=Qx 12 1 Qg9
def QiY:EvS:=sQ (Qc (Qg lN) (gS 1)) (sQ (Jg (QL (eV 0)) (gS 2) (sIf (eOp D.eqO (eOp D.ix (eV 2) (eC (.int 0))) (eC (.str "para"))) (sQ (Qc (Qg lN) (gS 3)) (sQ (Jg (QL (eOp D.ix (eV 2) (eC (.int 1)))) (gS 4) (sIf (eOp D.eqO (eOp D.ix (eV 4) (eC (.int 0))) (eC (.str "word"))) (sP 3 (Qm (lC (eC (.str "word")) (lC (eOp D.ix (eV 4) (eC (.int 1))) (lC (eUn D.listOf (eOp D.ix (eV 4) (eC (.int 2)))) lN))))) (sP 3 (eV 4)))) (sP 1 (Qm (lC (eC (.str "para")) (lC (eV 3) lN)))))) (sIf (eOp D.eqO (eOp D.ix (eV 2) (eC (.int 0))) (eC (.str "table"))) (sP 1 (Qm (lC (eC (.str "table")) (lC (eUn D.listOf (eOp D.ix (eV 2) (eC (.int 1)))) (lC (eOp D.ix (eV 2) (eC (.int 2))) lN))))) (sP 1 (eV 2))))) (Qi (eV 1)))
def Qgd:List D->Option D:=Qx 5 1 QiY
def Qg7:EvS:=sQ (Qc (Qg lN) (gS 2)) (sQ (Jg (Vs (eUn D.len (eV 0))) (gS 3) (sIf (eOp D.eqO (eOp D.ix (eOp D.ix (eV 0) (eV 3)) (eC (.int 0))) (eC (.str "para"))) (sQ (Qc (eC (.int 0)) (gS 4)) (Jg (QL (eOp D.ix (eOp D.ix (eV 0) (eV 3)) (eC (.int 1)))) (gS 5) (sQ (sIf (eOp D.eqO (eOp D.ix (eV 5) (eC (.int 0))) (eC (.str "key"))) (sP 2 (Qm (lC (eOp D.ix (eV 5) (eC (.int 1))) (lC (eOp D.ix (eOp D.ix (eOp D.ix (eV 1) (eOp D.add (eV 3) (eC (.int 1)))) (eV 4)) (eC (.int 0))) lN)))) sNx) (sIf (eOr (eOp D.eqO (eOp D.ix (eV 5) (eC (.int 0))) (eC (.str "word"))) (eOp D.eqO (eOp D.ix (eV 5) (eC (.int 0))) (eC (.str "ref")))) (Qc (eOp D.add (eV 4) (eC (.int 1))) (gS 4)) sNx)))) sNx)) (Qi (eV 2)))
def Qel:List D->Option D:=Qx 6 2 Qg7
def Qk0:EvS:=sQ (Qc (Qg lN) (gS 1)) (sQ (Qhv 1 (Qac (QL (eUn D.sortP (eV 0))) (gS 2) (Qe6 1 (QM (eOp D.neO (eV 1) (Qg lN)) (eOp D.eqO (eOp D.ix (eOp D.ix (eV 1) (eUn D.neg (eC (.int 1)))) (eC (.int 0))) (eOp D.ix (eV 2) (eC (.int 0))))) (Qe6 1 (eOp D.neO (eOp D.ix (eOp D.ix (eOp D.ix (eV 1) (eUn D.neg (eC (.int 1)))) (eC (.int 1))) (eUn D.neg (eC (.int 1)))) (eOp D.ix (eV 2) (eC (.int 1)))) (QkH (eOp D.ix (eV 2) (eC (.int 1)))) λe m=>some (e,m)) (Qiv (eOp D.ix (eV 2) (eC (.int 0))) (eOp D.ix (eV 2) (eC (.int 1))))))) (Qi (eV 1)))
def QhD:List D->Option D:=Qx 3 1 Qk0
noncomputable def QoO:EvS:=sQ (Qc (eK QcH (lC (eV 0) lN)) (Jp [gS 1,gS 2,gS 3])) (sQ (Qc (eK QhD (lC (eK Qel (lC (eV 1) (lC (eK QhC (lC (eV 1) (lC (eV 2) (lC (eK QdS (lC (eV 1) (lC (eV 2) lN))) lN)))) lN))) lN)) (gS 4)) (sQ (Qc (eK Qgd (lC (eV 1) lN)) (gS 5)) (sQ (Jg (Vs (eC (.int 2))) (gS 6) (Qks 7 8 Qgc (lC (eV 5) (lC (eV 2) lN)) (eOr (Ja (JO "list" (eV 7))) (eOr (eOp D.neO (eV 7) (eV 4)) (eOp D.neO (eV 5) (eV 1)))) (eOr (Ja (JO "tuple" (eV 8))) (eOr (Ja (JO "str" (eOp D.ix (eV 8) (eC (.int 0))))) (Ja (JO "list" (eOp D.ix (eV 8) (eC (.int 1))))))) (eOp D.neO (Q2 1 [] (QL (eOp D.ix (eV 8) (eC (.int 1)))) (gS 0) (Ja (eK Qek (lC (eV 0) lN))) (eV 0)) (Qg lN)))) (Qi (eC (.bl true))))))
noncomputable def QfY:List D->Option D:=Qx 9 1 QoO
noncomputable def cell(ns:List Int)(k:Nat):Int:=ns.getD k 0
theorem Qcg(ns:List Int)(k:Nat):Jm [.scr ns,.int k]=some (.int (cell ns k)):=by
 unfold Jm QeM;by_cases h:k<ns.length;·simp[QG,JF,ZD,lI,Qx,sD,sQ,sIf,Qi,ZU,Qc,ZC,J5,sNx,YK,Yb,gS,Jp,Zq,eV,eC,eOp,eUn,Ja,QM,eOr,eIf,JR,Qm,Qg,eK,lN,lC,JO,oNo,oAt,ZW,D.len,D.lt,D.le,D.gt,D.ge,D.add,D.sub,D.ix,D.eqO,D.neO,D.cmp,D.cmpN,D.inst,tyD,D.isT,D.intB,D.min2,D.max2,D.neg,D.addI,Qk,JW,JY,JC,QK,QW,JV,JU,Jn,JB,JZ,J0,JD,JE,JX,Q7,JN,Zl,Qr,Qw,Q9,Q6,Q5,QV,D.rng,D.its,D.itsT,QC,ZV,QF,Ji,JQ,Jr,Jj,ixD,h,cell]
 ·simp[QG,JF,ZD,lI,Qx,sD,sQ,sIf,Qi,ZU,Qc,ZC,J5,sNx,YK,Yb,gS,Jp,Zq,eV,eC,eOp,eUn,Ja,QM,eOr,eIf,JR,Qm,Qg,eK,lN,lC,JO,oNo,oAt,ZW,D.len,D.lt,D.le,D.gt,D.ge,D.add,D.sub,D.ix,D.eqO,D.neO,D.cmp,D.cmpN,D.inst,tyD,D.isT,D.intB,D.min2,D.max2,D.neg,D.addI,Qk,JW,JY,JC,QK,QW,JV,JU,Jn,JB,JZ,J0,JD,JE,JX,Q7,JN,Zl,Qr,Qw,Q9,Q6,Q5,QV,D.rng,D.its,D.itsT,QC,ZV,QF,Ji,JQ,Jr,Jj,ixD,h,cell]
noncomputable def mix(c t:Int):Int:=((c%2147483647+t*t*7919+104729)*48271%2147483647*((c%2147483647+t*t*7919+104729)*48271%2147483647)+69621*t)%2147483629
theorem Qp5(c t:Int):0<=mix c t:=emod_nonneg _ (by decide)
theorem Qv9(c t:Int):mix c t<2147483629:=emod_lt_of_pos _ (by decide)
theorem Qcn(c t:Int)(h0:0<=t)(h1:t<=1000):YL [.int c,.int t]=some (.int (mix c t)):=by have e1:D.mul (.int t) (.int t)=some (.int (t*t)):=QfV (by omega);have e2:D.mul (.int (t*t)) (.int 7919)=some (.int (t*t*7919)):=Qky (by decide);have e3:D.mul (.int (c%2147483647+t*t*7919+104729)) (.int 48271)=some (.int ((c%2147483647+t*t*7919+104729)*48271)):=Qky (by decide);have n0:=emod_nonneg ((c%2147483647+t*t*7919+104729)*48271) (show(2147483647:Int)≠0 by decide);have n1:=emod_lt_of_pos ((c%2147483647+t*t*7919+104729)*48271) (show(0:Int)<2147483647 by decide);have e4:D.mul (.int ((c%2147483647+t*t*7919+104729)*48271%2147483647)) (.int ((c%2147483647+t*t*7919+104729)*48271%2147483647))=some (.int _):=QfV ⟨by omega,by omega⟩;have e5:D.mul (.int 69621) (.int t)=some (.int (69621*t)):=QfV (by decide);have m1:D.mod (.int c) (.int 2147483647)=some (.int (c%2147483647)):=Qbt (by decide);have m2:D.mod (.int ((c%2147483647+t*t*7919+104729)*48271)) (.int 2147483647)=some (.int _):=Qbt (by decide);have m3:∀z:Int,D.mod (.int z) (.int 2147483629)=some (.int (z%2147483629)):=λz=>Qbt (by decide);unfold YL QkZ mix;simp[QG,JF,ZD,lI,Qx,sD,sQ,sIf,Qi,ZU,Qc,ZC,J5,sNx,YK,Yb,gS,Jp,Zq,eV,eC,eOp,eUn,Ja,QM,eOr,eIf,JR,Qm,Qg,eK,lN,lC,JO,oNo,oAt,ZW,D.len,D.lt,D.le,D.gt,D.ge,D.add,D.sub,D.ix,D.eqO,D.neO,D.cmp,D.cmpN,D.inst,tyD,D.isT,D.intB,D.min2,D.max2,D.neg,D.addI,Qk,JW,JY,JC,QK,QW,JV,JU,Jn,JB,JZ,J0,JD,JE,JX,Q7,JN,Zl,Qr,Qw,Q9,Q6,Q5,QV,D.rng,D.its,D.itsT,QC,ZV,QF,Ji,JQ,Jr,Jj,e1,e2,e3,e4,e5,m1,m2,m3]
theorem Yc(z:Int){j:Int}(h:0<j):D.mod (.int z) (.int j)=some (.int (z%j)):=Qbt h
theorem Qeg(z:Int){j:Int}(h:0<j):∃x,z%j=x/\0<=x/\x<j:=⟨_,rfl,emod_nonneg z (by omega),emod_lt_of_pos z h⟩
theorem toNat_inj:∀{a b:List Char},a.map Char.toNat=b.map Char.toNat->a=b|[],[],_=>rfl|[],_::_,h=>nomatch h|_::_,[],h=>nomatch h|a::x,b::y,h=>by rw[map_cons,map_cons]at h;obtain⟨h1,h2⟩:=List.cons.inj h;rw[toNat_inj h2,Char.toNat_inj.mp h1]
@[simp]theorem tg(a b:String):(Str.ofString a=Str.ofString b)=(a=b):=propext ⟨λh=>by rw[Str.ofString_eq_byList]at h;unfold Str.ofStringByList at h;have h2:(a.toList.map Char.toNat).toArray=(b.toList.map Char.toNat).toArray:=Str.mk.inj h;exact String.toList_inj.mp (toNat_inj (congrArg Array.toList h2)),λh=>h▸rfl⟩
inductive It where|word(w:Str)(ns:List Str)|ref(l a b:Str)|mark(l:Str)|key(w:Str)
inductive Bk where|chapter(t l:Str)|heading(t:Str)(k:Int)(l:Str)|para(is:List It)|table(rs:List Str)(l:Str)|plates(n:Int)(l:Str)
inductive At where|bk(b:Bk)|it(i:It)|brk|fin
noncomputable def QH(xs:List Str):D:=.lst (xs.map .str)
@[simp]def It.d:It->D|.word w ns=>.tup [.str "word",.str w,QH ns]|.ref l a b=>.tup [.str "ref",.str l,.str a,.str b]|.mark l=>.tup [.str "mark",.str l]|.key w=>.tup [.str "key",.str w]
@[simp]def Bk.d:Bk->D|.chapter t l=>.tup [.str "chapter",.str t,.str l]|.heading t k l=>.tup [.str "heading",.str t,.int k,.str l]|.para is=>.tup [.str "para",.lst (is.map It.d)]|.table rs l=>.tup [.str "table",QH rs,.str l]|.plates n l=>.tup [.str "plates",.int n,.str l]
@[simp]def At.d:At->D|.bk b=>b.d|.it i=>i.d|.brk=>.tup [.str "break",.str "",.str ""]|.fin=>.tup [.str "end",.str "",.str ""]
def bks(bs:List Bk):D:=.lst (bs.map Bk.d)
theorem loopR{α σ:Type}{g:EvG}{b:EvS}(d:α->D)(R:σ->Qj->Prop)(step:σ->α->σ):∀(xs:List α),(∀a∈xs,∀s e,R s e->∃e',((g (d a) e).bind b=some (.nx e')\/(g (d a) e).bind b=some (.ct e'))/\R (step s a) e')->∀s e,R s e->∃e',Yn g b (xs.map d) e=some (.nx e')/\R (xs.foldl step s) e'
 |[],_,s,e,h=>⟨e,rfl,h⟩|a::xs,hb,s,e,h=>by
  obtain⟨e1,h1,r1⟩:=hb a mem_cons_self s e h;obtain⟨e2,h2,r2⟩:=loopR d R step xs (λx hx=>hb x (mem_cons_of_mem _ hx)) _ _ r1;refine⟨e2,?_,r2⟩;show YX ((g (d a) e).bind b) (Yn g b (xs.map d))=_;rcases h1 with h1|h1;·rw[h1];exact h2
  ·rw[h1];exact h2
theorem Qtu{α:Type}{g:EvG}{c el:EvE}(d:α->D)(R:Qj->Prop)(p:α->Bool)(o:α->D):∀(xs:List α),(∀a∈xs,∀e,R e->∃e',g (d a) e=some e'/\R e'/\c e'=some (.bl (p a))/\(p a=true->el e'=some (o a)))->∀e,R e->QaE g c el (xs.map d) e=some ((xs.filter p).map o)|[],_,e,h=>rfl|a::xs,hb,e,h=>by obtain⟨e1,h1,r1,h2,h3⟩:=hb a mem_cons_self e h;have ih:=Qtu d R p o xs (λx hx=>hb x (mem_cons_of_mem _ hx)) _ r1;show(g (d a) e).bind (λe1=>ifO (c e1) ((el e1).bind λx=>(QaE g c el (xs.map d) e1).map λr=>x::r) (QaE g c el (xs.map d) e1))=_;rw[h1];show ifO (c e1) _ _=_;rw[h2,Qk,ih];cases q:p a with|false=>rw[if_neg (by decide),List.filter_cons_of_neg (by simp[q])]|true=>rw[if_pos rfl,h3 q,List.filter_cons_of_pos q];rfl
theorem Qbu{α:Type}{g:EvG}{b:EvS}(d:α->D):∀(xs:List α)(R:Nat->Qj->Prop),(∀i(hi:i<xs.length)e,R i e->∃e',((g (d xs[i]) e).bind b=some (.nx e')\/(g (d xs[i]) e).bind b=some (.ct e'))/\R (i+1) e')->∀e,R 0 e->∃e',Yn g b (xs.map d) e=some (.nx e')/\R xs.length e'
 |[],R,_,e,h=>⟨e,rfl,h⟩|a::xs,R,hb,e,h=>by
  obtain⟨e1,h1,r1⟩:=hb 0 (by simp) e h;obtain⟨e2,h2,r2⟩:=Qbu d xs (λi=>R (i+1)) (λi hi x hx=>hb (i+1) (by simpa using hi) x hx) _ r1;refine⟨e2,?_,r2⟩;show YX ((g (d a) e).bind b) (Yn g b (xs.map d))=_;have gK:(g (d a) e).bind b=some (.nx e1)\/(g (d a) e).bind b=some (.ct e1):=h1;rcases gK with h1|h1;·rw[h1];exact h2
  ·rw[h1];exact h2
theorem Qun{g:EvG}{b:EvS}(n:Nat)(R:Nat->Qj->Prop)(h:∀i,i<n->∀e,R i e->∃e',((g (.int (0+(i:Int))) e).bind b=some (.nx e')\/(g (.int (0+(i:Int))) e).bind b=some (.ct e'))/\R (i+1) e'):∀e,R 0 e->∃e',Yn g b (rD 0 n) e=some (.nx e')/\R n e':=by
 intro e h0;have:=Qbu (g:=g) (b:=b) (λi:Nat=>D.int (0+(i:Int))) (List.range n) R (λi hi e r=>by
  have q:(List.range n)[i]=i:=by simp
  rw[q];exact h i (by simpa using hi) e r) e h0;simpa[rD]using this
theorem st{a k:EvS}{e e1:Qj}{r:Option Fl}(h:a e=some (.nx e1))(hk:k e1=r):sQ a k e=r:=by unfold sQ;rw[h];exact hk
theorem stR{a k:EvS}{e:Qj}{d:D}(h:a e=some (.rt d)):sQ a k e=some (.rt d):=by unfold sQ;rw[h];rfl
theorem stC{a k:EvS}{e e1:Qj}(h:a e=some (.ct e1)):sQ a k e=some (.ct e1):=by unfold sQ;rw[h];rfl
theorem stD{n k:Nat}{b:EvS}{ds:List D}{r:D}(hl:ds.length=k)(h:b (sD n ds)=some (.rt r)):Qx n k b ds=some r:=by unfold Qx;rw[if_pos hl,h];rfl
theorem QoD{it:EvI}{g:EvG}{b k:EvS}{e:Qj}{r:Option Fl}(n:Nat)(R:Nat->Qj->Prop)(hit:it e=some (rD 0 n))(h0:R 0 e)(hb:∀i,i<n->∀e,R i e->∃e',((g (.int (0+(i:Int))) e).bind b=some (.nx e')\/(g (.int (0+(i:Int))) e).bind b=some (.ct e'))/\R (i+1) e')(hk:∀e',R n e'->k e'=r):sQ (Jg it g b) k e=r:=by obtain⟨e',h1,h2⟩:=Qun n R hb e h0;refine st (e1:=e') ?_ (hk e' h2);unfold Jg;rw[hit];exact h1
theorem QaC{α:Type}{it:EvI}{g:EvG}{b k:EvS}{e:Qj}{r:Option Fl}(d:α->D)(xs:List α)(R:Nat->Qj->Prop)(hit:it e=some (xs.map d))(h0:R 0 e)(hb:∀i(hi:i<xs.length)e,R i e->∃e',((g (d xs[i]) e).bind b=some (.nx e')\/(g (d xs[i]) e).bind b=some (.ct e'))/\R (i+1) e')(hk:∀e',R xs.length e'->k e'=r):sQ (Jg it g b) k e=r:=by obtain⟨e',h1,h2⟩:=Qbu d xs R hb e h0;refine st (e1:=e') ?_ (hk e' h2);unfold Jg;rw[hit];exact h1
theorem Qtq{α σ:Type}{it:EvI}{g:EvG}{b:EvS}{e:Qj}(d:α->D)(xs:List α)(R:σ->Qj->Prop)(step:σ->α->σ)(s:σ)(hit:it e=some (xs.map d))(h0:R s e)(hb:∀a∈xs,∀s e,R s e->∃e',((g (d a) e).bind b=some (.nx e')\/(g (d a) e).bind b=some (.ct e'))/\R (step s a) e'):∃e',Jg it g b e=some (.nx e')/\R (xs.foldl step s) e':=by obtain⟨e',h1,h2⟩:=loopR d R step xs hb s e h0;refine⟨e',?_,h2⟩;unfold Jg;rw[hit];exact h1
theorem QpQ{α σ:Type}{it:EvI}{g:EvG}{b k:EvS}{e:Qj}{r:Option Fl}(d:α->D)(xs:List α)(R:σ->Qj->Prop)(step:σ->α->σ)(s:σ)(hit:it e=some (xs.map d))(h0:R s e)(hb:∀a∈xs,∀s e,R s e->∃e',((g (d a) e).bind b=some (.nx e')\/(g (d a) e).bind b=some (.ct e'))/\R (step s a) e')(hk:∀e',R (xs.foldl step s) e'->k e'=r):sQ (Jg it g b) k e=r:=by obtain⟨e',h1,h2⟩:=Qtq d xs R step s hit h0 hb;exact st h1 (hk e' h2)
theorem bnd{g:EvG}{b:EvS}{d:D}{e e1:Qj}{r:Option Fl}(h:g d e=some e1)(hk:b e1=r):(g d e).bind b=r:=by rw[h];exact hk
theorem ret{a:EvE}{e:Qj}{d:D}(h:a e=some d):Qi a e=some (.rt d):=by unfold Qi;rw[h];rfl
theorem exD{β:Type}{dd:β->D}{P:β->Prop}{n k:Nat}{b:EvS}{ds:List D}(hl:ds.length=k)(h:∃x,b (sD n ds)=some (.rt (dd x))/\P x):∃x,Qx n k b ds=some (dd x)/\P x:=by obtain⟨x,h1,h2⟩:=h;exact⟨x,stD hl h1,h2⟩
theorem Vt{β:Type}{dd:β->D}{P:β->Prop}{a k:EvS}{e e1:Qj}(h:a e=some (.nx e1))(hk:∃x,k e1=some (.rt (dd x))/\P x):∃x,sQ a k e=some (.rt (dd x))/\P x:=by obtain⟨x,h1,h2⟩:=hk;exact⟨x,st h h1,h2⟩
theorem Zh{α:Type}{n:Nat}{caps:List Nat}{it:EvI}{g:EvG}{c el:EvE}{e:Qj}(d:α->D)(xs:List α)(R:Qj->Prop)(p:α->Bool)(o:α->D)(hit:it e=some (xs.map d))(hl:xs.length<=lI)(h0:R (Qdi n caps e))(hb:∀a∈xs,∀e,R e->∃e',g (d a) e=some e'/\R e'/\c e'=some (.bl (p a))/\(p a=true->el e'=some (o a))):Q2 n caps it g c el e=some (.lst ((xs.filter p).map o)):=by unfold Q2;rw[hit];show(if(xs.map d).length<=lI then(QaE g c el (xs.map d) (Qdi n caps e)).map D.lst else none)=_;rw[if_pos (by rw[length_map];exact hl),Qtu d R p o xs hb _ h0];rfl
theorem Z8{α:Type}(xs:List α):xs.filter (λ_=>true)=xs:=by simp
theorem orF{a b:EvE}{e:Qj}{r:Option D}(ha:a e=some (.bl false))(hb:b e=r):eOr a b e=r:=by unfold eOr;rw[ha];exact hb
theorem orT{a b:EvE}{e:Qj}(ha:a e=some (.bl true)):eOr a b e=some (.bl true):=by unfold eOr;rw[ha];rfl
theorem YB{a b:EvE}{e:Qj}{r:Option D}(ha:a e=some (.bl true))(hb:b e=r):QM a b e=r:=by unfold QM;rw[ha];exact hb
theorem YW{a b:EvE}{e:Qj}(ha:a e=some (.bl false)):QM a b e=some (.bl false):=by unfold QM;rw[ha];rfl
theorem opE{g:D->D->Option D}{a b:EvE}{e:Qj}{x y:D}{r:Option D}(ha:a e=some x)(hb:b e=some y)(h:g x y=r):eOp g a b e=r:=by unfold eOp;rw[ha,hb];exact h
theorem unE{g:D->Option D}{a:EvE}{e:Qj}{x:D}{r:Option D}(ha:a e=some x)(h:g x=r):eUn g a e=r:=by unfold eUn;rw[ha];exact h
theorem Qci{a:EvE}{e:Qj}{b:Bool}(ha:a e=some (.bl b)):Ja a e=some (.bl (!b)):=by unfold Ja;rw[ha];rfl
theorem QfX{t:String}{a:EvE}{e:Qj}{x:D}{r:Option D}(ha:a e=some x)(h:D.inst t x=r):JO t a e=r:=by unfold JO;rw[ha];exact h
theorem QN{f:List D->Option D}{a:EvE}{e:Qj}{x:D}{r:Option D}(ha:a e=some x)(h:f [x]=r):eK f (lC a lN) e=r:=by unfold eK lC lN;rw[ha];exact h
theorem ZX{f:List D->Option D}{a b:EvE}{e:Qj}{x y:D}{r:Option D}(ha:a e=some x)(hb:b e=some y)(h:f [x,y]=r):eK f (lC a (lC b lN)) e=r:=by unfold eK lC lN;rw[ha,hb];exact h
theorem ZH{f:List D->Option D}{a b c:EvE}{e:Qj}{x y z:D}{r:Option D}(ha:a e=some x)(hb:b e=some y)(hc:c e=some z)(h:f [x,y,z]=r):eK f (lC a (lC b (lC c lN))) e=r:=by unfold eK lC lN;rw[ha,hb,hc];exact h
theorem Qeh{f:List D->Option D}{a b c d:EvE}{e:Qj}{x y z u:D}{r:Option D}(ha:a e=some x)(hb:b e=some y)(hc:c e=some z)(hd:d e=some u)(h:f [x,y,z,u]=r):eK f (lC a (lC b (lC c (lC d lN)))) e=r:=by unfold eK lC lN;rw[ha,hb,hc,hd];exact h
theorem Qal{i:Nat}{a:EvE}{e:Qj}{x d z:D}(hx:eV i e=some x)(ha:a e=some d)(h:D.app x d=some z):sP i a e=some (.nx (e.set i (some z))):=by unfold sP;rw[hx,ha];show(D.app x d).map _=_;rw[h];rfl
theorem asg{a:EvE}{g:EvG}{e e1:Qj}{d:D}(h:a e=some d)(hg:g d e=some e1):Qc a g e=some (.nx e1):=by unfold Qc;rw[h];show(g d e).map _=_;rw[hg];rfl
theorem ifT{c:EvE}{a b:EvS}{e:Qj}{r:Option Fl}(h:c e=some (.bl true))(ha:a e=r):sIf c a b e=r:=by unfold sIf;rw[h];exact ha
theorem ifF{c:EvE}{a b:EvS}{e:Qj}{r:Option Fl}(h:c e=some (.bl false))(ha:b e=r):sIf c a b e=r:=by unfold sIf;rw[h];exact ha
theorem eqS(x y:Str):D.eqO (.str x) (.str y)=some (.bl (decide (x=y))):=by simp[D.eqO,Qw,QF,D.cmp]
theorem Qop{a b c:EvE}{e:Qj}{x y z:D}(ha:a e=some x)(hb:b e=some y)(hc:c e=some z):Qm (lC a (lC b (lC c lN))) e=some (.tup [x,y,z]):=by unfold Qm lC lN;rw[ha,hb,hc];rfl
theorem Qxs{a b:EvE}{e:Qj}{x y:D}(ha:a e=some x)(hb:b e=some y):Qm (lC a (lC b lN)) e=some (.tup [x,y]):=by unfold Qm lC lN;rw[ha,hb];rfl
theorem QrG{a b c d:EvE}{e:Qj}{x y z u:D}(ha:a e=some x)(hb:b e=some y)(hc:c e=some z)(hd:d e=some u):Qm (lC a (lC b (lC c (lC d lN)))) e=some (.tup [x,y,z,u]):=by unfold Qm lC lN;rw[ha,hb,hc,hd];rfl
theorem eqF{x y:Int}(h:x≠y):D.eqO (.int x) (.int y)=some (.bl false):=by simp[D.eqO,Qr,QC,D.cmp,h]
theorem eqT{x y:Int}(h:x=y):D.eqO (.int x) (.int y)=some (.bl true):=by simp[D.eqO,Qr,QC,D.cmp,h]
theorem ltF{x y:Int}(h:¬x<y):D.lt (.int x) (.int y)=some (.bl false):=by show some (D.bl (decide (x<y)))=_;rw[decide_eq_false h]
theorem ltT{x y:Int}(h:x<y):D.lt (.int x) (.int y)=some (.bl true):=by show some (D.bl (decide (x<y)))=_;rw[decide_eq_true h]
theorem Qoz{a:EvE}{lo hi:EvO}{e:Qj}{x:D}{l h:Option Int}{r:Option D}(ha:a e=some x)(hl:lo e=some l)(hh:hi e=some h)(hc:ZD x l h=r):JF a lo hi e=r:=by unfold JF;rw[ha,hl,hh];exact hc
theorem atE{a:EvE}{e:Qj}{i:Int}(ha:a e=some (.int i)):oAt a e=some (some i):=by unfold oAt;rw[ha];rfl
noncomputable def QpM:Option D->Str|some (.str x)=>x|_=>""
noncomputable def Qqa:Option D->Bool|some (.str _)=>true|_=>false
theorem Qnc{o:Option D}(h:Qqa o=true):o=some (.str (QpM o)):=by cases o with|none=>cases h|some d=>cases d<;>first|rfl|cases h
def lab(k:Nat):Str:=QpM (Qbc [.int k])
def Qga(k:Nat):Bool:=Qqa (Qbc [.int k])&&decide (1<=(lab k).length)&&decide ((lab k).length<=7)&&decide (lab k≠"z")
theorem Quw:(List.range 58).all Qga=true:=by decide+kernel
theorem Qlw(k:Nat)(h:k<58):Qga k=true:=List.all_eq_true.mp Quw k (List.mem_range.mpr h)
theorem Qwd(k:Nat)(h:k<58):Qbc [.int k]=some (.str (lab k)):=by have:=Qlw k h;simp only[Qga,and_eq_true]at this;exact Qnc this.1.1.1
theorem Qw5(k:Nat)(h:k<58):lab k≠"z":=by have:=Qlw k h;simp only[Qga,and_eq_true,decide_eq_true_eq]at this;exact this.2
noncomputable def Qkw:List Str->Bool|[]=>true|x::xs=>xs.all (λy=>decide (x≠y))&&Qkw xs
theorem Quv:Qkw ((List.range 58).map lab)=true:=by decide+kernel
theorem VO(z:Int){j:Int}(h:0<j/\j<1073741824):D.fdiv (.int z) (.int j)=some (.int (z/j)):=Qwq h
theorem Qxt(t:Int)(a b c:Option D):∀(ds:List D),∃c',Yn (gS 3) (Qc (eOp D.mulA (eV 2) (eC (.int 10))) (gS 2)) ds [a,b,some (.int t),c]=some (.nx [a,b,some (.int (t*10^ds.length)),c']):=by intro ds;induction ds generalizing t c with|nil=>exact⟨c,by simp[Yn]⟩|cons d ds ih=>obtain⟨c',e⟩:=ih (t*10) (some d);refine⟨c',?_⟩;have m:D.mul (.int t) (.int 10)=some (.int (t*10)):=Qky (by decide);simp[Yn,QG,JF,ZD,lI,Qx,sD,sQ,sIf,Qi,ZU,Qc,ZC,J5,sNx,YK,Yb,gS,Jp,Zq,eV,eC,eOp,eUn,Ja,QM,eOr,eIf,JR,Qm,Qg,eK,lN,lC,JO,oNo,oAt,ZW,D.len,D.lt,D.le,D.gt,D.ge,D.add,D.sub,D.ix,D.eqO,D.neO,D.cmp,D.cmpN,D.inst,tyD,D.isT,D.intB,D.min2,D.max2,D.neg,D.addI,Qk,JW,JY,JC,QK,QW,JV,JU,Jn,JB,JZ,J0,JD,JE,JX,Q7,JN,Zl,Qr,Qw,Q9,Q6,Q5,QV,D.rng,D.its,D.itsT,QC,ZV,QF,Ji,JQ,Jr,Jj,Qlc,m,e];rw[Int.mul_assoc,<-Int.pow_succ']
theorem Qxu(t:Int)(a b c d e:Option D):∀(ds:List D),∃d',Yn (gS 4) (Qc (eOp D.mulA (eV 3) (eC (.int 10))) (gS 3)) ds [a,b,c,some (.int t),d,e]=some (.nx [a,b,c,some (.int (t*10^ds.length)),d',e]):=by intro ds;induction ds generalizing t d with|nil=>exact⟨d,by simp[Yn]⟩|cons x ds ih=>obtain⟨c',q⟩:=ih (t*10) (some x);refine⟨c',?_⟩;have m:D.mul (.int t) (.int 10)=some (.int (t*10)):=Qky (by decide);simp[Yn,QG,JF,ZD,lI,Qx,sD,sQ,sIf,Qi,ZU,Qc,ZC,J5,sNx,YK,Yb,gS,Jp,Zq,eV,eC,eOp,eUn,Ja,QM,eOr,eIf,JR,Qm,Qg,eK,lN,lC,JO,oNo,oAt,ZW,D.len,D.lt,D.le,D.gt,D.ge,D.add,D.sub,D.ix,D.eqO,D.neO,D.cmp,D.cmpN,D.inst,tyD,D.isT,D.intB,D.min2,D.max2,D.neg,D.addI,Qk,JW,JY,JC,QK,QW,JV,JU,Jn,JB,JZ,J0,JD,JE,JX,Q7,JN,Zl,Qr,Qw,Q9,Q6,Q5,QV,D.rng,D.its,D.itsT,QC,ZV,QF,Ji,JQ,Jr,Jj,Qlc,m,q];rw[Int.mul_assoc,<-Int.pow_succ']
theorem Qlh(lo:Int)(n:Nat):(rD lo n).length=n:=by unfold rD;simp
theorem Qvr(n:Nat)(h:n<=3):(10:Int)<=10*10^n/\(10:Int)*10^n<=10^30:=by
 have:n=0\/n=1\/n=2\/n=3:=by omega
 rcases this with z|z|z|z<;>subst z<;>decide
theorem ix3{x y z:D}{i:Int}(h:i=0\/i=1\/i=2):D.ix (.lst [x,y,z]) (.int i)=some (if i=0 then x else if i=1 then y else z):=by rcases h with h|h|h<;>subst h<;>rfl
theorem QxS(x:Int)(h:x<=3):x<=10^39:=by
 have:(3:Int)<=10^39:=by decide
 omega
theorem Qxm(x:Int)(h:x<=10^30):x<=10^39:=by
 have:(10:Int)^30<=10^39:=by decide
 omega
theorem QqK(c n:Int)(hn:0<=n):∃p:Int,Qc6 [.int c,.int n]=some (.int p)/\1<=p/\p<=10^39:=by
 obtain⟨m4,e4,l4,u4⟩:=Qeg (n/97) (show(0:Int)<4 by decide);obtain⟨m3,e3,l3,u3⟩:=Qeg (n/16) (show(0:Int)<3 by decide);obtain⟨m5,e5,l5,u5⟩:=Qeg (n/16) (show(0:Int)<5 by decide);obtain⟨m8,e8,l8,u8⟩:=Qeg (n/97) (show(0:Int)<8 by decide);obtain⟨q3,f3,g3,h3⟩:=Qeg (n/997) (show(0:Int)<3 by decide);obtain⟨mc,ec,lc,uc⟩:=Qeg c (show(0:Int)<10^39 by decide);have gM:c%1000000000000000000000000000000000000000=mc:=ec;have gT:D.pow (.int 10) (.int 39)=some (.int (10^39)):=Qti (by decide);have jk:D.pow (.int 10) (.int 30)=some (.int (10^30)):=Qti (by decide);have jr:D.mod (.int c) (.int (10^39))=some (.int mc):=by rw[<-ec];exact Qbt (by decide)
 have z3:q3=0\/q3=1\/q3=2:=by omega
 have rg:(if m4.natAbs<4611686018427387904 then some (rD 0 m4.toNat)else none)=some (rD 0 m4.toNat):=if_pos (by omega);obtain⟨c',el⟩:=Qxt 10 (some (.int c)) (some (.int n)) none (rD 0 m4.toNat);rw[Qlh]at el;have tl:=Qvr m4.toNat (by omega);obtain⟨T,eT⟩:∃T:Int,10*10^m4.toNat=T:=⟨_,rfl⟩;rw[eT]at el tl;have fin:∀T:Int,10<=T->T<=10^30->∃p:Int,(if q3=0 then D.int (1+m3)else if q3=1 then D.int (T-1-m5)else D.int (1+mc))=.int p/\1<=p/\p<=10^39:=by
  intro T t0 t1;split;·exact⟨_,rfl,by omega,QxS _ (by omega)⟩
  ·split;·exact⟨_,rfl,by omega,Qxm _ (by omega)⟩
   ·exact⟨_,rfl,by omega,by omega⟩
 unfold Qc6 QfD;by_cases h8:m8=7
 ·obtain⟨p,ep,b0,b1⟩:=fin (10^30) (by decide) (by decide);refine⟨p,?_,b0,b1⟩;simp[QG,JF,ZD,lI,Qx,sD,sQ,sIf,Qi,ZU,Qc,ZC,J5,sNx,YK,Yb,gS,Jp,Zq,eV,eC,eOp,eUn,Ja,QM,eOr,eIf,JR,Qm,Qg,eK,lN,lC,JO,oNo,oAt,ZW,D.len,D.lt,D.le,D.gt,D.ge,D.add,D.sub,D.eqO,D.neO,D.cmp,D.cmpN,D.inst,tyD,D.isT,D.intB,D.min2,D.max2,D.neg,D.addI,Qk,JW,JY,JC,QK,QW,JV,JU,Jn,JB,JZ,J0,JD,JE,JX,Q7,JN,Zl,Qr,Qw,Q9,Q6,Q5,QV,D.rng,D.its,D.itsT,QC,ZV,QF,Ji,JQ,Jr,Jj,<-eT,gT,jk,jr,VO,Yc,e4,e3,e5,e8,f3,h8,Jg,Vs,rg,el,ix3 z3,gM];simpa using ep
 ·obtain⟨p,ep,b0,b1⟩:=fin T tl.1 tl.2;refine⟨p,?_,b0,b1⟩;simp[QG,JF,ZD,lI,Qx,sD,sQ,sIf,Qi,ZU,Qc,ZC,J5,sNx,YK,Yb,gS,Jp,Zq,eV,eC,eOp,eUn,Ja,QM,eOr,eIf,JR,Qm,Qg,eK,lN,lC,JO,oNo,oAt,ZW,D.len,D.lt,D.le,D.gt,D.ge,D.add,D.sub,D.eqO,D.neO,D.cmp,D.cmpN,D.inst,tyD,D.isT,D.intB,D.min2,D.max2,D.neg,D.addI,Qk,JW,JY,JC,QK,QW,JV,JU,Jn,JB,JZ,J0,JD,JE,JX,Q7,JN,Zl,Qr,Qw,Q9,Q6,Q5,QV,D.rng,D.its,D.itsT,QC,ZV,QF,Ji,JQ,Jr,Jj,gT,jk,jr,VO,Yc,e4,e3,e5,e8,f3,h8,Jg,Vs,rg,el,ix3 z3,gM];simpa using ep
noncomputable def someS:Str:=Str.ofString "!\"#$&'()*+,-./0123456789:;<=>?@ABCDEFGHIJKLMNOPQRSTUVWXYZ[\\]^_`"++Str.ofString "abcdefghijklmnopqrstuvwxyz{}~|"
theorem Qfo:someS.length=93:=by decide+kernel
theorem Qvx:(Str.ofString "!\"#$&'()*+,-./0123456789:;<=>?@ABCDEFGHIJKLMNOPQRSTUVWXYZ[\\]^_`").length=63:=by decide+kernel
theorem Qvw:(Str.ofString "abcdefghijklmnopqrstuvwxyz{}~|").length=30:=by decide+kernel
noncomputable def QbO(x:Str)(i:Int):Str:=⟨#[x.cps.toList.getD i.toNat 0]⟩
theorem Qlm(x:Str)(i:Int):(QbO x i).length=1:=rfl
theorem ixS{x:Str}{i:Int}(h:0<=i)(h':i<x.length)(hl:x.length<=lI):D.ix (.str x) (.int i)=some (.str (QbO x i)):=by
 have q0:x.length=x.cps.size:=rfl;have q:i.toNat<x.cps.size:=by omega
 show(if x.length<=lI then(ixD x.length i).bind λk=>(x.cps[k]?).map λc=>D.str ⟨#[c]⟩else none)=_;rw[if_pos hl,ixD,if_pos h,if_pos h'];show(x.cps[i.toNat]?).map _=_;rw[Array.getElem?_eq_getElem q];show some (D.str ⟨#[x.cps[i.toNat]]⟩)=_;unfold QbO;rw[getD_eq_getElem?_getD,Array.getElem?_toList,Array.getElem?_eq_getElem q];rfl
theorem QnL(x y:Str):(x++y).length=x.length+y.length:=Array.size_append
theorem QrS{x y:Str}(h:x.length+y.length<=lI):D.add (.str x) (.str y)=some (.str (x++y)):=if_pos h
def sgn(n g:Int)(k:Nat):Str:=if g=1/\(n/3+k)%4=0 then " "else QbO someS ((n/7+k*(1+n%13)+k*k)%(92+g))
theorem Qny(n g:Int)(k:Nat):(sgn n g k).length=1:=by
 unfold sgn;split;·decide+kernel
 ·rfl
def Vw(n g:Int)(s:Nat):Str:=(List.range s).foldl (λx k=>x++sgn n g k) ""
theorem QjF(n g:Int):∀(ks:List Nat)(x:Str),(ks.foldl (λx k=>x++sgn n g k) x).length=x.length+ks.length|[],x=>rfl|k::ks,x=>by show(ks.foldl (λx k=>x++sgn n g k) (x++sgn n g k)).length=_;rw[QjF n g ks,QnL,Qny,length_cons];omega
theorem Qc2(n g:Int)(s:Nat):(Vw n g s).length=s:=by unfold Vw;rw[QjF,length_range];show 0+s=s;omega
theorem QoW(n g:Int):Vw n g 0=Str.ofString "":=by unfold Vw;rw[List.range_zero,List.foldl_nil]
theorem QgL(n g:Int)(s:Nat)(hn:0<=n)(hg:g=0\/g=1)(hs:s<=1000):Y3 [.int n,.int s,.int g]=some (.str (Vw n g s)):=by
 have rg:D.rng (.int s)=some (rD 0 s):=by
  show(if(s:Int).natAbs<4611686018427387904 then some (rD 0 (s:Int).toNat)else none)=_;rw[if_pos (by omega)];rfl
 have a0:D.add (.str (Str.ofString "!\"#$&'()*+,-./0123456789:;<=>?@ABCDEFGHIJKLMNOPQRSTUVWXYZ[\\]^_`")) (.str (Str.ofString "abcdefghijklmnopqrstuvwxyz{}~|"))=some (.str someS):=QrS (by rw[Qvx,Qvw];decide);unfold Y3 Qg6;refine stD rfl ?_;refine st (e1:=[some (.int n),some (.int s),some (.int g),some (.str (Str.ofString "!\"#$&'()*+,-./0123456789:;<=>?@ABCDEFGHIJKLMNOPQRSTUVWXYZ[\\]^_`")),none,none,none,none]) (by simp[sD,sQ,sIf,Qi,Qc,sNx,gS,eV,eC,eOp,eUn,Ja,QM,eOr,Qm,Qg,eK,lN,lC,D.lt,D.sub,D.eqO,D.cmp,Qk,QK,QW,Qr,Qw,QC,QF,QG]) ?_;refine st (e1:=[some (.int n),some (.int s),some (.int g),some (.str someS),none,none,none,none]) (by simp[sD,sQ,sIf,Qi,Qc,sNx,gS,eV,eC,eOp,eUn,Ja,QM,eOr,Qm,Qg,eK,lN,lC,D.lt,D.sub,D.eqO,D.cmp,Qk,QK,QW,Qr,Qw,QC,QF,QG,a0]) ?_;refine st (e1:=[some (.int n),some (.int s),some (.int g),some (.str someS),some (.str (Str.ofString "")),none,none,none]) (by simp[sD,sQ,sIf,Qi,Qc,sNx,gS,eV,eC,eOp,eUn,Ja,QM,eOr,Qm,Qg,eK,lN,lC,D.lt,D.sub,D.eqO,D.cmp,Qk,QK,QW,Qr,Qw,QC,QF,QG]) ?_;refine QoD s (λi e=>∃a b c,e=[some (.int n),some (.int s),some (.int g),some (.str someS),some (.str (Vw n g i)),a,b,c]) (by simp[Vs,eV,rg]) ⟨none,none,none,by rw[QoW]⟩ ?_ ?_
 ·rintro i hi e⟨a,b,c,rfl⟩;obtain⟨j,ej⟩:∃j:Int,(i:Int)=j:=⟨_,rfl⟩;have i0:(0:Int)<=j/\j<1000:=by omega
  have e1:D.mul (.int j) (.int (1+n%13))=some (.int (j*(1+n%13))):=QfV (by omega);have e2:D.mul (.int j) (.int j)=some (.int (j*j)):=QfV (by omega);have e3:D.mod (.int (n/7+j*(1+n%13)+j*j)) (.int (92+g))=some (.int ((n/7+j*(1+n%13)+j*j)%(92+g))):=Qbt (by omega);have e4:D.ix (.str someS) (.int ((n/7+j*(1+n%13)+j*j)%(92+g)))=some (.str (QbO someS ((n/7+j*(1+n%13)+j*j)%(92+g)))):=by have a0:=emod_nonneg (n/7+j*(1+n%13)+j*j) (show(92+g)≠0 by omega);have a1:=emod_lt_of_pos (n/7+j*(1+n%13)+j*j) (show 0<92+g by omega);exact ixS a0 (by rw[Qfo];omega) (by rw[Qfo];decide)
  have e5:D.add (.str (Vw n g i)) (.str (sgn n g i))=some (.str (Vw n g (i+1))):=by
   rw[QrS (by rw[Qc2,Qny];unfold lI;omega)];unfold Vw;rw[List.range_succ,foldl_append];rfl
  have e6:D.len (.str someS)=some (.int 93):=by
   show(if someS.length<=lI then some (D.int someS.length)else none)=_;rw[Qfo];rfl
  have e7:(93:Int)-1+g=92+g:=by omega
  have ai:∀x y:Int,D.add (.int x) (.int y)=some (.int (x+y)):=λ_ _=>rfl;refine⟨[some (.int n),some (.int s),some (.int g),some (.str someS),some (.str (Vw n g (i+1))),some (.int j),some (.int (n/7+j*(1+n%13)+j*j)),some (.str (sgn n g i))],.inl ?_,_,_,_,rfl⟩;rw[ej,Int.zero_add];refine bnd (e1:=[some (.int n),some (.int s),some (.int g),some (.str someS),some (.str (Vw n g i)),some (.int j),b,c]) rfl ?_;refine st (e1:=[some (.int n),some (.int s),some (.int g),some (.str someS),some (.str (Vw n g i)),some (.int j),some (.int (n/7+j*(1+n%13)+j*j)),c]) (by simp[sD,sQ,sIf,Qi,Qc,sNx,gS,eV,eC,eOp,eUn,Ja,QM,eOr,Qm,Qg,eK,lN,lC,D.lt,D.sub,D.eqO,D.cmp,Qk,QK,QW,Qr,Qw,QC,QF,QG,VO,Yc,ai,e1,e2]) ?_;refine st (e1:=[some (.int n),some (.int s),some (.int g),some (.str someS),some (.str (Vw n g i)),some (.int j),some (.int (n/7+j*(1+n%13)+j*j)),some (.str (QbO someS ((n/7+j*(1+n%13)+j*j)%(92+g))))]) (by simp[sD,sQ,sIf,Qi,Qc,sNx,gS,eV,eC,eOp,eUn,Ja,QM,eOr,Qm,Qg,eK,lN,lC,D.lt,D.sub,D.eqO,D.cmp,Qk,QK,QW,Qr,Qw,QC,QF,QG,e6,ai,e7,e3,e4]) ?_;refine st (e1:=[some (.int n),some (.int s),some (.int g),some (.str someS),some (.str (Vw n g i)),some (.int j),some (.int (n/7+j*(1+n%13)+j*j)),some (.str (sgn n g i))]) ?_ (by simp[sD,sQ,sIf,Qi,Qc,sNx,gS,eV,eC,eOp,eUn,Ja,QM,eOr,Qm,Qg,eK,lN,lC,D.lt,D.sub,D.eqO,D.cmp,Qk,QK,QW,Qr,Qw,QC,QF,QG,e5]);unfold sgn;rw[ej];rcases hg with z|z<;>by_cases hc:(n/3+j)%4=0<;>simp[sD,sQ,sIf,Qi,Qc,sNx,gS,eV,eC,eOp,eUn,Ja,QM,eOr,Qm,Qg,eK,lN,lC,D.lt,D.sub,D.eqO,D.cmp,Qk,QK,QW,Qr,Qw,QC,QF,QG,VO,Yc,ai,z,hc]
 ·rintro e⟨a,b,c,rfl⟩;simp[Qi,eV]
theorem QlJ(x:Str)(lo hi:Option Int):(QaA x lo hi).length<=x.length:=by show(Z1 x.cps.toList lo hi).toArray.size<=x.cps.size;rw[size_toArray];unfold Z1;rw[length_take,length_drop];have:x.cps.toList.length=x.cps.size:=length_toList;omega
theorem Qn8(x:Str)(j:Int)(h:0<=j):((QaA x none (some j)).length:Int)=min j x.length:=by obtain⟨k,rfl⟩:=Int.eq_ofNat_of_zero_le h;show((Z1 x.cps.toList none (some (k:Int))).toArray.size:Int)=_;rw[size_toArray];unfold Z1 YA;have:x.cps.toList.length=x.length:=length_toList;rw[length_take,length_drop,this];simp only[];rw[if_neg (Int.not_lt.mpr h),Int.toNat_natCast,Nat.sub_zero,Nat.sub_zero,Nat.min_assoc,min_self];omega
theorem QhH{x:Str}(h:x.length<=lI)(lo hi:Option Int):ZD (.str x) lo hi=some (.str (QaA x lo hi)):=if_pos h
theorem Qr2{x:Str}(h:x.length<=lI):D.strip (.str x)=some (.str (Txt.strip x)):=if_pos h
theorem Qlq(x:Str)(n:Int):(YV x n).length=n.toNat*x.length:=by show(List.replicate n.toNat x.cps.toList).flatten.toArray.size=_;rw[size_toArray,List.length_flatten,List.map_replicate,List.sum_replicate_nat];rfl
theorem QnJ{x:Str}{n:Int}(h:-1073741824<n/\n<1073741824/\x.length*n.toNat<=lI):D.mulA (.str x) (.int n)=some (.str (YV x n)):=if_pos h
def QgF(k:Nat)(l:Str):Prop:=l=""\/l=lab k
def QrY(k:Nat):At->Prop|.brk=>True|.fin=>False|.bk (.chapter t l)=>(1<=t.length/\t.length<=41)/\QgF k l|.bk (.heading t n l)=>(1<=t.length/\t.length<=41)/\(0<=n/\n<=29)/\QgF k l|.bk (.table rs l)=>(1<=rs.length/\rs.length<=30)/\(∀r∈rs,r.length<=40)/\QgF k l|.bk (.plates n l)=>(1<=n/\n<=10^39)/\QgF k l|.bk (.para _)=>False|.it (.mark l)=>l=lab k|.it (.key w)=>1<=w.length/\w.length<=80|.it (.ref l a b)=>l=""/\a.length<=2/\b.length<=2|.it (.word w ns)=>(1<=w.length/\w.length<=40)/\ns.length<=30/\∀r∈ns,r.length<=40
theorem Qus(k:Nat)(p:Prop)[Decidable p]:QgF k (if p then Str.ofString ""else lab k):=by
 by_cases h:p;·rw[if_pos h];exact .inl rfl
 ·rw[if_neg h];exact .inr rfl
theorem Qxg(z:Int){j:Int}(h:0<j):∃x:Nat,z%j=(x:Int)/\(x:Int)<j:=⟨(z%j).toNat,by have:=emod_nonneg z (show j≠0 by omega);omega,by have:=emod_lt_of_pos z h;have:=emod_nonneg z (show j≠0 by omega);omega⟩
theorem ltS{x:Str}{b:Nat}(h:x.length<=b)(hb:b<=lI):x.length<=lI:=le_trans h hb
theorem QvD(n:Int)(h:0<=n/\n<=1000):D.rng (.int n)=some (rD 0 n.toNat):=if_pos (by omega)
theorem Qf6(m:Nat)(h:m<=100000):D.rng (.int m)=some ((List.range m).map λi:Nat=>D.int (0+(i:Int))):=by show(if(m:Int).natAbs<4611686018427387904 then some (rD 0 (m:Int).toNat)else none)=_;rw[if_pos (by omega)];rfl
theorem add_int(x y:Int):D.add (.int x) (.int y)=some (.int (x+y)):=rfl
theorem QhU{a:Nat}(h:a<=1000000):1+a<=lI:=le_trans (Nat.add_le_add_left h 1) (by decide)
theorem lB{a:Nat}(h:a<=1000000):a<=lI:=le_trans h (by decide)
theorem Qoe(c:Int)(k:Nat)(hk:k<58):∃a,Qat [.int c,.int k]=some a.d/\QrY k a:=by
 obtain⟨kk,ek⟩:∃kk:Int,(k:Int)=kk:=⟨_,rfl⟩;obtain⟨n,en⟩:∃n:Int,mix c (kk+20)=n:=⟨_,rfl⟩;have n0:0<=n:=en▸Qp5 _ _;have n1:n<2147483629:=en▸Qv9 _ _;have hm:YL [.int c,.int (kk+20)]=some (.int n):=en▸Qcn c (kk+20) (by omega) (by omega);obtain⟨kd,iG,ju,jt⟩:=Qeg n (show(0:Int)<17 by decide);clear en n1;obtain⟨sz,fg,sz0,sz1⟩:∃sz:Nat,1+n/17%(if decide (n/187%9=4)then(40:Int)else 11)=(sz:Int)/\1<=sz/\sz<=40:=by
  clear hm iG ju jt ek hk;cases decide (n/187%9=4);·exact⟨(1+n/17%11).toNat,by simp;omega,by omega,by omega⟩
  ·exact⟨(1+n/17%40).toNat,by simp;omega,by omega,by omega⟩
 obtain⟨mn,iF,mn0,mn1⟩:∃mn:Int,1+n/97%(if decide (n/1009%11=5)then(30:Int)else 4)=mn/\1<=mn/\mn<=30:=by
  clear hm iG ju jt ek hk;cases decide (n/1009%11=5);·exact⟨(1+n/97%4),by simp,by omega,by omega⟩
  ·exact⟨(1+n/97%30),by simp,by omega,by omega⟩
 have kh:D.mod (.int (n/17)) (.int (if decide (n/187%9=4)then(40:Int)else 11))=some (.int (n/17%(if decide (n/187%9=4)then(40:Int)else 11))):=Qbt (by split<;>omega);have kg:D.mod (.int (n/97)) (.int (if decide (n/1009%11=5)then(30:Int)else 4))=some (.int (n/97%(if decide (n/1009%11=5)then(30:Int)else 4))):=Qbt (by split<;>omega);obtain⟨tx,jO,tl⟩:∃tx,Y3 [.int (n/17),.int sz,.int 1]=some (.str tx)/\tx.length=sz:=⟨_,QgL (n/17) 1 sz (Int.ediv_nonneg n0 (by decide)) (.inr rfl) (by omega),Qc2 _ _ _⟩;obtain⟨wd,jN,wl⟩:∃tx,Y3 [.int (n/19),.int sz,.int 0]=some (.str tx)/\tx.length=sz:=⟨_,QgL (n/19) 0 sz (Int.ediv_nonneg n0 (by decide)) (.inl rfl) (by omega),Qc2 _ _ _⟩;have js:Qbc [.int kk]=some (.str (lab k)):=ek▸Qwd k hk;obtain⟨nm,jQ,gC⟩:∃nm,(if n/1009%2=0 then Str.ofString ""else lab k)=nm/\QgF k nm:=⟨_,rfl,Qus _ _⟩;rw[ek];unfold Qat QiZ;refine exD (dd:=At.d) rfl ?_;refine Vt (e1:=[some (.int c),some (.int kk),some (.int n),none,none,none,none,none,none,none]) (by simp[sD,sQ,sIf,Qi,Qc,sNx,gS,eV,eC,eOp,eUn,Ja,QM,eOr,Qm,Qg,eK,lN,lC,D.lt,D.sub,D.eqO,D.cmp,Qk,QK,QW,Qr,Qw,QC,QF,QG,hm,add_int]) ?_;refine Vt (e1:=[some (.int c),some (.int kk),some (.int n),some (.int kd),none,none,none,none,none,none]) (by simp[sD,sQ,sIf,Qi,Qc,sNx,gS,eV,eC,eOp,eUn,Ja,QM,eOr,Qm,Qg,eK,lN,lC,D.lt,D.sub,D.eqO,D.cmp,Qk,QK,QW,Qr,Qw,QC,QF,QG,Yc,iG]) ?_;refine Vt (e1:=[some (.int c),some (.int kk),some (.int n),some (.int kd),some (.int sz),none,none,none,none,none]) (by by_cases z:n/187%9=4<;>simp[z]at fg<;>simp[QG,JF,ZD,lI,Qx,sD,sQ,sIf,Qi,ZU,Qc,ZC,J5,sNx,YK,Yb,gS,Jp,Zq,eV,eC,eOp,eUn,Ja,QM,eOr,eIf,JR,Qm,Qg,eK,lN,lC,JO,oNo,oAt,ZW,D.len,D.lt,D.le,D.gt,D.ge,D.add,D.sub,D.ix,D.eqO,D.neO,D.cmp,D.cmpN,D.inst,tyD,D.isT,D.intB,D.min2,D.max2,D.neg,D.addI,Qk,JW,JY,JC,QK,QW,JV,JU,Jn,JB,JZ,J0,JD,JE,JX,Q7,JN,Zl,Qr,Qw,Q9,Q6,Q5,QV,D.rng,D.its,D.itsT,QC,ZV,QF,Ji,JQ,Jr,Jj,VO,Yc,z,ixD,fg]) ?_;refine Vt (e1:=[some (.int c),some (.int kk),some (.int n),some (.int kd),some (.int sz),some (.int mn),none,none,none,none]) (by by_cases z:n/1009%11=5<;>simp[z]at iF<;>simp[QG,JF,ZD,lI,Qx,sD,sQ,sIf,Qi,ZU,Qc,ZC,J5,sNx,YK,Yb,gS,Jp,Zq,eV,eC,eOp,eUn,Ja,QM,eOr,eIf,JR,Qm,Qg,eK,lN,lC,JO,oNo,oAt,ZW,D.len,D.lt,D.le,D.gt,D.ge,D.add,D.sub,D.ix,D.eqO,D.neO,D.cmp,D.cmpN,D.inst,tyD,D.isT,D.intB,D.min2,D.max2,D.neg,D.addI,Qk,JW,JY,JC,QK,QW,JV,JU,Jn,JB,JZ,J0,JD,JE,JX,Q7,JN,Zl,Qr,Qw,Q9,Q6,Q5,QV,D.rng,D.its,D.itsT,QC,ZV,QF,Ji,JQ,Jr,Jj,VO,Yc,z,ixD,iF]) ?_;refine Vt (e1:=[some (.int c),some (.int kk),some (.int n),some (.int kd),some (.int sz),some (.int mn),some (.str tx),none,none,none]) (by simp[sD,sQ,sIf,Qi,Qc,sNx,gS,eV,eC,eOp,eUn,Ja,QM,eOr,Qm,Qg,eK,lN,lC,D.lt,D.sub,D.eqO,D.cmp,Qk,QK,QW,Qr,Qw,QC,QF,QG,VO,jO]) ?_;refine Vt (e1:=[some (.int c),some (.int kk),some (.int n),some (.int kd),some (.int sz),some (.int mn),some (.str tx),some (.str wd),none,none]) (by simp[sD,sQ,sIf,Qi,Qc,sNx,gS,eV,eC,eOp,eUn,Ja,QM,eOr,Qm,Qg,eK,lN,lC,D.lt,D.sub,D.eqO,D.cmp,Qk,QK,QW,Qr,Qw,QC,QF,QG,VO,jN]) ?_;refine Vt (e1:=[some (.int c),some (.int kk),some (.int n),some (.int kd),some (.int sz),some (.int mn),some (.str tx),some (.str wd),some (.str (lab k)),none]) (by simp[sD,sQ,sIf,Qi,Qc,sNx,gS,eV,eC,eOp,eUn,Ja,QM,eOr,Qm,Qg,eK,lN,lC,D.lt,D.sub,D.eqO,D.cmp,Qk,QK,QW,Qr,Qw,QC,QF,QG,js]) ?_;refine Vt (e1:=[some (.int c),some (.int kk),some (.int n),some (.int kd),some (.int sz),some (.int mn),some (.str tx),some (.str wd),some (.str (lab k)),some (.str (lab k))]) (by simp[sD,sQ,sIf,Qi,Qc,sNx,gS,eV,eC,eOp,eUn,Ja,QM,eOr,Qm,Qg,eK,lN,lC,D.lt,D.sub,D.eqO,D.cmp,Qk,QK,QW,Qr,Qw,QC,QF,QG]) ?_;refine Vt (e1:=[some (.int c),some (.int kk),some (.int n),some (.int kd),some (.int sz),some (.int mn),some (.str tx),some (.str wd),some (.str (lab k)),some (.str nm)]) (by by_cases z:n/1009%2=0<;>simp[sD,sQ,sIf,Qi,Qc,sNx,gS,eV,eC,eOp,eUn,Ja,QM,eOr,Qm,Qg,eK,lN,lC,D.lt,D.sub,D.eqO,D.cmp,Qk,QK,QW,Qr,Qw,QC,QF,QG,VO,Yc,z,<-jQ]) ?_;clear hm jO jN js kh kg jQ fg iF;have hS:tx.length<=lI:=lB (by omega);have hW:wd.length<=lI:=lB (by omega);have sT:=Qr2 hS;have sL:(Txt.strip tx).length<=40:=le_trans (PyProof.Rows.len_strip tx) (by omega);have o0:D.ix (.str wd) (.int 0)=some (.str (QbO wd 0)):=ixS (by decide) (by omega) hW;have aT:D.add (.str (QbO wd 0)) (.str (Txt.strip tx))=some (.str (QbO wd 0++Txt.strip tx)):=QrS (by rw[Qlm];exact lB (by omega));have lT:(QbO wd 0++Txt.strip tx).length=1+(Txt.strip tx).length:=by rw[QnL,Qlm]
 by_cases z:kd=0;·exact⟨.bk (.chapter (QbO wd 0++Txt.strip tx) nm),stR (ifT (opE rfl rfl (eqT z)) (ret (Qop rfl (opE (opE rfl rfl o0) (unE rfl sT) aT) rfl))),⟨by omega,gC⟩⟩
 refine Vt (ifF (opE rfl rfl (eqF z)) rfl) ?_;by_cases z:kd=1;·exact⟨.bk (.heading (QbO wd 0++Txt.strip tx) (mn-1) nm),stR (ifT (opE rfl rfl (eqT z)) (ret (QrG rfl (opE (opE rfl rfl o0) (unE rfl sT) aT) rfl rfl))),⟨by omega,by omega,gC⟩⟩
 refine Vt (ifF (opE rfl rfl (eqF z)) rfl) ?_;obtain⟨m,em⟩:∃m:Nat,mn=m:=⟨mn.toNat,by omega⟩;by_cases z:kd=2
 ·refine⟨.bk (.table ((List.range m).map λi:Nat=>QaA tx none (some (if(sz:Int)-(0+(i:Int))>0 then(sz:Int)-(0+(i:Int))else 0))) nm),stR (ifT (opE rfl rfl (eqT z)) (ret (Qop rfl ?_ rfl))),⟨by simp;omega,?_,gC⟩⟩
  ·rw[Zh (g:=gS 0) (n:=1) (caps:=[6,4]) (λi:Nat=>D.int (0+(i:Int))) (List.range m) (λe=>∃v,e=[v,some (.str tx),some (.int sz)]) (λ_=>true) (λi:Nat=>.str (QaA tx none (some (if(sz:Int)-(0+(i:Int))>0 then(sz:Int)-(0+(i:Int))else 0)))) (by show D.rng (.int mn)=_;rw[em];exact Qf6 m (by omega)) (lB (by simp;omega)) ⟨none,rfl⟩ (by rintro i hi e⟨v,rfl⟩;exact⟨[some (.int (0+(i:Int))),some (.str tx),some (.int sz)],rfl,⟨_,rfl⟩,rfl,λ_=>Qoz rfl rfl (atE (opE rfl (opE rfl rfl rfl) rfl)) (QhH hS _ _)⟩)];rw[Z8];unfold QH;rw[map_map];rfl
  ·intro r hr;obtain⟨i,_,rfl⟩:=List.mem_map.mp hr;exact le_trans (QlJ _ _ _) (by omega)
 refine Vt (ifF (opE rfl rfl (eqF z)) rfl) ?_;by_cases z:kd=3;·obtain⟨p,ep,p0,p1⟩:=QqK c n n0;exact⟨.bk (.plates p nm),stR (ifT (opE rfl rfl (eqT z)) (ret (Qop rfl (ZX rfl rfl ep) rfl))),⟨⟨p0,p1⟩,gC⟩⟩
 refine Vt (ifF (opE rfl rfl (eqF z)) rfl) ?_;by_cases z:kd=4;·exact⟨.brk,stR (ifT (opE rfl rfl (eqT z)) (ret rfl)),trivial⟩
 refine Vt (ifF (opE rfl rfl (eqF z)) rfl) ?_;by_cases z:kd<7;·exact⟨.it (.mark (lab k)),stR (ifT (opE rfl rfl (ltT z)) (ret rfl)),rfl⟩
 refine Vt (ifF (opE rfl rfl (ltF z)) rfl) ?_;by_cases z:kd=7
 ·have q0:0<=n/97%80/\n/97%80<80:=by omega
  have mw:D.mulA (.str wd) (.int 9)=some (.str (YV wd 9)):=QnJ ⟨by decide,by decide,lB (by show wd.length*9<=_;omega)⟩;have ml:(YV wd 9).length=9*wd.length:=Qlq wd 9;have ch:=Qn8 (YV wd 9) (1+n/97%80) (by omega);have mc:=QhH (x:=YV wd 9) (lB (by omega)) none (some (1+n/97%80));exact⟨.it (.key (QaA (YV wd 9) none (some (1+n/97%80)))),stR (ifT (opE rfl rfl (eqT z)) (ret (Qxs rfl (Qoz (opE rfl rfl mw) rfl (atE (opE rfl (opE (opE rfl rfl (VO n (by decide))) rfl (Yc _ (by decide))) rfl)) mc)))),⟨by omega,by omega⟩⟩
 refine Vt (ifF (opE rfl rfl (eqF z)) rfl) ?_;by_cases z:kd<12
 ·obtain⟨m,em,lm⟩:=Qxg (n/291) (show(0:Int)<3 by decide);obtain⟨w2,e2,l2⟩:∃tx,Y3 [.int (n/23),.int m,.int 0]=some (.str tx)/\tx.length=m:=⟨_,QgL (n/23) 0 m (by omega) (.inl rfl) (by omega),Qc2 _ _ _⟩;have q0:0<=n/97%3/\n/97%3<3:=by omega
  have ch:=Qn8 wd (n/97%3) (by omega);have mc:=QhH hW none (some (n/97%3));exact⟨.it (.ref "" (QaA wd none (some (n/97%3))) w2),stR (ifT (opE rfl rfl (ltT z)) (ret (QrG rfl rfl (Qoz rfl rfl (atE (opE (opE rfl rfl (VO n (by decide))) rfl (Yc _ (by decide)))) mc) (ZH (opE rfl rfl (VO n (by decide))) (opE (opE rfl rfl (VO n (by decide))) rfl ((Yc _ (by decide)).trans (by rw[em]))) rfl e2)))),⟨rfl,by omega,by omega⟩⟩
 refine Vt (ifF (opE rfl rfl (ltF z)) rfl) ?_;by_cases z:kd=12
 ·refine⟨.it (.word wd ((List.range m).map λi:Nat=>QaA tx (some (0+(i:Int))) none)),stR (ifT (opE rfl rfl (eqT z)) (ret (Qop rfl rfl ?_))),⟨by omega,by simp;omega,?_⟩⟩
  ·rw[Zh (g:=gS 0) (n:=1) (caps:=[6]) (λi:Nat=>D.int (0+(i:Int))) (List.range m) (λe=>∃v,e=[v,some (.str tx)]) (λ_=>true) (λi:Nat=>.str (QaA tx (some (0+(i:Int))) none)) (by show D.rng (.int mn)=_;rw[em];exact Qf6 m (by omega)) (lB (by simp;omega)) ⟨none,rfl⟩ (by rintro i hi e⟨v,rfl⟩;exact⟨[some (.int (0+(i:Int))),some (.str tx)],rfl,⟨_,rfl⟩,rfl,λ_=>Qoz rfl (atE rfl) rfl (QhH hS _ _)⟩)];rw[Z8];unfold QH;rw[map_map];rfl
  ·intro r hr;obtain⟨i,_,rfl⟩:=List.mem_map.mp hr;exact le_trans (QlJ _ _ _) (by omega)
 refine Vt (ifF (opE rfl rfl (eqF z)) rfl) ?_;exact⟨.it (.word wd []),ret rfl,⟨by omega,by simp,λr hr=>by cases hr⟩⟩
theorem Y4{α:Type}{f:α->D}{n:Nat}(h:∀a,(f a).dep<=n):∀xs:List α,D.depL (xs.map f)<=n|[]=>by rw[map_nil,Q5];exact zero_le _|x::xs=>by rw[map_cons,QV];exact Nat.max_le.mpr ⟨h x,Y4 h xs⟩
theorem QlE(xs:List Str):(QH xs).dep<=1:=by unfold QH;rw[Q6];exact succ_le_succ (Y4 (λa=>by rw[Qw];exact zero_le _) xs)
theorem Qqh(i:It):i.d.dep<=2:=by cases i with|word w ns=>have:=QlE ns;simp only[It.d,Q9,QV,Q5,Qw];omega|_=>simp[Q9,QV,Q5,Qw]
theorem QuR(is:List It):(D.lst (is.map It.d)).dep<=3:=by rw[Q6];exact succ_le_succ (Y4 Qqh is)
theorem Qqi(b:Bk):b.d.dep<=4:=by cases b with|para is=>have:=QuR is;simp only[Bk.d,Q9,QV,Q5,Qw];omega|table rs l=>have:=QlE rs;simp only[Bk.d,Q9,QV,Q5,Qw];omega|_=>simp[Q9,QV,Q5,Qw,Qr]
theorem QuS(bs:List Bk):(bks bs).dep<=5:=by unfold bks;rw[Q6];exact succ_le_succ (Y4 Qqi bs)
theorem Qqc(x:D)(xs:List D):D.eqL (x::xs) []=some false:=by rw[D.eqL];all_goals simp
theorem Qxe{α:Type}{f:α->D}{n:Nat}(h:∀a,(f a).dep<=n)(hn:n<=39)(xs:List α):D.eqO (.lst (xs.map f)) (.lst [])=some (.bl xs.isEmpty):=by unfold D.eqO;rw[if_pos (by rw[Q6];have:=Y4 h xs;omega),JQ];cases xs with|nil=>rw[map_nil,Jr];rfl|cons x xs=>rw[map_cons,Qqc];rfl
theorem Qkx{α:Type}{f:α->D}{n:Nat}(h:∀a,(f a).dep<=n)(hn:n<=39)(xs:List α):D.neO (.lst (xs.map f)) (.lst [])=some (.bl (!xs.isEmpty)):=by unfold D.neO;rw[if_pos (by rw[Q6];have:=Y4 h xs;omega),JQ];cases xs with|nil=>rw[map_nil,Jr];rfl|cons x xs=>rw[map_cons,Qqc];rfl
theorem V4{α:Type}{f:α->D}{xs:List α}(x:α)(h:xs.length<lI):D.app (.lst (xs.map f)) (f x)=some (.lst ((xs++[x]).map f)):=by show(if(xs.map f).length<lI then some (D.lst (xs.map f++[f x]))else none)=_;rw[if_pos (by rw[length_map];exact h),map_append];rfl
theorem Qwm(l:List D)(x:D):D.ix (.lst (l++[x])) (.int (-1))=some x:=by
 show(ixD (l++[x]).length (-1)).bind (λk=>(l++[x])[k]?)=_;have:ixD (l++[x]).length (-1)=some l.length:=by
  unfold ixD;rw[if_neg (by decide),if_pos (by simp only[length_append,length_cons,length_nil];omega),length_append];congr 1;show((-1:Int)+((l.length+1:Nat):Int)).toNat=_;omega
 rw[this];show(l++[x])[l.length]?=_;simp
theorem QcJ{α:Type}(f:α->D):∀(xs:List α)(n:Nat),VP n (xs.map f)=(xs.zipIdx n).map λp=>D.tup [.int p.2,f p.1]|[],n=>rfl|x::xs,n=>by show D.tup [.int n,f x]::VP (n+1) (xs.map f)=_;rw[QcJ f xs (n+1),List.zipIdx_cons,map_cons]
theorem Zv{a:Nat}(h:a<=1000000):a<lI:=lt_of_le_of_lt h (by decide)
noncomputable def Jx:At->List Str|.it (.mark l)=>[l]|.bk (.chapter _ l)=>if l=""then[]else[l]|.bk (.heading _ _ l)=>if l=""then[]else[l]|.bk (.table _ l)=>if l=""then[]else[l]|.bk (.plates _ l)=>if l=""then[]else[l]|_=>[]
theorem Qph(a:At):(Jx a).length<=1:=by unfold Jx;split<;>first|(split<;>simp)|simp
def Yi(as:List At):List Str:=as.flatMap Jx
theorem Qlv(as:List At):(Yi as).length<=as.length:=by induction as with|nil=>exact le_refl _|cons a as ih=>show((a::as).flatMap Jx).length<=_;rw[flatMap_cons,length_append,length_cons];have:=Qph a;have:(as.flatMap Jx).length<=as.length:=ih;omega
theorem Qq4(as:List At)(i:Nat)(hi:i<as.length):Yi (as.take (i+1))=Yi (as.take i)++Jx as[i]:=by unfold Yi;rw[take_succ_eq_append_getElem hi,flatMap_append];simp
def pt(ls:List Str)(cs:List Int)(i:Nat):At->At|.it (.ref l a b)=>if ls=[]then .it (.word "lost" [])else .it (.ref (ls.getD (mix (cs.getD i 0) (i+90)%ls.length).toNat "") a b)|a=>a
def Jh(cs:List Int)(as:List At):List At:=as.mapIdx λi a=>pt (Yi as) cs i a
noncomputable def AtS:At->Prop|.bk (.para _)=>False|.fin=>False|_=>True
theorem Qd8{α:Type}{f:α->D}(xs:List α)(i:Int)(d:α)(h:0<=i)(h':i<xs.length):D.ix (.lst (xs.map f)) (.int i)=some (f (xs.getD i.toNat d)):=by show(ixD (xs.map f).length i).bind (λk=>(xs.map f)[k]?)=_;unfold ixD;rw[if_pos h,if_pos (by rw[length_map];exact h')];show(xs.map f)[i.toNat]?=_;rw[getElem?_map,getD_eq_getElem?_getD,getElem?_eq_getElem (by omega)];rfl
theorem Qu5{xs:List Str}(x:Str)(h:xs.length<lI):D.app (QH xs) (.str x)=some (QH (xs++[x])):=V4 (f:=D.str) x h
theorem Qas(xs:List Str):D.len (QH xs)=some (.int xs.length):=by show some (D.int (xs.map D.str).length)=_;rw[length_map]
theorem Qws(xs:List Str):D.eqO (QH xs) (.lst [])=some (.bl xs.isEmpty):=Qxe (f:=D.str) (n:=0) (λa=>by rw[Qw];exact le_refl _) (by decide) xs
theorem Qwl(xs:List Str)(i:Int)(h:0<=i)(h':i<xs.length):D.ix (QH xs) (.int i)=some (.str (xs.getD i.toNat "")):=Qd8 (f:=D.str) xs i "" h h'
theorem Qo7(as:List At)(cs:List Int)(hl:as.length=cs.length)(h58:as.length<=100)(hs:∀a∈as,AtS a):Qb6 [.lst (as.map At.d),.lst (cs.map .int)]=some (.lst ((Jh cs as).map At.d)):=by
 unfold Qb6 QeK;refine stD rfl ?_;refine st (e1:=[some (.lst (as.map At.d)),some (.lst (cs.map .int)),some (QH []),none,none,none,none]) (by simp[sD,sQ,sIf,Qi,Qc,sNx,gS,eV,eC,eOp,eUn,Ja,QM,eOr,Qm,Qg,eK,lN,lC,D.lt,D.sub,D.eqO,D.cmp,Qk,QK,QW,Qr,Qw,QC,QF,QG,QH]) ?_;refine QaC At.d as (λi e=>∃v,e=[some (.lst (as.map At.d)),some (.lst (cs.map .int)),some (QH (Yi (as.take i))),v,none,none,none]) rfl ⟨none,rfl⟩ ?_ ?_
 ·rintro i hi e⟨v,rfl⟩;have hb:(Yi (as.take i)).length<lI:=Zv (le_trans (Qlv _) (by rw[length_take];omega));have ha:=hs as[i] (getElem_mem hi);rw[Qq4 as i hi];have ap:=λx=>Qu5 x hb;generalize as[i]=a at*;generalize Yi (as.take i)=ls at*;refine⟨_,.inl ?_,some a.d,rfl⟩;refine bnd (e1:=[some (.lst (as.map At.d)),some (.lst (cs.map .int)),some (QH ls),some a.d,none,none,none]) rfl ?_;have jm:∀x y:Str,D.neO (.str x) (.str y)=some (.bl (decide (x≠y))):=λx y=>by by_cases h:x=y<;>simp[D.neO,Qw,QF,D.cmpN,h]
  have gP:∀(d:D)(t l:Str),D.ix d (.int 0)=some (.str t)->D.ix d (.int (-1))=some (.str l)->t≠"mark"->D.notInO (.str t) (.lst [.str "break",.str "word",.str "key",.str "ref"])=some (.bl true)->sIf (eOp D.eqO (eOp D.ix (eV 3) (eC (.int 0))) (eC (.str "mark"))) (sP 2 (eOp D.ix (eV 3) (eC (.int 1)))) (sIf (QM (eOp D.notInO (eOp D.ix (eV 3) (eC (.int 0))) (Qg (lC (eC (.str "break")) (lC (eC (.str "word")) (lC (eC (.str "key")) (lC (eC (.str "ref")) lN)))))) (eOp D.neO (eOp D.ix (eV 3) (eUn D.neg (eC (.int 1)))) (eC (.str "")))) (sP 2 (eOp D.ix (eV 3) (eUn D.neg (eC (.int 1))))) (sNx)) [some (.lst (as.map At.d)),some (.lst (cs.map .int)),some (QH ls),some d,none,none,none]=some (.nx [some (.lst (as.map At.d)),some (.lst (cs.map .int)),some (QH (ls++if l=""then[]else[l])),some d,none,none,none]):=by
   intro d t l h0 h1 hm h4;refine ifF (opE (opE rfl rfl h0) rfl (by rw[eqS,decide_eq_false hm])) ?_;by_cases z:l="";·rw[if_pos z,append_nil];exact ifF (YB (opE (opE rfl rfl h0) rfl h4) (opE (opE rfl (unE rfl rfl) h1) rfl (by rw[jm,decide_eq_false (λq=>q z)]))) rfl
   ·rw[if_neg z];exact ifT (YB (opE (opE rfl rfl h0) rfl h4) (opE (opE rfl (unE rfl rfl) h1) rfl (by rw[jm,decide_eq_true z]))) (Qal rfl (opE rfl (unE rfl rfl) h1) (ap l))
  have gv:∀(d:D)(t:Str),D.ix d (.int 0)=some (.str t)->t≠"mark"->D.notInO (.str t) (.lst [.str "break",.str "word",.str "key",.str "ref"])=some (.bl false)->sIf (eOp D.eqO (eOp D.ix (eV 3) (eC (.int 0))) (eC (.str "mark"))) (sP 2 (eOp D.ix (eV 3) (eC (.int 1)))) (sIf (QM (eOp D.notInO (eOp D.ix (eV 3) (eC (.int 0))) (Qg (lC (eC (.str "break")) (lC (eC (.str "word")) (lC (eC (.str "key")) (lC (eC (.str "ref")) lN)))))) (eOp D.neO (eOp D.ix (eV 3) (eUn D.neg (eC (.int 1)))) (eC (.str "")))) (sP 2 (eOp D.ix (eV 3) (eUn D.neg (eC (.int 1))))) (sNx)) [some (.lst (as.map At.d)),some (.lst (cs.map .int)),some (QH ls),some d,none,none,none]=some (.nx [some (.lst (as.map At.d)),some (.lst (cs.map .int)),some (QH (ls++[])),some d,none,none,none]):=by intro d t h0 hm h4;rw[append_nil];exact ifF (opE (opE rfl rfl h0) rfl (by rw[eqS,decide_eq_false hm])) (ifF (YW (opE (opE rfl rfl h0) rfl h4)) rfl)
  cases a with
  |bk b=>cases b with
   |para is=>exact ha.elim|chapter t l=>exact gP _ "chapter" l rfl rfl (by simp) (by rfl)|heading t n l=>exact gP _ "heading" l rfl rfl (by simp) (by rfl)|table rs l=>exact gP _ "table" l rfl rfl (by simp) (by rfl)|plates n l=>exact gP _ "plates" l rfl rfl (by simp) (by rfl)
  |it x=>cases x with
   |mark l=>exact ifT (opE (opE (x:=(It.mark l).d) rfl rfl rfl) rfl (by rw[eqS];simp)) (Qal rfl (opE (x:=(It.mark l).d) rfl rfl rfl) (ap l))|word w ns=>exact gv _ "word" rfl (by simp) (by rfl)|key w=>exact gv _ "key" rfl (by simp) (by rfl)|ref l a b=>exact gv _ "ref" rfl (by simp) (by rfl)
  |brk=>exact gv _ "break" rfl (by simp) (by rfl)|fin=>exact ha.elim
 ·rintro e⟨v,rfl⟩;rw[take_length];have hb:(Yi as).length<=as.length:=Qlv as;have iM:∀i(hi:i<as.length)(hp:i<(Jh cs as).length),(Jh cs as)[i]=pt (Yi as) cs i as[i]:=by intro i hi hp;simp only[Jh,List.getElem_mapIdx]
  have iL:(Jh cs as).length=as.length:=by unfold Jh;simp
  generalize Jh cs as=ps at*;generalize Yi as=ls at*;refine st (e1:=[some (.lst (as.map At.d)),some (.lst (cs.map .int)),some (QH ls),v,some (.lst []),none,none]) (by simp[sD,sQ,sIf,Qi,Qc,sNx,gS,eV,eC,eOp,eUn,Ja,QM,eOr,Qm,Qg,eK,lN,lC,D.lt,D.sub,D.eqO,D.cmp,Qk,QK,QW,Qr,Qw,QC,QF,QG]) ?_;refine QaC (λp:At×Nat=>D.tup [.int p.2,p.1.d]) as.zipIdx (λi e=>∃v w x,e=[some (.lst (as.map At.d)),some (.lst (cs.map .int)),some (QH ls),v,some (.lst ((ps.take i).map At.d)),w,x]) (by show some (VP 0 (as.map At.d))=_;rw[QcJ]) ⟨v,none,none,rfl⟩ ?_ ?_
  ·rintro i hi e⟨v,w,x,rfl⟩;have bY:i<as.length:=by simpa using hi
   have jE:i<ps.length:=by omega
   have ei:as.zipIdx[i]=(as[i],i):=by simp
   rw[ei,take_succ_eq_append_getElem jE,iM i bY jE];have ap:∀x:At,D.app (.lst ((ps.take i).map At.d)) x.d=some (.lst ((ps.take i++[x]).map At.d)):=λx=>V4 x (Zv (by rw[length_take];omega));have mx:∃m:Int,mix (cs.getD i 0) ((i:Int)+90)=m/\YL [.int (cs.getD i 0),.int ((i:Int)+90)]=some (.int m)/\0<=m:=⟨_,rfl,Qcn _ _ (by omega) (by omega),Qp5 _ _⟩;have cx:D.ix (.lst (cs.map .int)) (.int i)=some (.int (cs.getD i 0)):=Qd8 (f:=D.int) cs i 0 (by omega) (by omega);have ha:=hs as[i] (getElem_mem bY);obtain⟨m,em,mm,m0⟩:=mx;have hp:∀l a b,pt ls cs i (.it (.ref l a b))=if ls=[]then .it (.word "lost" [])else .it (.ref (ls.getD (m%ls.length).toNat "") a b):=by intro l a b;rw[<-em];rfl
   have i90:(i:Int)+90=(i:Int)+90:=rfl;generalize hq:pt ls cs i as[i]=q;generalize as[i]=a at*;generalize cs.getD i 0=c at*;generalize ps.take i=qs at*;obtain⟨j,ej⟩:∃j:Int,(i:Int)=j:=⟨_,rfl⟩;rw[ej]at mm cx;simp only[];rw[ej];have oth:∀(d z:D)(t:Str),D.ix d (.int 0)=some (.str t)->t≠"ref"->D.app (.lst (qs.map At.d)) d=some z->sIf (QM (eOp D.eqO (eOp D.ix (eV 3) (eC (.int 0))) (eC (.str "ref"))) (eOp D.eqO (eV 2) (Qg (lN)))) (sP 4 (Qm (lC (eC (.str "word")) (lC (eC (.str "lost")) (lC (Qg (lN)) lN))))) (sIf (eOp D.eqO (eOp D.ix (eV 3) (eC (.int 0))) (eC (.str "ref"))) (sQ (Qc (eOp D.ix (eV 2) (eOp D.mod (eK YL (lC (eOp D.ix (eV 1) (eV 5)) (lC (eOp D.add (eV 5) (eC (.int 90))) lN))) (eUn D.len (eV 2)))) (gS 6)) (sP 4 (Qm (lC (eC (.str "ref")) (lC (eV 6) (lC (eOp D.ix (eV 3) (eC (.int 2))) (lC (eOp D.ix (eV 3) (eC (.int 3))) lN))))))) (sP 4 (eV 3))) [some (.lst (as.map At.d)),some (.lst (cs.map .int)),some (QH ls),some d,some (.lst (qs.map At.d)),some (.int j),x]=some (.nx [some (.lst (as.map At.d)),some (.lst (cs.map .int)),some (QH ls),some d,some z,some (.int j),x]):=by
    intro d z t h0 hm hz;exact ifF (YW (opE (opE rfl rfl h0) rfl (by rw[eqS,decide_eq_false hm]))) (ifF (opE (opE rfl rfl h0) rfl (by rw[eqS,decide_eq_false hm])) (Qal rfl rfl hz))
   cases a with
   |it y=>cases y with
    |ref l a b=>
     have es:D.eqO (.str (Str.ofString "ref")) (.str (Str.ofString "ref"))=some (.bl true):=by rw[eqS];simp
     have t0:D.ix (It.ref l a b).d (.int 0)=some (.str "ref"):=rfl;have eq:=Qws ls;rw[hp]at hq;cases ls with
     |nil=>rw[if_pos rfl]at hq;subst hq;exact⟨_,.inl (bnd rfl (ifT (YB (opE (opE rfl rfl t0) rfl es) (opE rfl rfl eq)) (Qal rfl rfl (ap (.it (.word "lost" [])))))),some (It.ref l a b).d,some (.int j),x,rfl⟩|cons l0 ls=>
      rw[if_neg (by simp)]at hq;subst hq;have hn:(0:Int)<((l0::ls).length:Int):=by simp only[length_cons];omega
      have md:D.mod (.int m) (.int ((l0::ls).length:Int))=some (.int (m%((l0::ls).length:Int))):=Qbt hn;have eR:=Qwl (l0::ls) (m%((l0::ls).length:Int)) (emod_nonneg _ (by omega)) (emod_lt_of_pos _ hn);have ln:=Qas (l0::ls);have ma:=ap (.it (.ref ((l0::ls).getD (m%((l0::ls).length:Int)).toNat "") a b));generalize(l0::ls).getD (m%((l0::ls).length:Int)).toNat ""=lx at*;generalize m%((l0::ls).length:Int)=mi at*;generalize((l0::ls).length:Int)=ll at*;have ie:(l0::ls).isEmpty=false:=rfl;rw[ie]at eq;generalize QH (l0::ls)=LS at*;refine⟨_,.inl ?_,some (It.ref l a b).d,some (.int j),some (.str lx),rfl⟩;refine bnd (e1:=[some (.lst (as.map At.d)),some (.lst (cs.map .int)),some LS,some (It.ref l a b).d,some (.lst (qs.map At.d)),some (.int j),x]) rfl ?_;refine ifF (YB (opE (opE rfl rfl t0) rfl es) (opE rfl rfl eq)) (ifT (opE (opE rfl rfl t0) rfl es) ?_);refine st (e1:=[some (.lst (as.map At.d)),some (.lst (cs.map .int)),some LS,some (It.ref l a b).d,some (.lst (qs.map At.d)),some (.int j),some (.str lx)]) (asg (opE rfl (opE (ZX (opE rfl rfl cx) (opE rfl rfl rfl) mm) (unE rfl ln) md) eR) rfl) ?_;exact Qal rfl (QrG rfl rfl (opE (x:=(It.ref l a b).d) rfl rfl rfl) (opE (x:=(It.ref l a b).d) rfl rfl rfl)) ma
    |word w ns=>subst hq;exact⟨_,.inl (bnd rfl (oth _ _ "word" rfl (by simp) (ap (.it (.word w ns))))),some (It.word w ns).d,some (.int j),x,rfl⟩|mark l=>subst hq;exact⟨_,.inl (bnd rfl (oth _ _ "mark" rfl (by simp) (ap (.it (.mark l))))),some (It.mark l).d,some (.int j),x,rfl⟩|key l=>subst hq;exact⟨_,.inl (bnd rfl (oth _ _ "key" rfl (by simp) (ap (.it (.key l))))),some (It.key l).d,some (.int j),x,rfl⟩
   |bk b=>have dG:q=.bk b:=hq.symm;subst dG;refine⟨_,.inl (bnd rfl ?_),some b.d,some (.int j),x,rfl⟩;cases b with|para is=>exact ha.elim|chapter t l=>exact oth _ _ "chapter" rfl (by simp) (ap (.bk (.chapter t l)))|heading t k l=>exact oth _ _ "heading" rfl (by simp) (ap (.bk (.heading t k l)))|table t l=>exact oth _ _ "table" rfl (by simp) (ap (.bk (.table t l)))|plates t l=>exact oth _ _ "plates" rfl (by simp) (ap (.bk (.plates t l)))
   |brk=>have dG:q=.brk:=hq.symm;subst dG;exact⟨_,.inl (bnd rfl (oth _ _ "break" rfl (by simp) (ap .brk))),some At.brk.d,some (.int j),x,rfl⟩|fin=>exact ha.elim
  ·rintro e⟨v,w,x,rfl⟩;have:as.zipIdx.length=ps.length:=by simp[iL]
   rw[this,take_length];exact ret rfl
noncomputable def isMK:It->Bool|.mark _=>true|.key _=>true|_=>false
def Qh(row:List It):List It:=match row.getLast? with|some x=>if isMK x then row++[.word "end" []]else row|none=>row
def JM:List Bk×List It->At->List Bk×List It|(bs,row),.it i=>(bs,row++[i])|(bs,row),.bk b=>((if Qh row=[]then bs else bs++[.para (Qh row)])++[b],[])|(bs,row),.brk=>(bs++[.para (Qh row)],[])|(bs,row),.fin=>(if Qh row=[]then bs else bs++[.para (Qh row)],[])
def grp(as:List At):List Bk×List It:=as.foldl JM ([],[])
theorem Qmy(row:List It):(Qh row).length<=row.length+1:=by
 unfold Qh;split
 ·split;·simp
  ·omega
 ·omega
theorem QnT(as:List At):∀s:List Bk×List It,(as.foldl JM s).1.length<=s.1.length+2*as.length/\(as.foldl JM s).2.length<=s.2.length+as.length:=by induction as with|nil=>intro s;simp|cons a as ih=>
  intro s;obtain⟨h1,h2⟩:=ih (JM s a);rw[foldl_cons,length_cons];have:(JM s a).1.length<=s.1.length+2/\(JM s a).2.length<=s.2.length+1:=by
   obtain⟨bs,row⟩:=s;cases a with
   |it i=>simp[JM]|bk b=>simp only[JM];split<;>simp|brk=>simp[JM]|fin=>simp only[JM];split<;>simp
  omega
theorem QsQ(as:List At)(i:Nat)(hi:i<as.length):grp (as.take (i+1))=JM (grp (as.take i)) as[i]:=by unfold grp;rw[take_succ_eq_append_getElem hi,foldl_append];rfl
theorem QpU(row:List It):row=[]\/∃r x,row=r++[x]:=by
 rcases List.eq_nil_or_concat row with h|⟨r,x,h⟩;·exact .inl h
 ·exact .inr ⟨r,x,by rw[h,List.concat_eq_append]⟩
theorem Qtk(is:List It):D.neO (.lst (is.map It.d)) (.lst [])=some (.bl (!is.isEmpty)):=Qkx Qqh (by decide) is
theorem Qk2{is:List It}(x:It)(h:is.length<lI):D.app (.lst (is.map It.d)) x.d=some (.lst ((is++[x]).map It.d)):=V4 x h
theorem Qk3{is:List Bk}(x:Bk)(h:is.length<lI):D.app (bks is) x.d=some (bks (is++[x])):=V4 (f:=Bk.d) x h
theorem Qg3(A:Option D)(bs:Option D)(row:List It)(h:row.length<lI)(d:D):(sIf (QM (eOp D.neO (eV 2) (Qg lN)) (eOp D.inO (eOp D.ix (eOp D.ix (eV 2) (eUn D.neg (eC (.int 1)))) (eC (.int 0))) (Qg (lC (eC (.str "mark")) (lC (eC (.str "key")) lN))))) (sP 2 (Qm (lC (eC (.str "word")) (lC (eC (.str "end")) (lC (Qg lN) lN))))) sNx) [A,bs,some (.lst (row.map It.d)),some d]=some (.nx [A,bs,some (.lst ((Qh row).map It.d)),some d]):=by
 have ne:=Qtk row;have ap:=Qk2 (.word "end" []) h;simp only[It.d,QH,map_nil]at ap;rcases QpU row with z|⟨r,x,z⟩
 ·subst z;simp only[map_nil]at ne;simp[sIf,QM,eOp,eV,Qg,lN,ne,Qk,sNx,Qh]
 ·have il:D.ix (.lst (row.map It.d)) (.int (-1))=some x.d:=by rw[z,map_append];exact Qwm _ _
  have ie:row.isEmpty=false:=by rw[z];simp
  have cl:Qh row=if isMK x then row++[.word "end" []]else row:=by unfold Qh;rw[z];simp
  rw[ie]at ne;rw[cl];have i0:∃t:Str,D.ix x.d (.int 0)=some (.str t)/\D.inO (.str t) (.lst [.str (Str.ofString "mark"),.str (Str.ofString "key")])=some (.bl (isMK x)):=by cases x<;>exact⟨_,rfl,by simp[D.inO,Zn,inD,QF,isMK]⟩
  obtain⟨t,i0,i1⟩:=i0;generalize row++[It.word "end" []]=iJ at*;generalize It.d x=X at*;cases q:isMK x with
  |true=>
   rw[q]at i1;rw[if_pos rfl];generalize iJ.map It.d=R2 at*;generalize row.map It.d=R at*;simp[sIf,QM,eOp,eV,Qg,lN,lC,eC,eUn,D.neg,ne,il,i0,i1,Qk,sP,Qm,ap]|false=>rw[q]at i1;rw[if_neg (by decide)];generalize row.map It.d=R at*;simp[sIf,QM,eOp,eV,Qg,lN,lC,eC,eUn,D.neg,ne,il,i0,i1,Qk,sNx]
theorem QiH(A:D)(bs:List Bk)(row:List It)(h:bs.length<lI)(d:D)(t:Str)(ht:D.ix d (.int 0)=some (.str t)):(sIf (eOr (eOp D.neO (eV 2) (Qg lN)) (eOp D.eqO (eOp D.ix (eV 3) (eC (.int 0))) (eC (.str "break")))) (sP 1 (Qm (lC (eC (.str "para")) (lC (eV 2) lN)))) sNx) [some A,some (bks bs),some (.lst (row.map It.d)),some d]=some (.nx [some A,some (bks (if row=[]/\t≠"break"then bs else bs++[.para row])),some (.lst (row.map It.d)),some d]):=by
 have ne:=Qtk row;have ap:=Qk3 (.para row) h;simp only[Bk.d]at ap;have eb:D.eqO (.str t) (.str (Str.ofString "break"))=some (.bl (decide (t=Str.ofString "break"))):=by simp[D.eqO,Qw,QF,D.cmp]
 cases q:row.isEmpty with
 |true=>
  have z:row=[]:=List.isEmpty_iff.mp q;rw[q]at ne;subst z;simp only[map_nil]at ne ap;by_cases w:t=Str.ofString "break"
  ·rw[if_neg (by simp[w])];rw[w]at eb ht;generalize bks bs=B at*;generalize bks (bs++_)=B2 at*;simp[sIf,eOr,eOp,eV,Qg,lN,lC,eC,ne,ht,eb,Qk,sP,Qm,ap]
  ·rw[if_pos ⟨rfl,w⟩];simp[sIf,eOr,eOp,eV,Qg,lN,lC,eC,ne,ht,eb,w,Qk,sNx]|false=>
  have z:row≠[]:=λz=>by rw[z]at q;cases q
  rw[q]at ne;rw[if_neg (by simp[z])];generalize bks bs=B at*;generalize bks (bs++_)=B2 at*;generalize row.map It.d=R at*;simp[sIf,eOr,eOp,eV,Qg,lN,lC,eC,ne,Qk,sP,Qm,ap]
theorem Qpl(as:List At)(mE:as.length<=100)(hs:∀a∈as,AtS a):Vb [.lst (as.map At.d)]=some (bks (grp (as++[.fin])).1):=by
 have key:∀xs:List At,xs.length<=101->(∀a∈xs,AtS a\/a=.fin)->D.add (.lst (as.map At.d)) (.lst [At.fin.d])=some (.lst (xs.map At.d))->Vb [.lst (as.map At.d)]=some (bks (grp xs).1):=by
  intro xs hx ha f7;unfold Vb QeL;refine stD rfl ?_;refine st (e1:=[some (.lst (as.map At.d)),some (bks []),none,none]) (by simp[sD,sQ,sIf,Qi,Qc,sNx,gS,eV,eC,eOp,eUn,Ja,QM,eOr,Qm,Qg,eK,lN,lC,D.lt,D.sub,D.eqO,D.cmp,Qk,QK,QW,Qr,Qw,QC,QF,QG,bks]) ?_;refine st (e1:=[some (.lst (as.map At.d)),some (bks []),some (.lst []),none]) (by simp[sD,sQ,sIf,Qi,Qc,sNx,gS,eV,eC,eOp,eUn,Ja,QM,eOr,Qm,Qg,eK,lN,lC,D.lt,D.sub,D.eqO,D.cmp,Qk,QK,QW,Qr,Qw,QC,QF,QG]) ?_;refine QaC At.d xs (λi e=>∃v,e=[some (.lst (as.map At.d)),some (bks (grp (xs.take i)).1),some (.lst ((grp (xs.take i)).2.map It.d)),v]) ?_ ⟨none,rfl⟩ ?_ ?_
  ·simp only[At.d]at f7;simp[QL,eOp,eV,Qg,Qm,lC,lN,eC,f7,D.its]
  ·rintro i hi e⟨v,rfl⟩;rw[QsQ xs i hi];have hl:=QnT (xs.take i) ([],[]);have hb:(grp (xs.take i)).1.length<lI:=Zv (by have:=hl.1;unfold grp;simp at this;omega);have hr:(grp (xs.take i)).2.length<lI:=Zv (by have:=hl.2;unfold grp;simp at this;omega);have gB:(grp (xs.take i)).1.length+1<lI:=Zv (by have:=hl.1;unfold grp;simp at this;omega);have hAt:=ha xs[i] (getElem_mem hi);generalize xs[i]=a at*;generalize grp (xs.take i)=s at*;obtain⟨bs,row⟩:=s;generalize D.lst (as.map At.d)=AS at*;simp only[]at hb hr gB⊢;cases a with
   |it x=>
    have ap:=Qk2 x hr;refine⟨[some AS,some (bks bs),some (.lst ((row++[x]).map It.d)),some x.d],.inr ?_,some x.d,rfl⟩;refine bnd (e1:=[some AS,some (bks bs),some (.lst (row.map It.d)),some x.d]) rfl ?_;have i0:∃t:Str,D.ix x.d (.int 0)=some (.str t)/\D.inO (.str t) (.lst [.str (Str.ofString "mark"),.str (Str.ofString "key"),.str (Str.ofString "ref"),.str (Str.ofString "word")])=some (.bl true):=by cases x<;>exact⟨_,rfl,by simp[D.inO,Zn,inD,QF]⟩
    obtain⟨t,i0,i1⟩:=i0;refine stC ?_;generalize It.d x=X at*;generalize(row++[x]).map It.d=R2 at*;generalize row.map It.d=R at*;simp[sIf,eOp,eV,Qg,lN,lC,eC,i0,i1,Qk,sQ,sP,ap,QK,Yb]|bk b=>
    have i0:∃t:Str,D.ix b.d (.int 0)=some (.str t)/\D.inO (.str t) (.lst [.str (Str.ofString "mark"),.str (Str.ofString "key"),.str (Str.ofString "ref"),.str (Str.ofString "word")])=some (.bl false)/\D.notInO (.str t) (.lst [.str (Str.ofString "break"),.str (Str.ofString "end")])=some (.bl true)/\t≠Str.ofString "break":=by cases b<;>exact⟨_,rfl,by simp[D.inO,Zn,inD,QF],by simp[D.notInO,Zn,inD,QF],by simp⟩
    obtain⟨t,i0,i1,i2,i3⟩:=i0;have pa:=QiH AS bs (Qh row) hb b.d t i0;have gs:JM (bs,row) (.bk b)=((if Qh row=[]/\t≠Str.ofString "break"then bs else bs++[.para (Qh row)])++[b],[]):=by
     show((if Qh row=[]then bs else bs++[.para (Qh row)])++[b],[])=_;by_cases w:Qh row=[];·rw[if_pos w,if_pos ⟨w,i3⟩]
     ·rw[if_neg w,if_neg (by simp[w])]
    rw[gs];have cQ:(if Qh row=[]/\t≠Str.ofString "break"then bs else bs++[.para (Qh row)]).length<lI:=by
     split;·exact hb
     ·rw[length_append];exact gB
    generalize(if Qh row=[]/\t≠Str.ofString "break"then bs else bs++[.para (Qh row)])=eg at*;have ap:=Qk3 b cQ;refine⟨[some AS,some (bks (eg++[b])),some (.lst []),some b.d],.inl ?_,some b.d,rfl⟩;refine bnd (e1:=[some AS,some (bks bs),some (.lst (row.map It.d)),some b.d]) rfl ?_;refine st (e1:=[some AS,some (bks bs),some (.lst (row.map It.d)),some b.d]) ?_ ?_;·generalize Bk.d b=X at*;simp[sIf,eOp,eV,Qg,lN,lC,eC,i0,i1,Qk,sNx]
    refine st (Qg3 (some AS) (some (bks bs)) row hr b.d) ?_;refine st pa ?_;refine st (e1:=[some AS,some (bks eg),some (.lst []),some b.d]) rfl ?_;generalize Bk.d b=X at*;generalize bks eg=B at*;generalize bks (eg++_)=B2 at*;simp[sIf,eOp,eV,Qg,lN,lC,eC,i0,i2,Qk,sP,ap]|brk=>have pa:=QiH AS bs (Qh row) hb At.brk.d (Str.ofString "break") rfl;rw[if_neg (by simp)]at pa;refine⟨[some AS,some (bks (bs++[.para (Qh row)])),some (.lst []),some At.brk.d],.inl ?_,some At.brk.d,rfl⟩;refine bnd (e1:=[some AS,some (bks bs),some (.lst (row.map It.d)),some At.brk.d]) rfl ?_;refine st (e1:=[some AS,some (bks bs),some (.lst (row.map It.d)),some At.brk.d]) (by simp[sIf,eOp,eV,Qg,lN,lC,eC,D.ix,ixD,Qk,sNx,D.inO,Zn,inD,QF]) ?_;refine st (Qg3 (some AS) (some (bks bs)) row hr At.brk.d) ?_;refine st pa ?_;refine st (e1:=[some AS,some (bks (bs++[.para (Qh row)])),some (.lst []),some At.brk.d]) rfl ?_;simp[sIf,eOp,eV,Qg,lN,lC,eC,D.ix,ixD,Qk,sNx,D.notInO,Zn,inD,QF]|fin=>
    have pa:=QiH AS bs (Qh row) hb At.fin.d (Str.ofString "end") rfl;have gs:JM (bs,row) .fin=((if Qh row=[]/\Str.ofString "end"≠Str.ofString "break"then bs else bs++[.para (Qh row)]),[]):=by
     show(if Qh row=[]then bs else bs++[.para (Qh row)],[])=_;by_cases w:Qh row=[];·rw[if_pos w,if_pos ⟨w,by simp⟩]
     ·rw[if_neg w,if_neg (by simp[w])]
    rw[gs];generalize(if Qh row=[]/\Str.ofString "end"≠Str.ofString "break"then bs else bs++[.para (Qh row)])=eg at*;refine⟨[some AS,some (bks eg),some (.lst []),some At.fin.d],.inl ?_,some At.fin.d,rfl⟩;refine bnd (e1:=[some AS,some (bks bs),some (.lst (row.map It.d)),some At.fin.d]) rfl ?_;refine st (e1:=[some AS,some (bks bs),some (.lst (row.map It.d)),some At.fin.d]) (by simp[sIf,eOp,eV,Qg,lN,lC,eC,D.ix,ixD,Qk,sNx,D.inO,Zn,inD,QF]) ?_;refine st (Qg3 (some AS) (some (bks bs)) row hr At.fin.d) ?_;refine st pa ?_;refine st (e1:=[some AS,some (bks eg),some (.lst []),some At.fin.d]) rfl ?_;simp[sIf,eOp,eV,Qg,lN,lC,eC,D.ix,ixD,Qk,sNx,D.notInO,Zn,inD,QF]
  ·rintro e⟨v,rfl⟩;rw[take_length];exact ret rfl
 refine key (as++[.fin]) (by simp;omega) (λa h=>?_) ?_
 ·rcases List.mem_append.mp h with z|z;·exact .inl (hs a z)
  ·exact .inr (by simpa using z)
 ·show(if(as.map At.d).length+1<=lI then _ else _)=_;rw[if_pos (le_trans (by rw[length_map];omega) (show 101<=lI by decide)),map_append];rfl
noncomputable def Jk:It->Bool|.ref _ _ _=>true|_=>false
noncomputable def J9:It->Bool|.word _ _=>true|_=>false
noncomputable def Vf:Bk->Bool|.para _=>true|_=>false
noncomputable def QkF:It->Str|.word _ _=>"word"|.ref _ _ _=>"ref"|.mark _=>"mark"|.key _=>"key"
noncomputable def QgA:Bk->Str|.chapter _ _=>"chapter"|.heading _ _ _=>"heading"|.para _=>"para"|.table _ _=>"table"|.plates _ _=>"plates"
theorem Qfj(i:It):D.ix i.d (.int 0)=some (.str (QkF i)):=by cases i<;>rfl
theorem Qp8(i:Bk):D.ix i.d (.int 0)=some (.str (QgA i)):=by cases i<;>rfl
theorem Qiy(i:It):decide (QkF i=Str.ofString "ref")=Jk i:=by cases i<;>simp[QkF,Jk]
theorem QkI(i:It):decide (QkF i=Str.ofString "word")=J9 i:=by cases i<;>simp[QkF,J9]
theorem Qr1(i:Bk):decide (QgA i=Str.ofString "para")=Vf i:=by cases i<;>simp[QgA,Vf]
noncomputable def Qvi:It->Str|.ref l _ _=>l|_=>""
def QQ(is:List It):List Str:=(is.filter Jk).map Qvi
noncomputable def iO:Bk->List It|.para is=>is|_=>[]
def rO(bs:List Bk):List Str:=bs.flatMap λb=>QQ (iO b)
theorem QaO(b:Bk):JH [b.d]=some (.lst ((iO b).map It.d)):=by unfold JH QeH;cases b<;>simp[QG,JF,ZD,lI,Qx,sD,sQ,sIf,Qi,ZU,Qc,ZC,J5,sNx,YK,Yb,gS,Jp,Zq,eV,eC,eOp,eUn,Ja,QM,eOr,eIf,JR,Qm,Qg,eK,lN,lC,JO,oNo,oAt,ZW,D.len,D.lt,D.le,D.gt,D.ge,D.add,D.sub,D.ix,D.eqO,D.neO,D.cmp,D.cmpN,D.inst,tyD,D.isT,D.intB,D.min2,D.max2,D.neg,D.addI,Qk,JW,JY,JC,QK,QW,JV,JU,Jn,JB,JZ,J0,JD,JE,JX,Q7,JN,Zl,Qr,Qw,Q9,Q6,Q5,QV,D.rng,D.its,D.itsT,QC,ZV,QF,Ji,JQ,Jr,Jj,ixD,iO]
theorem Qsb{it:EvI}{e:Qj}(is:List It)(hit:it e=some (is.map It.d))(hl:is.length<=lI):Q2 1 [] it (gS 0) (eOp D.eqO (eOp D.ix (eV 0) (eC (.int 0))) (eC (.str "ref"))) (eOp D.ix (eV 0) (eC (.int 1))) e=some (QH (QQ is)):=by
 have:=Zh (g:=gS 0) (n:=1) (caps:=[]) (c:=eOp D.eqO (eOp D.ix (eV 0) (eC (.int 0))) (eC (.str "ref"))) (el:=eOp D.ix (eV 0) (eC (.int 1))) It.d is (λe=>∃v,e=[v]) Jk (λi=>.str (Qvi i)) hit hl ⟨none,rfl⟩ (by
  rintro i _ e⟨v,rfl⟩;refine⟨[some i.d],rfl,⟨_,rfl⟩,?_,λh=>?_⟩
  ·have h1:=Qfj i;have h2:=Qiy i;generalize It.d i=X at*;simp[eOp,eV,eC,h1,eqS,h2]
  ·cases i with
   |ref l a b=>rfl|_=>cases h);rw[this];unfold QH QQ;rw[map_map];rfl
theorem fT{α β:Type}(f:α->List β)(xs:List α)(i:Nat)(hi:i<xs.length):(xs.take (i+1)).flatMap f=(xs.take i).flatMap f++f xs[i]:=by rw[take_succ_eq_append_getElem hi,flatMap_append];simp
theorem Vc{α β:Type}(f:α->List β)(xs:List α)(i:Nat):((xs.take i).flatMap f).length<=(xs.flatMap f).length:=by
 conv=>rhs;rw[<-take_append_drop i xs,flatMap_append,length_append]
 omega
theorem Qwr{α:Type}{f:α->D}{xs ys:List α}(h:xs.length+ys.length<=lI):D.ext (.lst (xs.map f)) (.lst (ys.map f))=some (.lst ((xs++ys).map f)):=by show(if(xs.map f).length+(ys.map f).length<=lI then some (D.lst (xs.map f++ys.map f))else none)=_;rw[if_pos (by rw[length_map,length_map];exact h),map_append]
theorem QoB{α:Type}{f:α->D}{xs ys:List α}(h:xs.length+ys.length<=lI):D.add (.lst (xs.map f)) (.lst (ys.map f))=some (.lst ((xs++ys).map f)):=by show(if(xs.map f).length+(ys.map f).length<=lI then some (D.lst (xs.map f++ys.map f))else none)=_;rw[if_pos (by rw[length_map,length_map];exact h),map_append]
def Few(bs:List Bk):Prop:=bs.length<=100000/\(bs.flatMap iO).length<=100000
theorem QqI(is:List It):(QQ is).length<=is.length:=by unfold QQ;rw[length_map];exact length_filter_le _ _
theorem QeA(bs:List Bk):(rO bs).length<=(bs.flatMap iO).length:=by induction bs with|nil=>exact le_refl _|cons b bs ih=>have:=QqI (iO b);have ih':(bs.flatMap λb=>QQ (iO b)).length<=(bs.flatMap iO).length:=ih;show((b::bs).flatMap λb=>QQ (iO b)).length<=_;rw[flatMap_cons,flatMap_cons,length_append,length_append];omega
theorem Y1{bs:List Bk}(h:Few bs)(b:Bk)(hb:b∈bs):(iO b).length<=100000:=by refine le_trans ?_ h.2;obtain⟨s,t,rfl⟩:=List.append_of_mem hb;rw[flatMap_append,flatMap_cons];simp only[length_append];omega
theorem Qf7(bs:List Bk)(h:Few bs):Z4 [bks bs]=some (QH (rO bs)):=by
 have hr:=QeA bs;unfold Z4 QkV;refine stD rfl ?_;refine st (e1:=[some (bks bs),some (QH []),none]) rfl ?_;refine QaC Bk.d bs (λi e=>∃v,e=[some (bks bs),some (QH (rO (bs.take i))),v]) rfl ⟨none,rfl⟩ ?_ ?_
 ·rintro i hi e⟨v,rfl⟩;have t1:rO (bs.take (i+1))=rO (bs.take i)++QQ (iO bs[i]):=fT _ bs i hi;have t2:=Vc (λb=>QQ (iO b)) bs (i+1);have t3:(rO (bs.take (i+1))).length<=(rO bs).length:=t2;rw[t1,length_append]at t3;rw[t1];refine⟨[some (bks bs),some (QH (rO (bs.take i)++QQ (iO bs[i]))),some bs[i].d],.inl ?_,_,rfl⟩;refine bnd (e1:=[some (bks bs),some (QH (rO (bs.take i))),some bs[i].d]) rfl ?_;have hc:=Qsb (it:=QL (eK JH (lC (eV 2) lN))) (e:=[some (bks bs),some (QH (rO (bs.take i))),some bs[i].d]) (iO bs[i]) (by show((JH [bs[i].d]).bind λd=>D.its d)=_;rw[QaO];rfl) (lB (le_trans (Y1 h bs[i] (getElem_mem hi)) (by decide)));have hx:D.ext (QH (rO (bs.take i))) (QH (QQ (iO bs[i])))=some (QH (rO (bs.take i)++QQ (iO bs[i]))):=Qwr (f:=D.str) (lB (by have:=h.2;omega));generalize QH (rO (bs.take i)++QQ (iO bs[i]))=Z at*;generalize QH (QQ (iO bs[i]))=Y at*;generalize QH (rO (bs.take i))=X at*;simp only[QrI,hc];simp[eV,hx]
 ·rintro e⟨v,rfl⟩;rw[take_length];exact ret rfl
theorem Qls(xs:List Str):D.listOf (QH xs)=some (QH xs):=rfl
theorem QpB(bs:Option D)(fo:Option D)(b:D)(is:List It)(hit:D.ix b (.int 1)=some (.lst (is.map It.d)))(hl:is.length<=100000)(v:Option D):∃v',Jg (QL (eOp D.ix (eV 2) (eC (.int 1)))) (gS 4) (sIf (eOp D.eqO (eOp D.ix (eV 4) (eC (.int 0))) (eC (.str "word"))) (sP 3 (Qm (lC (eC (.str "word")) (lC (eOp D.ix (eV 4) (eC (.int 1))) (lC (eUn D.listOf (eOp D.ix (eV 4) (eC (.int 2)))) lN))))) (sP 3 (eV 4))) [bs,fo,some b,some (.lst []),v]=some (.nx [bs,fo,some b,some (.lst (is.map It.d)),v']):=by
 obtain⟨e',h1,v',h2⟩:=Qbu (g:=gS 4) (b:=sIf (eOp D.eqO (eOp D.ix (eV 4) (eC (.int 0))) (eC (.str "word"))) (sP 3 (Qm (lC (eC (.str "word")) (lC (eOp D.ix (eV 4) (eC (.int 1))) (lC (eUn D.listOf (eOp D.ix (eV 4) (eC (.int 2)))) lN))))) (sP 3 (eV 4))) It.d is (λi e=>∃v,e=[bs,fo,some b,some (.lst ((is.take i).map It.d)),v]) (by
  rintro i hi e⟨v,rfl⟩;have ap:D.app (.lst ((is.take i).map It.d)) is[i].d=some (.lst ((is.take (i+1)).map It.d)):=by rw[take_succ_eq_append_getElem hi];exact Qk2 _ (Zv (by rw[length_take];omega))
  generalize is[i]=x at*;generalize(is.take (i+1)).map It.d=Z at*;generalize(is.take i).map It.d=Y at*;refine⟨[bs,fo,some b,some (.lst Z),some x.d],.inl ?_,_,rfl⟩;refine bnd (e1:=[bs,fo,some b,some (.lst Y),some x.d]) rfl ?_;cases x with|word w ns=>have ls:=Qls ns;simp only[It.d]at ap⊢;generalize QH ns=N at*;simp[sIf,eOp,eV,eC,D.ix,ixD,eqS,Qk,sP,Qm,lC,lN,eUn,ls,ap]|_=>simp only[It.d]at ap;simp[sIf,eOp,eV,eC,D.ix,ixD,eqS,Qk,sP,ap]) [bs,fo,some b,some (.lst []),v] ⟨v,rfl⟩;subst h2;rw[take_length]at h1;refine⟨v',?_⟩;simp only[Jg,QL,eOp,eV,eC,getElem?_cons_zero,getElem?_cons_succ,join_some,bind_some,hit,D.its];exact h1
theorem Qu3(bs:List Bk)(h:Few bs):Qgd [bks bs]=some (bks bs):=by
 unfold Qgd QiY;refine stD rfl ?_;refine st (e1:=[some (bks bs),some (bks []),none,none,none]) rfl ?_;refine QaC Bk.d bs (λi e=>∃u v w,e=[some (bks bs),some (bks (bs.take i)),u,v,w]) rfl ⟨none,none,none,rfl⟩ ?_ ?_
 ·rintro i hi e⟨u,v,w,rfl⟩;have ap:D.app (bks (bs.take i)) bs[i].d=some (bks (bs.take (i+1))):=by rw[take_succ_eq_append_getElem hi];exact Qk3 _ (Zv (by rw[length_take];have:=h.1;omega))
  have hl:=Y1 h bs[i] (getElem_mem hi);generalize bs[i]=x at*;generalize bks (bs.take (i+1))=Z at*;generalize bks (bs.take i)=Y at*;generalize bks bs=B at*;cases x with
  |para is=>
   obtain⟨w',hc⟩:=QpB (some B) (some Y) (Bk.para is).d is rfl hl w;refine⟨[some B,some Z,some (Bk.para is).d,some (.lst (is.map It.d)),w'],.inl ?_,_,_,_,rfl⟩;refine bnd (e1:=[some B,some Y,some (Bk.para is).d,v,w]) rfl ?_;have c:eOp D.eqO (eOp D.ix (eV 2) (eC (.int 0))) (eC (.str "para")) [some B,some Y,some (Bk.para is).d,v,w]=some (.bl true):=by simp[eOp,eV,eC,D.ix,ixD,eqS]
   unfold sIf;rw[c,Qk,if_pos rfl];refine st (e1:=[some B,some Y,some (Bk.para is).d,some (.lst []),w]) rfl ?_;refine st hc ?_;simp only[Bk.d]at ap;simp[sP,eV,Qm,lC,lN,eC,ap]|table rs l=>refine⟨[some B,some Z,some (Bk.table rs l).d,v,w],.inl ?_,_,_,_,rfl⟩;refine bnd (e1:=[some B,some Y,some (Bk.table rs l).d,v,w]) rfl ?_;have ls:=Qls rs;simp only[Bk.d]at ap⊢;generalize QH rs=N at*;simp[sIf,eOp,eV,eC,D.ix,ixD,eqS,Qk,sP,Qm,lC,lN,eUn,ls,ap]|chapter t l=>refine⟨[some B,some Z,some (Bk.chapter t l).d,v,w],.inl ?_,_,_,_,rfl⟩;simp only[Bk.d]at ap;simp[gS,sIf,eOp,eV,eC,D.ix,ixD,eqS,Qk,sP,ap]|heading t n l=>refine⟨[some B,some Z,some (Bk.heading t n l).d,v,w],.inl ?_,_,_,_,rfl⟩;simp only[Bk.d]at ap;simp[gS,sIf,eOp,eV,eC,D.ix,ixD,eqS,Qk,sP,ap]|plates n l=>refine⟨[some B,some Z,some (Bk.plates n l).d,v,w],.inl ?_,_,_,_,rfl⟩;simp only[Bk.d]at ap;simp[gS,sIf,eOp,eV,eC,D.ix,ixD,eqS,Qk,sP,ap]
 ·rintro e⟨u,v,w,rfl⟩;rw[take_length];exact ret rfl
noncomputable def ItB:It->Prop|.word w ns=>(1<=w.length/\w.length<=40)/\ns.length<=30/\∀r∈ns,r.length<=40|.ref _ a b=>a.length<=2/\b.length<=2|.mark _=>True|.key w=>1<=w.length/\w.length<=80
def BkB:Bk->Prop|.chapter t _=>1<=t.length/\t.length<=41|.heading t n _=>(1<=t.length/\t.length<=41)/\0<=n/\n<=29|.table rs _=>(1<=rs.length/\rs.length<=30)/\∀r∈rs,r.length<=40|.plates n _=>1<=n/\n<=10^39|.para is=>∀i∈is,ItB i
theorem Qak{x:Str}(h:x.length<=1000000):D.len (.str x)=some (.int x.length):=if_pos (lB h)
theorem QeB:∀xs:List Int,intsOf (xs.map .int)=some xs|[]=>rfl|x::xs=>by show(intsOf (xs.map .int)).map (x::·)=_;rw[QeB xs];rfl
theorem Qum(w:Int)(xs:List Int):D.maxL (.lst ((w::xs).map .int))=some (.int (J1 w xs)):=by show(match intsOf ((w::xs).map .int)with|some (m::ns)=>some (D.int (J1 m ns))|_=>none)=_;rw[QeB]
noncomputable def Qaj(rs:List Str):List Int:=rs.map λr=>(r.length:Int)
theorem Qlt{it:EvI}{e:Qj}(rs:List Str)(hit:it e=some (rs.map .str))(hl:rs.length<=1000000)(hr:∀r∈rs,r.length<=1000000):Q2 1 [] it (gS 0) (eC (.bl true)) (eUn D.len (eV 0)) e=some (.lst ((Qaj rs).map .int)):=by rw[Zh (g:=gS 0) (n:=1) (caps:=[]) (c:=eC (.bl true)) (el:=eUn D.len (eV 0)) D.str rs (λe=>∃v,e=[v]) (λ_=>true) (λr=>.int r.length) hit (lB hl) ⟨none,rfl⟩ (by rintro r jz e⟨v,rfl⟩;refine⟨[some (.str r)],rfl,⟨_,rfl⟩,rfl,λ_=>?_⟩;simp[eUn,eV,Qak (hr r jz)])];rw[Z8];unfold Qaj;rw[map_map];rfl
theorem QdQ{a:EvE}{e:Qj}{i:Nat}{w:Int}(xs:List Int)(hv:eV i e=some (.int w))(ha:a e=some (.lst (xs.map .int)))(hl:xs.length<=1000000):eUn D.maxL (eOp D.add (Qg (lC (eV i) lN)) a) e=some (.int (J1 w xs)):=by have h1:D.add (.lst [.int w]) (.lst (xs.map .int))=some (.lst ((w::xs).map .int)):=QoB (f:=D.int) (xs:=[w]) (ys:=xs) (QhU hl);have h2:=Qum w xs;generalize(w::xs).map D.int=Z at*;simp only[eUn,eOp,Qg,lC,lN,hv,ha,bind_some,map_some,h1,h2]
noncomputable def QeX:It->Int|.word w _=>w.length|_=>0
noncomputable def QeZ(af:Int):It->Int|.ref _ a b=>a.length+af+b.length|_=>0
noncomputable def Qp3:It->List Str|.word _ ns=>ns|_=>[]
def YJ(is:List It):List (List Str):=(is.filter J9).map Qp3
def ZE(af w:Int):Bk->Int|.chapter t _=>if(t.length:Int)+2+af>w then(t.length:Int)+2+af else w|.heading t _ _=>if(t.length:Int)+2+af>w then(t.length:Int)+2+af else w|.table rs _=>J1 w (Qaj rs)|.plates _ _=>w|.para is=>(YJ is).foldl (λw ns=>J1 w (Qaj ns)) (J1 (J1 w ((is.filter Jk).map (QeZ af))) ((is.filter J9).map QeX))
def ZF(h:Int):Bk->Int|.heading _ k _=>if k+1>h then k+1 else h|.table rs _=>if(rs.length:Int)>h then(rs.length:Int)else h|.para is=>J1 h ((YJ is).map λns=>1+(ns.length:Int))|_=>h
theorem QrZ{it:EvI}{e:Qj}(is:List It)(hit:it e=some (is.map It.d))(hl:is.length<=1000000)(hi:∀i∈is,ItB i):Q2 1 [] it (gS 0) (eOp D.eqO (eOp D.ix (eV 0) (eC (.int 0))) (eC (.str "word"))) (eUn D.len (eOp D.ix (eV 0) (eC (.int 1)))) e=some (.lst (((is.filter J9).map QeX).map .int)):=by
 rw[Zh (g:=gS 0) (n:=1) (caps:=[]) (c:=eOp D.eqO (eOp D.ix (eV 0) (eC (.int 0))) (eC (.str "word"))) (el:=eUn D.len (eOp D.ix (eV 0) (eC (.int 1)))) It.d is (λe=>∃v,e=[v]) J9 (λi=>.int (QeX i)) hit (lB hl) ⟨none,rfl⟩ (by
  rintro i hm e⟨v,rfl⟩;refine⟨[some i.d],rfl,⟨_,rfl⟩,?_,λh=>?_⟩
  ·have h1:=Qfj i;have h2:=QkI i;generalize It.d i=X at*;simp[eOp,eV,eC,h1,eqS,h2]
  ·cases i with
   |word w ns=>have hb:=(hi _ hm).1.2;have ln:=Qak (x:=w) (by omega);simp[eUn,eOp,eV,eC,D.ix,ixD,ln,QeX]|_=>cases h)];rw[map_map];rfl
theorem QtL{it:EvI}{e:Qj}(af:Int)(is:List It)(hc:Qdi 1 [1] e=[none,some (.int af)])(hit:it e=some (is.map It.d))(hl:is.length<=1000000)(hi:∀i∈is,ItB i):Q2 1 [1] it (gS 0) (eOp D.eqO (eOp D.ix (eV 0) (eC (.int 0))) (eC (.str "ref"))) (eOp D.add (eOp D.add (eUn D.len (eOp D.ix (eV 0) (eC (.int 2)))) (eV 1)) (eUn D.len (eOp D.ix (eV 0) (eC (.int 3))))) e=some (.lst (((is.filter Jk).map (QeZ af)).map .int)):=by
 rw[Zh (g:=gS 0) (n:=1) (caps:=[1]) (c:=eOp D.eqO (eOp D.ix (eV 0) (eC (.int 0))) (eC (.str "ref"))) (el:=eOp D.add (eOp D.add (eUn D.len (eOp D.ix (eV 0) (eC (.int 2)))) (eV 1)) (eUn D.len (eOp D.ix (eV 0) (eC (.int 3))))) It.d is (λe=>∃v,e=[v,some (.int af)]) Jk (λi=>.int (QeZ af i)) hit (lB hl) ⟨none,hc⟩ (by
  rintro i hm e⟨v,rfl⟩;refine⟨[some i.d,some (.int af)],rfl,⟨_,rfl⟩,?_,λh=>?_⟩;·have h1:=Qfj i;have h2:=Qiy i;generalize It.d i=X at*;simp[eOp,eV,eC,h1,eqS,h2]
  ·cases i with
   |ref l a b=>have hb:=hi _ hm;have l1:=Qak (x:=a) (by have:=hb.1;omega);have l2:=Qak (x:=b) (by have:=hb.2;omega);simp[eUn,eOp,eV,eC,D.ix,ixD,l1,l2,QeZ,add_int]|_=>cases h)];rw[map_map];rfl
theorem QqZ{it:EvI}{e:Qj}(is:List It)(hit:it e=some (is.map It.d))(hl:is.length<=1000000):Q2 1 [] it (gS 0) (eOp D.eqO (eOp D.ix (eV 0) (eC (.int 0))) (eC (.str "word"))) (eOp D.ix (eV 0) (eC (.int 2))) e=some (.lst ((YJ is).map QH)):=by
 rw[Zh (g:=gS 0) (n:=1) (caps:=[]) (c:=eOp D.eqO (eOp D.ix (eV 0) (eC (.int 0))) (eC (.str "word"))) (el:=eOp D.ix (eV 0) (eC (.int 2))) It.d is (λe=>∃v,e=[v]) J9 (λi=>QH (Qp3 i)) hit (lB hl) ⟨none,rfl⟩ (by
  rintro i hm e⟨v,rfl⟩;refine⟨[some i.d],rfl,⟨_,rfl⟩,?_,λh=>?_⟩
  ·have h1:=Qfj i;have h2:=QkI i;generalize It.d i=X at*;simp[eOp,eV,eC,h1,eqS,h2]
  ·cases i with|word w ns=>rfl|_=>cases h)];unfold YJ;rw[map_map];rfl
theorem Qsn{it:EvI}{e:Qj}(bO:List (List Str))(hit:it e=some (bO.map QH))(hl:bO.length<=1000000):Q2 1 [] it (gS 0) (eC (.bl true)) (eOp D.add (eC (.int 1)) (eUn D.len (eV 0))) e=some (.lst ((bO.map λns=>1+(ns.length:Int)).map .int)):=by rw[Zh (g:=gS 0) (n:=1) (caps:=[]) (c:=eC (.bl true)) (el:=eOp D.add (eC (.int 1)) (eUn D.len (eV 0))) QH bO (λe=>∃v,e=[v]) (λ_=>true) (λns=>.int (1+(ns.length:Int))) hit (lB hl) ⟨none,rfl⟩ (by rintro r jz e⟨v,rfl⟩;refine⟨[some (QH r)],rfl,⟨_,rfl⟩,rfl,λ_=>?_⟩;have ln:=Qas r;generalize QH r=N at*;simp[eUn,eV,eOp,eC,ln,add_int])];rw[Z8,map_map];rfl
theorem QiI{is:List It}(hi:∀i∈is,ItB i):∀ns∈YJ is,ns.length<=30/\∀r∈ns,r.length<=40:=by intro ns h;unfold YJ at h;obtain⟨i,h1,rfl⟩:=List.mem_map.mp h;obtain⟨h2,h3⟩:=List.mem_filter.mp h1;cases i with|word w ns=>exact⟨(hi _ h2).2.1,(hi _ h2).2.2⟩|_=>cases h3
theorem QqY(B R H b nt:Option D)(bO:List (List Str))(hn:∀ns∈bO,ns.length<=30/\∀r∈ns,r.length<=40)(w:Int)(v:Option D)(hl:nt=some (.lst (bO.map QH))):∃v',Jg (QL (eV 5)) (gS 6) (Qc (eUn D.maxL (eOp D.add (Qg (lC (eV 2) lN)) (Q2 1 [] (QL (eV 6)) (gS 0) (eC (.bl true)) (eUn D.len (eV 0))))) (gS 2)) [B,R,some (.int w),H,b,nt,v]=some (.nx [B,R,some (.int (bO.foldl (λw ns=>J1 w (Qaj ns)) w)),H,b,nt,v']):=by obtain⟨e',h1,v',h2⟩:=Qtq (it:=QL (eV 5)) (g:=gS 6) (b:=Qc (eUn D.maxL (eOp D.add (Qg (lC (eV 2) lN)) (Q2 1 [] (QL (eV 6)) (gS 0) (eC (.bl true)) (eUn D.len (eV 0))))) (gS 2)) (e:=[B,R,some (.int w),H,b,nt,v]) QH bO (λ(w:Int)e=>∃v,e=[B,R,some (.int w),H,b,nt,v]) (λw ns=>J1 w (Qaj ns)) w (by rw[hl];rfl) ⟨v,rfl⟩ (by rintro ns hm w e⟨v,rfl⟩;refine⟨[B,R,some (.int (J1 w (Qaj ns))),H,b,nt,some (QH ns)],.inl ?_,_,rfl⟩;refine bnd (e1:=[B,R,some (.int w),H,b,nt,some (QH ns)]) rfl ?_;have hc:=Qlt (it:=QL (eV 6)) (e:=[B,R,some (.int w),H,b,nt,some (QH ns)]) ns rfl (by have:=(hn ns hm).1;omega) (λr hr=>by have:=(hn ns hm).2 r hr;omega);have hx:=QdQ (i:=2) (e:=[B,R,some (.int w),H,b,nt,some (QH ns)]) (Qaj ns) rfl hc (by unfold Qaj;rw[length_map];have:=(hn ns hm).1;omega);unfold Qc;rw[hx];rfl);exact⟨v',h2▸h1⟩
theorem QqX(is:List It):(YJ is).length<=is.length:=by unfold YJ;rw[length_map];exact length_filter_le _ _
def QoI:EvS:=sQ (sIf (eOr (eOp D.eqO (eOp D.ix (eV 4) (eC (.int 0))) (eC (.str "chapter"))) (eOp D.eqO (eOp D.ix (eV 4) (eC (.int 0))) (eC (.str "heading")))) (Qc (eOp D.max2 (eV 2) (eOp D.add (eOp D.add (eUn D.len (eOp D.ix (eV 4) (eC (.int 1)))) (eC (.int 2))) (eV 1))) (gS 2)) sNx) (sQ (sIf (eOp D.eqO (eOp D.ix (eV 4) (eC (.int 0))) (eC (.str "heading"))) (Qc (eOp D.max2 (eV 3) (eOp D.add (eOp D.ix (eV 4) (eC (.int 2))) (eC (.int 1)))) (gS 3)) sNx) (sQ (sIf (eOp D.eqO (eOp D.ix (eV 4) (eC (.int 0))) (eC (.str "table"))) (sQ (Qc (eOp D.max2 (eV 3) (eUn D.len (eOp D.ix (eV 4) (eC (.int 1))))) (gS 3)) (Qc (eUn D.maxL (eOp D.add (Qg (lC (eV 2) lN)) (Q2 1 [] (QL (eOp D.ix (eV 4) (eC (.int 1)))) (gS 0) (eC (.bl true)) (eUn D.len (eV 0))))) (gS 2))) sNx) (sIf (eOp D.eqO (eOp D.ix (eV 4) (eC (.int 0))) (eC (.str "para"))) (sQ (Qc (eUn D.maxL (eOp D.add (Qg (lC (eV 2) lN)) (Q2 1 [1] (QL (eOp D.ix (eV 4) (eC (.int 1)))) (gS 0) (eOp D.eqO (eOp D.ix (eV 0) (eC (.int 0))) (eC (.str "ref"))) (eOp D.add (eOp D.add (eUn D.len (eOp D.ix (eV 0) (eC (.int 2)))) (eV 1)) (eUn D.len (eOp D.ix (eV 0) (eC (.int 3)))))))) (gS 2)) (sQ (Qc (eUn D.maxL (eOp D.add (Qg (lC (eV 2) lN)) (Q2 1 [] (QL (eOp D.ix (eV 4) (eC (.int 1)))) (gS 0) (eOp D.eqO (eOp D.ix (eV 0) (eC (.int 0))) (eC (.str "word"))) (eUn D.len (eOp D.ix (eV 0) (eC (.int 1))))))) (gS 2)) (sQ (Qc (Q2 1 [] (QL (eOp D.ix (eV 4) (eC (.int 1)))) (gS 0) (eOp D.eqO (eOp D.ix (eV 0) (eC (.int 0))) (eC (.str "word"))) (eOp D.ix (eV 0) (eC (.int 2)))) (gS 5)) (sQ (Qc (eUn D.maxL (eOp D.add (Qg (lC (eV 3) lN)) (Q2 1 [] (QL (eV 5)) (gS 0) (eC (.bl true)) (eOp D.add (eC (.int 1)) (eUn D.len (eV 0)))))) (gS 3)) (Jg (QL (eV 5)) (gS 6) (Qc (eUn D.maxL (eOp D.add (Qg (lC (eV 2) lN)) (Q2 1 [] (QL (eV 6)) (gS 0) (eC (.bl true)) (eUn D.len (eV 0))))) (gS 2))))))) sNx)))
theorem QsB(B:D)(af w h:Int)(b:Bk)(hb:BkB b)(hl:(iO b).length<=100000)(u v:Option D):∃u' v',QoI [some B,some (.int af),some (.int w),some (.int h),some b.d,u,v]=some (.nx [some B,some (.int af),some (.int (ZE af w b)),some (.int (ZF h b)),some b.d,u',v']):=by
 have tg:∀(e:Qj),eV 4 e=some b.d->∀t:Str,eOp D.eqO (eOp D.ix (eV 4) (eC (.int 0))) (eC (.str t)) e=some (.bl (decide (QgA b=t))):=by
  intro e he t;have i0:=Qp8 b;generalize Bk.d b=X at*;simp only[eOp,eC,he,bind_some,i0,eqS]
 unfold QoI;cases b with
 |chapter t l=>have ln:=Qak (x:=t) (by have:=hb.2;omega);refine⟨u,v,?_⟩;refine st (e1:=[some B,some (.int af),some (.int (ZE af w (.chapter t l))),some (.int h),some (Bk.chapter t l).d,u,v]) (by simp[sIf,eOr,eOp,eV,eC,D.ix,ixD,eqS,Qk,Qc,gS,eUn,ln,add_int,D.max2,ZE]) ?_;simp[sQ,QK,sIf,eOr,eOp,eV,eC,D.ix,ixD,eqS,Qk,sNx,ZF]|heading t k l=>
  have ln:=Qak (x:=t) (by have:=hb.1.2;omega);refine⟨u,v,?_⟩;refine st (e1:=[some B,some (.int af),some (.int (ZE af w (.heading t k l))),some (.int h),some (Bk.heading t k l).d,u,v]) (by simp[sIf,eOr,eOp,eV,eC,D.ix,ixD,eqS,Qk,Qc,gS,eUn,ln,add_int,D.max2,ZE]) ?_;simp[sQ,QK,sIf,eOr,eOp,eV,eC,D.ix,ixD,eqS,Qk,sNx,Qc,gS,D.max2,add_int,ZF]|plates n l=>
  refine⟨u,v,?_⟩;simp[sQ,QK,sIf,eOr,eOp,eV,eC,D.ix,ixD,eqS,Qk,sNx,ZF,ZE]|table rs l=>
  refine⟨u,v,?_⟩;refine st (e1:=[some B,some (.int af),some (.int w),some (.int h),some (Bk.table rs l).d,u,v]) (by simp[sIf,eOr,eOp,eV,eC,D.ix,ixD,eqS,Qk,sNx]) ?_;refine st (e1:=[some B,some (.int af),some (.int w),some (.int h),some (Bk.table rs l).d,u,v]) (by simp[sIf,eOr,eOp,eV,eC,D.ix,ixD,eqS,Qk,sNx]) ?_;refine st (e1:=[some B,some (.int af),some (.int (ZE af w (.table rs l))),some (.int (ZF h (.table rs l))),some (Bk.table rs l).d,u,v]) ?_ (by simp[sIf,eOp,eV,eC,D.ix,ixD,eqS,Qk,sNx]);refine ifT (by rw[tg _ rfl];simp[QgA]) ?_;refine st (e1:=[some B,some (.int af),some (.int w),some (.int (ZF h (.table rs l))),some (Bk.table rs l).d,u,v]) ?_ ?_
  ·have ln:=Qas rs;simp only[Bk.d];generalize QH rs=N at*;simp[Qc,eOp,eV,eC,eUn,D.ix,ixD,ln,D.max2,gS,ZF]
  ·refine asg (QdQ (Qaj rs) rfl (Qlt rs rfl (by have:=hb.1.2;omega) (λr hr=>by have:=hb.2 r hr;omega)) (by unfold Qaj;rw[length_map];have:=hb.1.2;omega)) rfl|para is=>
  have dI:is.length<=100000:=hl;have hi:∀i∈is,ItB i:=hb;obtain⟨W1,e1⟩:∃W1,J1 w ((is.filter Jk).map (QeZ af))=W1:=⟨_,rfl⟩;obtain⟨W2,e2⟩:∃W2,J1 W1 ((is.filter J9).map QeX)=W2:=⟨_,rfl⟩;obtain⟨v',hv⟩:=QqY (some B) (some (.int af)) (some (.int (ZF h (.para is)))) (some (Bk.para is).d) (some (.lst ((YJ is).map QH))) (YJ is) (QiI hi) W2 v rfl;have l1:((is.filter Jk).map (QeZ af)).length<=1000000:=by rw[length_map];have:=length_filter_le Jk is;omega
  have l2:((is.filter J9).map QeX).length<=1000000:=by rw[length_map];have:=length_filter_le J9 is;omega
  have l3:=QqX is;refine⟨some (.lst ((YJ is).map QH)),v',?_⟩;refine st (e1:=[some B,some (.int af),some (.int w),some (.int h),some (Bk.para is).d,u,v]) (by simp[sIf,eOr,eOp,eV,eC,D.ix,ixD,eqS,Qk,sNx]) ?_;refine st (e1:=[some B,some (.int af),some (.int w),some (.int h),some (Bk.para is).d,u,v]) (by simp[sIf,eOr,eOp,eV,eC,D.ix,ixD,eqS,Qk,sNx]) ?_;refine st (e1:=[some B,some (.int af),some (.int w),some (.int h),some (Bk.para is).d,u,v]) (by simp[sIf,eOr,eOp,eV,eC,D.ix,ixD,eqS,Qk,sNx]) ?_;refine ifT (by rw[tg _ rfl];simp[QgA]) ?_;refine st (e1:=[some B,some (.int af),some (.int W1),some (.int h),some (Bk.para is).d,u,v]) (by rw[<-e1];exact asg (QdQ _ rfl (QtL af is rfl rfl (by omega) hi) l1) rfl) ?_;refine st (e1:=[some B,some (.int af),some (.int W2),some (.int h),some (Bk.para is).d,u,v]) (by rw[<-e2];exact asg (QdQ _ rfl (QrZ is rfl (by omega) hi) l2) rfl) ?_;refine st (e1:=[some B,some (.int af),some (.int W2),some (.int h),some (Bk.para is).d,some (.lst ((YJ is).map QH)),v]) (asg (QqZ is rfl (by omega)) rfl) ?_;refine st (e1:=[some B,some (.int af),some (.int W2),some (.int (ZF h (.para is))),some (Bk.para is).d,some (.lst ((YJ is).map QH)),v]) (asg (QdQ _ rfl (Qsn (YJ is) rfl (by omega)) (by rw[length_map];omega)) rfl) ?_;have fin:ZE af w (.para is)=(YJ is).foldl (λw ns=>J1 w (Qaj ns)) W2:=by rw[<-e2,<-e1];rfl
  rw[fin];exact hv
def QoH(af:Int)(bs:List Bk):Int×Int:=bs.foldl (λs b=>(ZE af s.1 b,ZF s.2 b)) (4,2)
theorem Qsv(bs:List Bk)(af:Int)(hf:Few bs)(hb:∀b∈bs,BkB b):QcG [bks bs,.int af]=some (.tup [.int (QoH af bs).1,.int (QoH af bs).2]):=by
 unfold QcG Qg8;refine stD rfl ?_;refine st (e1:=[some (bks bs),some (.int af),some (.int 4),none,none,none,none]) rfl ?_;refine st (e1:=[some (bks bs),some (.int af),some (.int 4),some (.int 2),none,none,none]) rfl ?_;refine QpQ (b:=QoI) Bk.d bs (λ(s:Int×Int)e=>∃a u v,e=[some (bks bs),some (.int af),some (.int s.1),some (.int s.2),a,u,v]) (λs b=>(ZE af s.1 b,ZF s.2 b)) (4,2) rfl ⟨none,none,none,rfl⟩ ?_ ?_
 ·rintro b hm s e⟨a,u,v,rfl⟩;obtain⟨u',v',h⟩:=QsB (bks bs) af s.1 s.2 b (hb b hm) (Y1 hf b hm) u v;exact⟨_,.inl (bnd (e1:=[some (bks bs),some (.int af),some (.int s.1),some (.int s.2),some b.d,u,v]) rfl h),_,_,_,rfl⟩
 ·rintro e⟨a,u,v,rfl⟩;exact ret rfl
theorem Qmn(s:String):(Str.ofString s).length=s.toList.length:=by show(cpsOfBytes 0 0 s.toByteArray.data.toList).toArray.size=_;rw[cpsOfBytes_string];simp
noncomputable def Yd(n:Nat):Nat:=(Nat.toDigits 10 n).length
theorem Qnw(n:Nat):(Str.ofString (toString (n:Int))).length=Yd n:=by rw[Qmn];show(Nat.repr n).toList.length=_;rw[Nat.toList_repr];rfl
theorem QcL(n:Nat):1<=Yd n:=Nat.length_toDigits_pos
theorem Qn3(n:Nat):n<10^Yd n:=(Nat.length_toDigits_le_iff (by decide) (QcL n)).mp (le_refl _)
theorem QuP(n:Nat)(h:n<10^60):Yd n<=60:=(Nat.length_toDigits_le_iff (by decide) (by decide)).mpr h
def QD(i:It):Bool:=J9 i||Jk i
def JA(li:Bool):Bk->Int|.chapter _ _=>2+if li then 2 else 0|.heading _ _ _=>2+if li then 2 else 0|.table _ _=>2|.plates n _=>2+n|.para is=>2+2*((is.filter QD).length:Int)
def most(li:Bool)(bs:List Bk):Int:=bs.foldl (λs b=>s+JA li b) 3
theorem QtC{it:EvI}{e:Qj}(is:List It)(hit:it e=some (is.map It.d))(hl:is.length<=1000000):Q2 1 [] it (gS 0) (eOr (eOp D.eqO (eOp D.ix (eV 0) (eC (.int 0))) (eC (.str "word"))) (eOp D.eqO (eOp D.ix (eV 0) (eC (.int 0))) (eC (.str "ref")))) (eV 0) e=some (.lst ((is.filter QD).map It.d)):=by rw[Zh (g:=gS 0) (n:=1) (caps:=[]) (c:=eOr (eOp D.eqO (eOp D.ix (eV 0) (eC (.int 0))) (eC (.str "word"))) (eOp D.eqO (eOp D.ix (eV 0) (eC (.int 0))) (eC (.str "ref")))) (el:=eV 0) It.d is (λe=>∃v,e=[v]) QD It.d hit (lB hl) ⟨none,rfl⟩ (by rintro i hm e⟨v,rfl⟩;refine⟨[some i.d],rfl,⟨_,rfl⟩,?_,λh=>rfl⟩;have h1:=Qfj i;have h2:=QkI i;have h3:=Qiy i;unfold QD;generalize It.d i=X at*;cases q:J9 i<;>rw[q]at h2<;>simp[eOr,eOp,eV,eC,h1,eqS,h2,h3,Qk])]
theorem Qvh(m:Int):D.mulA (.int 2) (.int m)=some (.int (2*m)):=(QG 2 m).trans (QfV (by decide))
theorem Quk(bs:List Bk)(li:Bool)(hf:Few bs):QdT [bks bs,.bl li]=some (.int (most li bs)):=by
 unfold QdT QiW;refine stD rfl ?_;refine st (e1:=[some (bks bs),some (.bl li),some (.int 3),none]) rfl ?_;refine QpQ Bk.d bs (λ(s:Int)e=>∃a,e=[some (bks bs),some (.bl li),some (.int s),a]) (λs b=>s+JA li b) 3 rfl ⟨none,rfl⟩ ?_ ?_
 ·rintro b hm s e⟨a,rfl⟩;refine⟨[some (bks bs),some (.bl li),some (.int (s+JA li b)),some b.d],.inl (bnd (e1:=[some (bks bs),some (.bl li),some (.int s),some b.d]) rfl ?_),_,rfl⟩;have hl:=Y1 hf b hm;generalize bks bs=B at*;refine st (e1:=[some B,some (.bl li),some (.int (s+2)),some b.d]) rfl ?_;have cd:∀(d:D)(t:Str),D.ix d (.int 0)=some (.str t)->QM (eV 1) (eOr (eOp D.eqO (eOp D.ix (eV 3) (eC (.int 0))) (eC (.str "chapter"))) (eOp D.eqO (eOp D.ix (eV 3) (eC (.int 0))) (eC (.str "heading")))) [some B,some (.bl li),some (.int (s+2)),some d]=some (.bl (li&&(decide (t="chapter")||decide (t="heading")))):=by intro d t h;cases li with|false=>exact YW rfl|true=>
    refine YB rfl ?_;by_cases z:t=Str.ofString "chapter"
    ·rw[decide_eq_true z];exact orT (opE (opE rfl rfl h) rfl (by rw[eqS,decide_eq_true z]))
    ·rw[decide_eq_false z,Bool.false_or,Bool.true_and];exact orF (opE (opE rfl rfl h) rfl (by rw[eqS,decide_eq_false z])) (opE (opE rfl rfl h) rfl (eqS _ _))
  have fu:∀(d:D)(t:Str)(m:Int),D.ix d (.int 0)=some (.str t)->(decide (t="chapter")||decide (t="heading"))=true->t≠"plates"->t≠"para"->s+m=s+2+(if li then 2 else 0)->sQ (sIf (QM (eV 1) (eOr (eOp D.eqO (eOp D.ix (eV 3) (eC (.int 0))) (eC (.str "chapter"))) (eOp D.eqO (eOp D.ix (eV 3) (eC (.int 0))) (eC (.str "heading"))))) (Qc (eOp D.add (eV 2) (eC (.int 2))) (gS 2)) (sNx)) (sQ (sIf (eOp D.eqO (eOp D.ix (eV 3) (eC (.int 0))) (eC (.str "plates"))) (Qc (eOp D.add (eV 2) (eOp D.ix (eV 3) (eC (.int 1)))) (gS 2)) (sNx)) (sIf (eOp D.eqO (eOp D.ix (eV 3) (eC (.int 0))) (eC (.str "para"))) (Qc (eOp D.add (eV 2) (eOp D.mulA (eC (.int 2)) (eUn D.len (Q2 1 [] (QL (eOp D.ix (eV 3) (eC (.int 1)))) (gS 0) (eOr (eOp D.eqO (eOp D.ix (eV 0) (eC (.int 0))) (eC (.str "word"))) (eOp D.eqO (eOp D.ix (eV 0) (eC (.int 0))) (eC (.str "ref")))) (eV 0))))) (gS 2)) (sNx))) [some B,some (.bl li),some (.int (s+2)),some d]=some (.nx [some B,some (.bl li),some (.int (s+m)),some d]):=by intro d t m h ht h1 h2 hm;have c:=cd d t h;rw[ht,Bool.and_true]at c;rw[hm];refine st (e1:=[some B,some (.bl li),some (.int (s+2+(if li then 2 else 0))),some d]) ?_ (st (ifF (opE (opE rfl rfl h) rfl (by rw[eqS,decide_eq_false h1])) rfl) (ifF (opE (opE rfl rfl h) rfl (by rw[eqS,decide_eq_false h2])) rfl));cases li with|true=>exact ifT c rfl|false=>
    refine(ifF c rfl).trans ?_;rw[if_neg (by decide),Int.add_zero];rfl
  have non:∀(d:D)(t:Str),D.ix d (.int 0)=some (.str t)->(decide (t="chapter")||decide (t="heading"))=false->QM (eV 1) (eOr (eOp D.eqO (eOp D.ix (eV 3) (eC (.int 0))) (eC (.str "chapter"))) (eOp D.eqO (eOp D.ix (eV 3) (eC (.int 0))) (eC (.str "heading")))) [some B,some (.bl li),some (.int (s+2)),some d]=some (.bl false):=by intro d t h ht;have c:=cd d t h;rw[ht,Bool.and_false]at c;exact c
  cases b with
  |para is=>
   have dI:is.length<=1000000:=le_trans (show is.length<=100000 from hl) (by decide);refine st (e1:=[some B,some (.bl li),some (.int (s+2)),some (Bk.para is).d]) (ifF (non _ "para" rfl (by simp)) rfl) ?_;refine st (e1:=[some B,some (.bl li),some (.int (s+2)),some (Bk.para is).d]) (ifF (opE (x:=.str "para") (opE (x:=(Bk.para is).d) rfl rfl rfl) rfl (by rw[eqS];simp)) rfl) ?_;refine ifT (opE (x:=.str "para") (opE (x:=(Bk.para is).d) rfl rfl rfl) rfl (by rw[eqS];simp)) ?_;have hc:=QtC (it:=QL (eOp D.ix (eV 3) (eC (.int 1)))) (e:=[some B,some (.bl li),some (.int (s+2)),some (Bk.para is).d]) is rfl dI;have ln:D.len (.lst ((is.filter QD).map It.d))=some (.int (is.filter QD).length):=by show some (D.int ((is.filter QD).map It.d).length)=_;rw[length_map]
   have fin:s+JA li (.para is)=s+2+2*((is.filter QD).length:Int):=by show s+(2+2*((is.filter QD).length:Int))=_;omega
   rw[fin];generalize((is.filter QD).length:Int)=m at*;refine asg ?_ rfl;simp only[eOp,eUn,hc,bind_some,ln,eC,Qvh,eV,getElem?_cons_zero,getElem?_cons_succ,join_some,add_int]|chapter t l=>exact fu _ "chapter" _ rfl (by simp) (by simp) (by simp) (by show s+(2+(if li then 2 else 0))=_;omega)|heading t k l=>exact fu _ "heading" _ rfl (by simp) (by simp) (by simp) (by show s+(2+(if li then 2 else 0))=_;omega)|table rs l=>exact st (ifF (non _ "table" rfl (by simp)) rfl) (st (ifF (opE (x:=.str "table") (opE (x:=(Bk.table rs l).d) rfl rfl rfl) rfl (by rw[eqS];simp)) rfl) (ifF (opE (x:=.str "table") (opE (x:=(Bk.table rs l).d) rfl rfl rfl) rfl (by rw[eqS];simp)) rfl))|plates n l=>
   have fin:s+JA li (.plates n l)=s+2+n:=by show s+(2+n)=_;omega
   rw[fin];exact st (ifF (non _ "plates" rfl (by simp)) rfl) (st (e1:=[some B,some (.bl li),some (.int (s+2+n)),some (Bk.plates n l).d]) (ifT (opE (x:=.str "plates") (opE (x:=(Bk.plates n l).d) rfl rfl rfl) rfl (by rw[eqS];simp)) (asg (opE rfl (opE (x:=(Bk.plates n l).d) rfl rfl rfl) rfl) rfl)) (ifF (opE (x:=.str "plates") (opE (x:=(Bk.plates n l).d) rfl rfl rfl) rfl (by rw[eqS];simp)) rfl))
 ·rintro e⟨a,rfl⟩;exact ret rfl
def Qaf(ns:List Int):Int:=1+mix (cell ns 4) 19%6
def Z0(ns:List Int)(w h:Int)(li:Bool):List Bk:=if li=true\/cell ns 4%3≠1 then[]else[.plates (10^(Qaf ns).toNat-2) "",.table (List.replicate (h-1).toNat "") "",.para [.word (YV "w" (if w-1-Qaf ns>1 then w-1-Qaf ns else 1)) [],.mark "z",.ref "z" "" ""]]
theorem Qcc(ns:List Int):1<=Qaf ns/\Qaf ns<=6:=by unfold Qaf;omega
theorem Qn0(ns:List Int)(w h:Int)(o li:Bool)(hw:4<=w/\w<=1000)(hh:2<=h/\h<=1000):QdU [.scr ns,.tup [.int w,.int h,.bl o,.bl li]]=some (bks (Z0 ns w h li)):=by
 have c4:Jm [.scr ns,.int 4]=some (.int (cell ns 4)):=Qcg ns 4;have kn:=Qcn (cell ns 4) 19 (by decide) (by decide);unfold QdU QiX Z0;by_cases z:li=true\/cell ns 4%3≠1
 ·rw[if_pos z];refine stD rfl ?_;refine stR ?_;rcases z with z|z;·subst z;simp[sIf,eOr,eOp,eV,eC,D.ix,ixD,Qk,Qi,Qg,lN,bks,sD]
  ·cases li<;>simp[sIf,eOr,eOp,eV,eC,D.ix,ixD,Qk,Qi,Qg,lN,lC,eK,c4,Yc,D.neO,Qr,D.cmpN,QC,z,bks,sD]
 ·rw[if_neg z];have z1:li=false:=by cases li<;>simp_all
  have z2:cell ns 4%3=1:=by simp_all
  subst z1;obtain⟨eb0,eb1⟩:=Qcc ns;have en:1+mix (cell ns 4) 19%6=Qaf ns:=rfl;generalize Qaf ns=N at*;refine stD rfl ?_;refine st (e1:=[some (.scr ns),some (.tup [.int w,.int h,.bl o,.bl false]),none,none,none,none]) (by simp[sIf,eOr,eOp,eV,eC,D.ix,ixD,Qk,Qi,Qg,lN,lC,eK,c4,Yc,D.neO,Qr,D.cmpN,QC,z2,sD,sNx]) ?_;refine st (e1:=[some (.scr ns),some (.tup [.int w,.int h,.bl o,.bl false]),some (.int N),none,none,none]) (by simp[Qc,eOp,eV,eC,lN,lC,eK,c4,kn,Yc,add_int,en,gS]) ?_;refine st (e1:=[some (.scr ns),some (.tup [.int w,.int h,.bl o,.bl false]),some (.int N),some (.int 1),none,none]) rfl ?_;obtain⟨v,el⟩:=Qxu 1 (some (.scr ns)) (some (.tup [.int w,.int h,.bl o,.bl false])) (some (.int N)) none none (rD 0 N.toNat);rw[Qlh,Int.one_mul]at el;have gT:(10:Int)^N.toNat<=10^6:=by
   have:N=1\/N=2\/N=3\/N=4\/N=5\/N=6:=by omega
   rcases this with q|q|q|q|q|q<;>subst q<;>decide
  refine st (e1:=[some (.scr ns),some (.tup [.int w,.int h,.bl o,.bl false]),some (.int N),some (.int (10^N.toNat)),v,none]) (by unfold Jg Vs;simp only[eV,getElem?_cons_zero,getElem?_cons_succ,join_some,bind_some,QvD N (by omega)];exact el) ?_;generalize(10:Int)^N.toNat=T at*;have mx:D.max2 (.int 1) (.int (w-1-N))=some (.int (if w-1-N>1 then w-1-N else 1)):=rfl;obtain⟨M,eM,M0,M1⟩:∃M:Int,(if w-1-N>1 then w-1-N else 1)=M/\1<=M/\M<=1000:=⟨_,rfl,by split<;>omega,by split<;>omega⟩;rw[eM]at mx⊢;have wl:(Str.ofString "w").length=1:=by decide+kernel
  have mw:D.mulA (.str (Str.ofString "w")) (.int M)=some (.str (YV (Str.ofString "w") M)):=QnJ ⟨by omega,by omega,lB (by rw[wl];omega)⟩;generalize YV (Str.ofString "w") M=WW at*;refine st (e1:=[some (.scr ns),some (.tup [.int w,.int h,.bl o,.bl false]),some (.int N),some (.int T),v,some (.lst ([It.word WW [],.mark "z",.ref "z" "" ""].map It.d))]) (by simp[Qc,Qg,lC,lN,Qm,eC,eOp,eV,D.ix,ixD,D.sub,mx,mw,gS,QH]) ?_;have hc:Q2 1 [] (Vs (eOp D.sub (eOp D.ix (eV 1) (eC (.int 1))) (eC (.int 1)))) (gS 0) (eC (.bl true)) (eC (.str "")) [some (.scr ns),some (.tup [.int w,.int h,.bl o,.bl false]),some (.int N),some (.int T),v,some (.lst ([It.word WW [],.mark "z",.ref "z" "" ""].map It.d))]=some (QH (List.replicate (h-1).toNat "")):=by
   obtain⟨m,em⟩:∃m:Nat,h-1=m:=⟨(h-1).toNat,by omega⟩;rw[Zh (λi:Nat=>D.int (0+(i:Int))) (List.range m) (λe=>∃v,e=[v]) (λ_=>true) (λ_=>.str "") (by show D.rng (.int (h-1))=_;rw[em];exact Qf6 m (by omega)) (lB (by simp;omega)) ⟨none,rfl⟩ (by
    rintro i hi e⟨v,rfl⟩;exact⟨[some (.int (0+(i:Int)))],rfl,⟨_,rfl⟩,rfl,λ_=>rfl⟩)];rw[Z8,em];unfold QH;simp[List.map_const']
  have ds:D.sub (.int T) (.int 2)=some (.int (T-2)):=rfl;refine ret ?_;simp only[Qg,lC,Qm,lN,hc,eOp,eC,eV,getElem?_cons_zero,getElem?_cons_succ,join_some,bind_some,map_some,ds];rfl
noncomputable def Vh(c:Int)(k:Nat):At:=if h:k<58 then Classical.choose (Qoe c k h)else .brk
theorem QfE(c:Int)(k:Nat)(h:k<58):Qat [.int c,.int k]=some (Vh c k).d/\QrY k (Vh c k):=by unfold Vh;rw[dif_pos h];exact Classical.choose_spec (Qoe c k h)
def ZG(ns:List Int):List Int:=Z1 ns none (some 63)++[7]
theorem Qrs(ns:List Int):(Z1 ns none (some 63)).length<=63:=by unfold Z1 YA;rw[length_take];simp only[];rw[if_neg (by decide)];omega
def VE:Nat:=35
def JS(ns:List Int):List Int:=(List.range (mix (cell ns 5) 29%VE).toNat).map λk:Nat=>(ZG ns).getD ((k:Int)%((ZG ns).length:Int)).toNat 0
theorem Qpz(ns:List Int):(JS ns).length<VE:=by unfold JS;rw[length_map,length_range];have h1:=emod_lt_of_pos (mix (cell ns 5) 29) (show(0:Int)<VE by decide);have h2:=emod_nonneg (mix (cell ns 5) 29) (show(VE:Int)≠0 by decide);omega
theorem QjK:VE<=58:=by decide
noncomputable def Jz(cs:List Int):List At:=cs.zipIdx.map λp=>Vh p.1 p.2
theorem Qb7(cs:List Int):(Jz cs).length=cs.length:=by unfold Jz;simp
noncomputable def QbX(cs:List Int):List Bk:=(grp (Jh cs (Jz cs)++[.fin])).1
def AtB:At->Prop|.bk (.para _)=>False|.bk b=>BkB b|.it i=>ItB i|.brk=>True|.fin=>False
theorem QwJ{k:Nat}:∀{a:At},QrY k a->AtB a|.brk,h=>trivial|.bk (.chapter t l),h=>h.1|.bk (.heading t n l),h=>⟨h.1,h.2.1⟩|.bk (.table rs l),h=>⟨h.1,h.2.1⟩|.bk (.plates n l),h=>h.1|.it (.mark l),h=>trivial|.it (.key w),h=>h|.it (.ref l a b),h=>h.2|.it (.word w ns),h=>h|.bk (.para _),h=>h.elim|.fin,h=>h.elim
theorem Qf0:∀{a:At},AtB a->AtS a|.brk,h=>trivial|.bk (.chapter t l),h=>trivial|.bk (.heading t n l),h=>trivial|.bk (.table rs l),h=>trivial|.bk (.plates n l),h=>trivial|.it _,h=>trivial|.bk (.para _),h=>h.elim|.fin,h=>h.elim
theorem Qwa:ItB (.word (Str.ofString "lost") []):=⟨by decide+kernel,by simp,by simp⟩
theorem Qxf:ItB (.word (Str.ofString "end") []):=⟨by decide+kernel,by simp,by simp⟩
theorem QxG(ls:List Str)(cs:List Int)(i:Nat)(a:At)(h:AtB a):AtB (pt ls cs i a):=by
 unfold pt;split
 ·split;·exact Qwa
  ·exact h
 ·exact h
theorem QnK{α:Type}{xs:List α}{p:α×Nat}(h:p∈xs.zipIdx):p.2<xs.length:=by obtain⟨x,i⟩:=p;exact(List.mem_zipIdx' h).1
theorem Qg0(cs:List Int)(h:cs.length<=58):∀a∈Jz cs,AtB a:=by intro a ha;obtain⟨p,hp,rfl⟩:=List.mem_map.mp ha;exact QwJ (QfE p.1 p.2 (by have:=QnK hp;omega)).2
theorem Qjr(cs:List Int)(as:List At)(h:∀a∈as,AtB a):∀a∈Jh cs as,AtB a:=by intro a ha;unfold Jh at ha;obtain⟨i,hi,rfl⟩:=List.mem_mapIdx.mp ha;exact QxG _ _ _ _ (h _ (getElem_mem hi))
theorem Qgk(cs:List Int)(as:List At):(Jh cs as).length=as.length:=by unfold Jh;simp
theorem QpE{row:List It}(h:∀i∈row,ItB i):∀i∈Qh row,ItB i:=by
 intro i hi;unfold Qh at hi;split at hi
 ·split at hi
  ·rcases List.mem_append.mp hi with z|z;·exact h i z
   ·rw[List.mem_singleton.mp z];exact Qxf
  ·exact h i hi
 ·exact h i hi
def GB(s:List Bk×List It):Prop:=(∀b∈s.1,BkB b)/\(∀i∈s.2,ItB i)
theorem QuF{s:List Bk×List It}{a:At}(hs:GB s)(ha:AtB a\/a=.fin):GB (JM s a):=by
 obtain⟨bs,row⟩:=s;have hp:BkB (.para (Qh row)):=QpE hs.2;have h1:∀b∈bs++[.para (Qh row)],BkB b:=by
  intro b hb;rcases List.mem_append.mp hb with z|z;·exact hs.1 b z
  ·rw[List.mem_singleton.mp z];exact hp
 have h2:∀b∈(if Qh row=[]then bs else bs++[.para (Qh row)]),BkB b:=by
  intro b hb;split at hb;·exact hs.1 b hb
  ·exact h1 b hb
 cases a with
 |it i=>
  refine⟨hs.1,λj hj=>?_⟩;rcases List.mem_append.mp hj with z|z;·exact hs.2 j z
  ·rw[List.mem_singleton.mp z];rcases ha with q|q;·exact q
   ·cases q|bk b=>
  refine⟨λj hj=>?_,λj hj=>by cases hj⟩;rcases List.mem_append.mp hj with z|z;·exact h2 j z
  ·rw[List.mem_singleton.mp z];rcases ha with q|q;·cases b<;>first|exact q|exact q.elim
   ·cases q|brk=>exact⟨h1,λj hj=>by cases hj⟩|fin=>exact⟨h2,λj hj=>by cases hj⟩
theorem Qwp(as:List At):∀s,GB s->(∀a∈as,AtB a\/a=.fin)->GB (as.foldl JM s):=by induction as with|nil=>intro s h _;exact h|cons a as ih=>intro s h ha;exact ih _ (QuF h (ha a mem_cons_self)) λx hx=>ha x (mem_cons_of_mem _ hx)
def tot(s:List Bk×List It):Nat:=(s.1.flatMap iO).length+s.2.length
theorem Qre(s:List Bk×List It)(a:At)(ha:AtS a\/a=.fin):tot (JM s a)<=tot s+1:=by
 obtain⟨bs,row⟩:=s;have hc:=Qmy row;have h1:((bs++[Bk.para (Qh row)]).flatMap iO).length=(bs.flatMap iO).length+(Qh row).length:=by rw[flatMap_append,length_append];simp[iO]
 have h2:((if Qh row=[]then bs else bs++[Bk.para (Qh row)]).flatMap iO).length<=(bs.flatMap iO).length+(Qh row).length:=by
  split;·omega
  ·rw[h1];omega
 unfold tot;cases a with
 |it i=>simp only[JM,length_append,length_cons,length_nil];omega|bk b=>
  have hb:iO b=[]:=by
   rcases ha with q|q;·cases b<;>first|rfl|exact q.elim
   ·cases q
  simp only[JM,flatMap_append,length_append,length_nil,flatMap_cons,List.flatMap_nil,hb,append_nil];omega|brk=>simp only[JM,h1,length_nil];omega|fin=>simp only[JM,length_nil];omega
theorem QsR(as:List At):∀s,(∀a∈as,AtS a\/a=.fin)->tot (as.foldl JM s)<=tot s+as.length:=by induction as with|nil=>intro s _;exact le_refl _|cons a as ih=>intro s ha;have h1:=Qre s a (ha a mem_cons_self);have h2:=ih (JM s a) λx hx=>ha x (mem_cons_of_mem _ hx);rw[foldl_cons,length_cons];omega
theorem Qhq(cs:List Int)(h:cs.length<58):∀a∈Jh cs (Jz cs)++[At.fin],AtB a\/a=.fin:=by
 intro a ha;rcases List.mem_append.mp ha with z|z;·exact .inl (Qjr cs _ (Qg0 cs (by omega)) a z)
 ·exact .inr (List.mem_singleton.mp z)
theorem Qu1(cs:List Int)(h:cs.length<58):∀b∈QbX cs,BkB b:=(Qwp _ ([],[]) (by simp[GB]) (Qhq cs h)).1
theorem QjL(cs:List Int)(h:cs.length<58):(QbX cs).length<=116/\((QbX cs).flatMap iO).length<=58:=by
 have h1:=(QnT (Jh cs (Jz cs)++[At.fin]) ([],[])).1;have h2:=QsR (Jh cs (Jz cs)++[At.fin]) ([],[]) (λa ha=>by
  rcases Qhq cs h a ha with z|z;·exact .inl (Qf0 z)
  ·exact .inr z);have hl:(Jh cs (Jz cs)++[At.fin]).length<=58:=by rw[length_append,Qgk,Qb7];simp;omega
 unfold tot at h2;unfold QbX grp;simp at h1 h2 hl⊢;omega
theorem Qta(cs:List Int)(h:cs.length<58):Vb [.lst ((Jh cs (Jz cs)).map At.d)]=some (bks (QbX cs)):=Qpl _ (by rw[Qgk,Qb7];omega) λa ha=>Qf0 (Qjr cs _ (Qg0 cs (by omega)) a ha)
theorem QdP{m M:Int}{xs:List Int}(h:m<=M)(hx:∀x∈xs,x<=M):J1 m xs<=M:=by
 rcases(QbJ xs m).1 with z|z;·rw[z];exact h
 ·exact hx _ z
theorem Qca(m:Int)(xs:List Int):m<=J1 m xs:=(QbJ xs m).2.1
theorem QcC{m x:Int}{xs:List Int}(h:x∈xs):x<=J1 m xs:=(QbJ xs m).2.2 x h
theorem Qb3(bO:List (List Str)):∀w,w<=bO.foldl (λw ns=>J1 w (Qaj ns)) w:=by induction bO with|nil=>intro w;exact Int.le_refl _|cons ns bO ih=>intro w;exact Int.le_trans (Qca w _) (ih _)
theorem Qpm{M:Int}(bO:List (List Str))(h:∀ns∈bO,∀r∈ns,(r.length:Int)<=M):∀w,w<=M->bO.foldl (λw ns=>J1 w (Qaj ns)) w<=M:=by induction bO with|nil=>intro w hw;exact hw|cons ns bO ih=>intro w hw;refine ih (λx hx=>h x (mem_cons_of_mem _ hx)) _ (QdP hw λx hx=>?_);obtain⟨r,hr,rfl⟩:=List.mem_map.mp hx;exact h ns mem_cons_self r hr
theorem Qnf(bO:List (List Str)):∀w,∀ns∈bO,∀r∈ns,(r.length:Int)<=bO.foldl (λw ns=>J1 w (Qaj ns)) w:=by induction bO with|nil=>intro w ns h;cases h|cons n0 bO ih=>
  intro w ns h r hr;rcases List.mem_cons.mp h with z|z
  ·subst z;exact Int.le_trans (QcC (m:=w) (List.mem_map.mpr ⟨r,hr,rfl⟩)) (Qb3 bO _)
  ·exact ih _ ns z r hr
theorem Qjy{is:List It}{w:Str}{ns:List Str}(h:It.word w ns∈is):ns∈YJ is:=List.mem_map.mpr ⟨_,List.mem_filter.mpr ⟨h,rfl⟩,rfl⟩
theorem Qsx{af w M:Int}{b:Bk}(hb:BkB b)(h0:0<=af)(hM:43+af<=M)(hw:w<=M):ZE af w b<=M:=by cases b with|chapter t l=>have:=hb.2;simp only[ZE];split<;>omega|heading t k l=>have:=hb.1.2;simp only[ZE];split<;>omega|plates n l=>exact hw|table rs l=>refine QdP hw λx hx=>?_;obtain⟨r,hr,rfl⟩:=List.mem_map.mp hx;have:=hb.2 r hr;omega|para is=>
  have hi:∀i∈is,ItB i:=hb;refine Qpm _ (λns hn r hr=>?_) _ (QdP (QdP hw λx hx=>?_) λx hx=>?_);·have:=(QiI hi ns hn).2 r hr;omega
  ·obtain⟨i,hr,rfl⟩:=List.mem_map.mp hx;have h1:=hi i (List.mem_filter.mp hr).1;cases i with
   |ref l a b=>have:=h1.1;have:=h1.2;simp only[QeZ];omega|_=>simp only[QeZ];omega
  ·obtain⟨i,hr,rfl⟩:=List.mem_map.mp hx;have h1:=hi i (List.mem_filter.mp hr).1;cases i with|word w ns=>have:=h1.1.2;simp only[QeX];omega|_=>simp only[QeX];omega
theorem Qsz{h M:Int}{b:Bk}(hb:BkB b)(hM:31<=M)(hh:h<=M):ZF h b<=M:=by cases b with|heading t k l=>have:=hb.2;simp only[ZF];split<;>omega|table rs l=>have:=hb.1;simp only[ZF];split<;>omega|para is=>refine QdP hh λx hx=>?_;obtain⟨ns,hn,rfl⟩:=List.mem_map.mp hx;have:=(QiI (show∀i∈is,ItB i from hb) ns hn).1;omega|_=>exact hh
theorem Qsy(af w:Int)(b:Bk):w<=ZE af w b:=by cases b with|chapter t l=>simp only[ZE];split<;>omega|heading t k l=>simp only[ZE];split<;>omega|plates n l=>exact Int.le_refl _|table rs l=>exact Qca _ _|para is=>exact Int.le_trans (Int.le_trans (Qca _ _) (Qca _ _)) (Qb3 _ _)
theorem QsA(h:Int)(b:Bk):h<=ZF h b:=by cases b with|heading t k l=>simp only[ZF];split<;>omega|table rs l=>simp only[ZF];split<;>omega|para is=>exact Qca _ _|_=>exact Int.le_refl _
noncomputable def Qe7(af w h:Int):It->Prop|.word x ns=>(x.length:Int)<=w/\1+(ns.length:Int)<=h/\∀r∈ns,(r.length:Int)<=w|.ref _ a b=>(a.length:Int)+af+b.length<=w|_=>True
def Qa7(af w h:Int):Bk->Prop|.chapter t _=>(t.length:Int)+2+af<=w|.heading t k _=>(t.length:Int)+2+af<=w/\k+1<=h|.table rs _=>(rs.length:Int)<=h/\∀r∈rs,(r.length:Int)<=w|.para is=>∀i∈is,Qe7 af w h i|.plates _ _=>True
theorem Qrf{af w h w' h':Int}{i:It}(hw:w<=w')(hh:h<=h')(f:Qe7 af w h i):Qe7 af w' h' i:=by cases i with|word x ns=>exact⟨Int.le_trans f.1 hw,Int.le_trans f.2.1 hh,λr hr=>Int.le_trans (f.2.2 r hr) hw⟩|ref l a b=>exact Int.le_trans f hw|_=>trivial
theorem QjH{af w h w' h':Int}{b:Bk}(hw:w<=w')(hh:h<=h')(f:Qa7 af w h b):Qa7 af w' h' b:=by cases b with|chapter t l=>exact Int.le_trans f hw|heading t k l=>exact⟨Int.le_trans f.1 hw,Int.le_trans f.2 hh⟩|table rs l=>exact⟨Int.le_trans f.1 hh,λr hr=>Int.le_trans (f.2 r hr) hw⟩|para is=>exact λi hi=>Qrf hw hh (f i hi)|plates n l=>trivial
theorem Qsw(af w h:Int)(b:Bk):Qa7 af (ZE af w b) (ZF h b) b:=by cases b with
 |chapter t l=>show _<=ZE _ _ _;simp only[ZE];split<;>omega|heading t k l=>
  refine⟨?_,?_⟩;·simp only[ZE];split<;>omega
  ·simp only[ZF];split<;>omega|plates n l=>trivial|table rs l=>
  refine⟨?_,λr hr=>QcC (List.mem_map.mpr ⟨r,hr,rfl⟩)⟩;simp only[ZF];split<;>omega|para is=>
  intro i hi;cases i with
  |word x ns=>
   refine⟨Int.le_trans (QcC (List.mem_map.mpr ⟨It.word x ns,List.mem_filter.mpr ⟨hi,rfl⟩,rfl⟩)) (Qb3 _ _),?_,λr hr=>?_⟩;·exact QcC (List.mem_map.mpr ⟨ns,Qjy hi,rfl⟩)
   ·exact Qnf _ _ ns (Qjy hi) r hr|ref l a b=>exact Int.le_trans (Int.le_trans (QcC (List.mem_map.mpr ⟨It.ref l a b,List.mem_filter.mpr ⟨hi,rfl⟩,rfl⟩)) (Qca _ _)) (Qb3 _ _)|_=>trivial
theorem Qjw(af M H:Int)(h0:0<=af)(hM:43+af<=M)(hH:31<=H):∀(bs:List Bk)(s:Int×Int),(∀b∈bs,BkB b)->s.1<=M->s.2<=H->let r:=bs.foldl (λs b=>(ZE af s.1 b,ZF s.2 b)) s
  s.1<=r.1/\r.1<=M/\s.2<=r.2/\r.2<=H/\∀b∈bs,Qa7 af r.1 r.2 b
 |[],s,_,h1,h2=>⟨Int.le_refl _,h1,Int.le_refl _,h2,λ_ h=>by cases h⟩|b::bs,s,hb,h1,h2=>by
  obtain⟨a1,a2,a3,a4,a5⟩:=Qjw af M H h0 hM hH bs (ZE af s.1 b,ZF s.2 b) (λx hx=>hb x (mem_cons_of_mem _ hx)) (Qsx (hb b mem_cons_self) h0 hM h1) (Qsz (hb b mem_cons_self) hH h2);refine⟨Int.le_trans (Qsy _ _ _) a1,a2,Int.le_trans (QsA _ _) a3,a4,λx hx=>?_⟩;rcases List.mem_cons.mp hx with z|z;·subst z;exact QjH a1 a3 (Qsw af s.1 s.2 x)
  ·exact a5 x z
theorem Qtc{li:Bool}{b:Bk}(hb:BkB b)(hl:(iO b).length<=1000):2<=JA li b/\JA li b<=10^39+3000:=by
 have:(3000:Int)<=10^39:=by decide
 cases b with
 |chapter t l=>simp only[JA];split<;>omega|heading t k l=>simp only[JA];split<;>omega|table rs l=>simp only[JA];omega|plates n l=>have h1:=hb.1;have h2:=hb.2;simp only[JA];omega|para is=>have h1:=length_filter_le QD is;have h2:is.length<=1000:=hl;simp only[JA];omega
theorem Qp4(li:Bool):∀(bs:List Bk)(s:Int),(∀b∈bs,BkB b/\(iO b).length<=1000)->s<=bs.foldl (λs b=>s+JA li b) s/\bs.foldl (λs b=>s+JA li b) s<=s+bs.length*(10^39+3000)
 |[],s,_=>by simp|b::bs,s,h=>by
  have h1:=Qtc (li:=li) (h b mem_cons_self).1 (h b mem_cons_self).2;have h2:=Qp4 li bs (s+JA li b) (λx hx=>h x (mem_cons_of_mem _ hx));rw[foldl_cons,length_cons];refine⟨by omega,Int.le_trans h2.2 ?_⟩;have:((bs.length+1:Nat):Int)*(10^39+3000)=bs.length*(10^39+3000)+(10^39+3000):=by rw[show((bs.length+1:Nat):Int)=(bs.length:Int)+1 from by omega,Int.add_mul,Int.one_mul]
  omega
def dLi(ns:List Int):Bool:=decide (cell ns 3%2=1)
def dO(ns:List Int):Bool:=decide (cell ns 2%2=1)
def dE0(ns:List Int):List Bk:=Z0 ns 4 2 (dLi ns)
noncomputable def dBk(ns:List Int):List Bk:=QbX (JS ns)
noncomputable def Zo(ns:List Int):Int:=most (dLi ns) (dE0 ns++dBk ns)
noncomputable def dR(ns:List Int):Int:=Yd (Zo ns).toNat
noncomputable def Js(ns:List Int):Int×Int:=QoH (dR ns) (dBk ns++dE0 ns)
noncomputable def VQ(ns:List Int):Int:=if(dE0 ns).isEmpty then(Js ns).1 else if dR ns+2>(Js ns).1 then dR ns+2 else(Js ns).1
noncomputable def dW(ns:List Int):Int:=if 4+mix (cell ns 0) 1%30>VQ ns then 4+mix (cell ns 0) 1%30 else VQ ns
noncomputable def dH(ns:List Int):Int:=if cell ns 1%5=1 then if 2+mix (cell ns 1) 4%59>(Js ns).2 then 2+mix (cell ns 1) 4%59 else(Js ns).2 else if 2+mix (cell ns 1) 2%5>(Js ns).2 then 2+mix (cell ns 1) 2%5 else(Js ns).2
noncomputable def Qo(ns:List Int):List Bk:=Z0 ns (dW ns) (dH ns) (dLi ns)++dBk ns
theorem Ys:(Str.ofString "").length=0:=by decide+kernel
theorem Qkm(n:Int):(YV (Str.ofString "w") n).length=n.toNat:=by rw[Qlq,show(Str.ofString "w").length=1 from by decide+kernel];omega
theorem Qao(ns:List Int)(w h:Int)(li:Bool):(Z0 ns w h li).length<=3/\((Z0 ns w h li).flatMap iO).length<=3:=by
 unfold Z0;split;·simp
 ·simp[iO]
theorem Qu9{n:Int}(h:1<=n/\n<=6):(10:Int)<=10^n.toNat/\(10:Int)^n.toNat<=10^6:=by
 have:n=1\/n=2\/n=3\/n=4\/n=5\/n=6:=by omega
 rcases this with q|q|q|q|q|q<;>subst q<;>decide
theorem QoN(ns:List Int):∀b∈dE0 ns,BkB b:=by
 intro b hb;unfold dE0 Z0 at hb;have h6:=Qu9 (Qcc ns);have hN:=Qcc ns;split at hb;·cases hb
 ·simp only[mem_cons,not_mem_nil,or_false]at hb;rcases hb with z|z|z
  ·subst z;have:(10:Int)^6<=10^39:=by decide
   exact⟨by omega,by omega⟩
  ·subst z;refine⟨by simp,λr hr=>?_⟩;rw[List.eq_of_mem_replicate hr,Ys];omega
  ·subst z;intro i hi;simp only[mem_cons,not_mem_nil,or_false]at hi;rcases hi with z|z|z<;>subst z
   ·refine⟨?_,by simp,by simp⟩;rw[Qkm];split<;>omega
   ·trivial
   ·exact⟨by rw[Ys];omega,by rw[Ys];omega⟩
theorem QiM{xs ys:List Bk}{a b:Nat}(h1:xs.length<=a/\(xs.flatMap iO).length<=a)(h2:ys.length<=b/\(ys.flatMap iO).length<=b)(h:a+b<=100000):Few (xs++ys):=by
 refine⟨?_,?_⟩;·rw[length_append];omega
 ·rw[flatMap_append,length_append];omega
theorem YU(ns:List Int):(JS ns).length<58:=lt_of_lt_of_le (Qpz ns) QjK
theorem QdV(ns:List Int):(dBk ns).length<=116/\((dBk ns).flatMap iO).length<=116:=by have:=QjL (JS ns) (YU ns);exact⟨this.1,by have:=this.2;unfold dBk;omega⟩
theorem Qhr(ns:List Int):∀b∈dBk ns,BkB b:=Qu1 _ (YU ns)
theorem Qgf(ns:List Int):3<=Zo ns/\Zo ns<10^42:=by
 have h:=Qp4 (dLi ns) (dE0 ns++dBk ns) 3 (λb hb=>by
  have h1:BkB b:=by
   rcases List.mem_append.mp hb with z|z;·exact QoN ns b z
   ·exact Qhr ns b z
  refine⟨h1,?_⟩;have hf:((dE0 ns++dBk ns).flatMap iO).length<=119:=by
   rw[flatMap_append,length_append];have h1:=(Qao ns 4 2 (dLi ns)).2;have h2:=(QdV ns).2;unfold dE0;omega
  obtain⟨s,t,e⟩:=List.append_of_mem hb;rw[e,flatMap_append,flatMap_cons]at hf;simp only[length_append]at hf;omega);have hl:((dE0 ns++dBk ns).length:Int)<=119:=by
  rw[length_append];have h1:=(Qao ns 4 2 (dLi ns)).1;have h2:=(QdV ns).1;unfold dE0;omega
 refine⟨h.1,?_⟩;have h2:Zo ns<=3+((dE0 ns++dBk ns).length:Int)*(10^39+3000):=h.2;have h3:((dE0 ns++dBk ns).length:Int)*(10^39+3000)<=119*(10^39+3000):=Int.mul_le_mul_of_nonneg_right hl (by decide);have h4:(3:Int)+119*(10^39+3000)<10^42:=by decide
 omega
theorem Qcf(ns:List Int):1<=dR ns/\dR ns<=42:=by
 have h:=Qgf ns;have h1:=QcL (Zo ns).toNat;have h2:Yd (Zo ns).toNat<=42:=(Nat.length_toDigits_le_iff (by decide) (by decide)).mpr (by
  have:((10^42:Nat):Int)=10^42:=by decide
  omega);unfold dR;omega
theorem QbM(ns:List Int):4<=(Js ns).1/\(Js ns).1<=85/\2<=(Js ns).2/\(Js ns).2<=31/\∀b∈dBk ns++dE0 ns,Qa7 (dR ns) (Js ns).1 (Js ns).2 b:=by
 have hr:=Qcf ns;exact Qjw (dR ns) 85 31 (by omega) (by omega) (by decide) (dBk ns++dE0 ns) (4,2) (λb hb=>by
  rcases List.mem_append.mp hb with z|z;·exact Qhr ns b z
  ·exact QoN ns b z) (by decide) (by decide)
theorem Qn6(ns:List Int):(Js ns).1<=VQ ns/\VQ ns<=85:=by
 have h1:=QbM ns;have h2:=Qcf ns;unfold VQ;split;·omega
 ·split<;>omega
theorem QkG(ns:List Int):VQ ns<=dW ns/\4<=dW ns/\dW ns<=90:=by have h1:=QbM ns;have h2:=Qn6 ns;unfold dW;split<;>omega
theorem Qe4(ns:List Int):(Js ns).2<=dH ns/\2<=dH ns/\dH ns<=60:=by
 have h1:=QbM ns;unfold dH;split;·split<;>omega
 ·split<;>omega
theorem Qk4{xs ys:List Bk}(h:xs.length+ys.length<=lI):D.add (bks xs) (bks ys)=some (bks (xs++ys)):=QoB (f:=Bk.d) h
theorem Qw3(xs:List Bk):D.neO (bks xs) (.lst [])=some (.bl (!xs.isEmpty)):=Qkx Qqi (by decide) xs
theorem Qrw(ns:List Int)(e:Qj)(hc:Qdi 1 [1] e=[none,some (.lst ((ZG ns).map .int))])(a:EvE)(ha:a e=some (.int (mix (cell ns 5) 29%VE))):Q2 1 [1] (Vs a) (gS 0) (eC (.bl true)) (eOp D.ix (eV 1) (eOp D.mod (eV 0) (eUn D.len (eV 1)))) e=some (.lst ((JS ns).map .int)):=by
 obtain⟨m,em⟩:∃m:Nat,mix (cell ns 5) 29%VE=m:=⟨(mix (cell ns 5) 29%VE).toNat,by have:=emod_nonneg (mix (cell ns 5) 29) (show(VE:Int)≠0 by decide);omega⟩;have hm:m<=58:=by
  have h1:=emod_lt_of_pos (mix (cell ns 5) 29) (show(0:Int)<VE by decide);have:=QjK;omega
 rw[Zh (λi:Nat=>D.int (0+(i:Int))) (List.range m) (λe=>∃v,e=[v,some (.lst ((ZG ns).map .int))]) (λ_=>true) (λi:Nat=>.int ((ZG ns).getD ((i:Int)%((ZG ns).length:Int)).toNat 0)) (by unfold Vs;rw[ha,em];exact Qf6 m (by omega)) (lB (by simp;omega)) ⟨none,hc⟩ (by
  rintro i hi e⟨v,rfl⟩;refine⟨[some (.int (0+(i:Int))),some (.lst ((ZG ns).map .int))],rfl,⟨_,rfl⟩,rfl,λ_=>?_⟩;have hn:(0:Int)<((ZG ns).length:Int):=by unfold ZG;simp only[length_append,length_cons,length_nil];omega
  have ln:D.len (.lst ((ZG ns).map .int))=some (.int (ZG ns).length):=by
   show some (D.int ((ZG ns).map D.int).length)=_;rw[length_map]
  have md:D.mod (.int (i:Int)) (.int ((ZG ns).length:Int))=some (.int ((i:Int)%((ZG ns).length:Int))):=Qbt hn;have eR:=Qd8 (f:=D.int) (ZG ns) ((i:Int)%((ZG ns).length:Int)) 0 (emod_nonneg _ (by omega)) (emod_lt_of_pos _ hn);generalize(ZG ns).map D.int=EV at*;simp[eOp,eV,eUn,ln,md,eR])];rw[Z8];unfold JS;rw[em,map_map];rfl
theorem QpJ(cs:List Int)(A:Int×Nat->At)(hl:cs.length<=58)(e:Qj)(h2:eV 2 e=some (.lst (cs.map .int)))(hA:∀p∈cs.zipIdx,∀j:Int,j=p.2->Qat [.int p.1,.int j]=some (A p).d):Q2 2 [] (Qbv (eV 2)) (Jp [gS 0,gS 1]) (eC (.bl true)) (eK Qat (lC (eV 1) (lC (eV 0) lN))) e=some (.lst ((cs.zipIdx.map A).map At.d)):=by rw[Zh (λp:Int×Nat=>D.tup [.int p.2,.int p.1]) cs.zipIdx (λe=>∃u v,e=[u,v]) (λ_=>true) (λp:Int×Nat=>(A p).d) (by unfold Qbv;rw[h2];show some (VP 0 (cs.map .int))=_;rw[QcJ]) (lB (by simp;omega)) ⟨none,none,rfl⟩ (by rintro p hp e⟨u,v,rfl⟩;obtain⟨j,ej⟩:∃j:Int,(p.2:Int)=j:=⟨_,rfl⟩;have h:=hA p hp j ej.symm;rw[ej];refine⟨[some (.int j),some (.int p.1)],rfl,⟨_,_,rfl⟩,rfl,λ_=>?_⟩;generalize(A p).d=X at*;simp only[eK,lC,lN,eV,getElem?_cons_zero,getElem?_cons_succ,join_some,bind_some,map_some,h])];rw[Z8,map_map];rfl
theorem QrE(ns:List Int)(e:Qj)(h2:eV 2 e=some (.lst ((JS ns).map .int))):Q2 2 [] (Qbv (eV 2)) (Jp [gS 0,gS 1]) (eC (.bl true)) (eK Qat (lC (eV 1) (lC (eV 0) lN))) e=some (.lst ((Jz (JS ns)).map At.d)):=by have hl:=YU ns;exact QpJ (JS ns) (λp=>Vh p.1 p.2) (by omega) e h2 (λp hp j ej=>by rw[ej];exact(QfE p.1 p.2 (by have:=QnK hp;omega)).1)
theorem QsY(ns:List Int):QcH [.scr ns]=some (.tup [bks (Qo ns),.tup [.int (dW ns),.int (dH ns),.bl (dO ns),.bl (dLi ns)],.int (dR ns)]):=by
 have cl:=YU ns;have hB:=QdV ns;have hE:=Qao ns 4 2 (dLi ns);have hE2:=Qao ns (dW ns) (dH ns) (dLi ns);have hm:=Qgf ns;have hn:=QbM ns;have hw:=QkG ns;have hh:=Qe4 ns;have eE:Z0 ns 4 2 (dLi ns)=dE0 ns:=rfl;rw[eE]at hE;have c0:Jm [.scr ns,.int 0]=some (.int (cell ns 0)):=Qcg ns 0;have c1:Jm [.scr ns,.int 1]=some (.int (cell ns 1)):=Qcg ns 1;have c2:Jm [.scr ns,.int 2]=some (.int (cell ns 2)):=Qcg ns 2;have c3:Jm [.scr ns,.int 3]=some (.int (cell ns 3)):=Qcg ns 3;have c5:Jm [.scr ns,.int 5]=some (.int (cell ns 5)):=Qcg ns 5;have km:=Qcn (cell ns 5) 29 (by decide) (by decide);have m1:=Qcn (cell ns 0) 1 (by decide) (by decide);have m2:=Qcn (cell ns 1) 2 (by decide) (by decide);have m4:=Qcn (cell ns 1) 4 (by decide) (by decide);have cu:ZD (.scr ns) none (some 63)=some (.lst ((Z1 ns none (some 63)).map .int)):=rfl;have ev:D.add (.lst ((Z1 ns none (some 63)).map .int)) (.lst [.int 7])=some (.lst ((ZG ns).map .int)):=QoB (f:=D.int) (ys:=[7]) (lB (by have:=Qrs ns;simp;omega));have pe:=Qo7 (Jz (JS ns)) (JS ns) (Qb7 _) (by rw[Qb7];omega) (λa ha=>Qf0 (Qg0 _ (by omega) a ha));have ge:=Qta (JS ns) cl;have ee:=Qn0 ns 4 2 false (dLi ns) (by decide) (by decide);have lU:=Qn0 ns (dW ns) (dH ns) (dO ns) (dLi ns) (by omega) (by omega);have fw:Few (dE0 ns++dBk ns):=QiM hE hB (by decide);have lQ:Few (dBk ns++dE0 ns):=QiM hB hE (by decide);have a1:D.add (bks (dE0 ns)) (bks (dBk ns))=some (bks (dE0 ns++dBk ns)):=Qk4 (lB (by omega));have a2:D.add (bks (dBk ns)) (bks (dE0 ns))=some (bks (dBk ns++dE0 ns)):=Qk4 (lB (by omega));have a3:D.add (bks (Z0 ns (dW ns) (dH ns) (dLi ns))) (bks (dBk ns))=some (bks (Qo ns)):=Qk4 (lB (by omega));have mo:QdT [bks (dE0 ns++dBk ns),.bl (dLi ns)]=some (.int (Zo ns)):=Quk _ _ fw;have ne:QcG [bks (dBk ns++dE0 ns),.int (dR ns)]=some (.tup [.int (Js ns).1,.int (Js ns).2]):=Qsv _ _ lQ (λb hb=>by
  rcases List.mem_append.mp hb with z|z;·exact Qhr ns b z
  ·exact QoN ns b z);have nb:=Qw3 (dE0 ns);have gQ:D.strI (.int (Zo ns))=some (.str (Str.ofString (toString (Zo ns)))):=if_pos (by
  have:(10:Nat)^42<2^1900:=by decide+kernel
  have:((10^42:Nat):Int)=10^42:=by decide
  omega);have dw:(Str.ofString (toString (Zo ns))).length=Yd (Zo ns).toNat:=by
  have:Zo ns=((Zo ns).toNat:Int):=by omega
  conv=>lhs;rw[this]
  exact Qnw _
 have hr:=Qcf ns;have dU:D.len (.str (Str.ofString (toString (Zo ns))))=some (.int (dR ns)):=by rw[Qak (by rw[dw];have:dR ns=Yd (Zo ns).toNat:=rfl;omega),dw];rfl
 have lX:(if(!(dE0 ns).isEmpty)=true then(if dR ns+2>(Js ns).1 then dR ns+2 else(Js ns).1)else(Js ns).1)=VQ ns:=by unfold VQ;cases(dE0 ns).isEmpty<;>rfl
 have l7:D.eqO (.int (cell ns 3%2)) (.int 1)=some (.bl (dLi ns)):=by simp[D.eqO,Qr,QC,D.cmp,dLi]
 have l6:D.eqO (.int (cell ns 2%2)) (.int 1)=some (.bl (dO ns)):=by simp[D.eqO,Qr,QC,D.cmp,dO]
 have iH:D.eqO (.int (cell ns 1%5)) (.int 1)=some (.bl (decide (cell ns 1%5=1))):=by simp[D.eqO,Qr,QC,D.cmp]
 unfold QcH Qg9;refine stD rfl ?_;refine st (e1:=[some (.scr ns),some (.lst ((ZG ns).map .int)),none,none,none,none,none,none,none,none,none,none]) (asg (by simp only[eOp,JF,eV,sD,map_cons,map_nil,List.cons_append,nil_append,getElem?_cons_zero,join_some,bind_some,oNo,oAt,eC,cu,Qg,lC,lN,map_some,ev]) rfl) ?_;refine st (e1:=[some (.scr ns),some (.lst ((ZG ns).map .int)),some (.lst ((JS ns).map .int)),none,none,none,none,none,none,none,none,none]) (asg (Qrw ns _ rfl _ (by simp[eOp,eK,lC,lN,eV,eC,c5,km,Yc,VE])) rfl) ?_;have ac:=QrE ns [some (.scr ns),some (.lst ((ZG ns).map .int)),some (.lst ((JS ns).map .int)),none,none,none,none,none,none,none,none,none] rfl;generalize hCE:(JS ns).map D.int=CE at*;generalize hEV:(ZG ns).map D.int=EV at*;refine st (e1:=[some (.scr ns),some (.lst EV),some (.lst CE),some (bks (dBk ns)),none,none,none,none,none,none,none,none]) (asg (by have lP:Vb [.lst ((Jh (JS ns) (Jz (JS ns))).map At.d)]=some (bks (dBk ns)):=ge;generalize(Jh (JS ns) (Jz (JS ns))).map At.d=P at*;generalize(Jz (JS ns)).map At.d=A at*;simp only[eK,lC,lN,ac,eV,getElem?_cons_zero,getElem?_cons_succ,join_some,bind_some,map_some,pe,lP]) rfl) ?_;refine st (e1:=[some (.scr ns),some (.lst EV),some (.lst CE),some (bks (dBk ns)),some (.bl (dLi ns)),none,none,none,none,none,none,none]) (asg (by simp[eOp,eK,lC,lN,eV,eC,c3,Yc,l7]) rfl) ?_;rw[eE]at ee;generalize Str.ofString (toString (Zo ns))=SM at*;generalize bks (Qo ns)=ALL at*;generalize bks (Z0 ns (dW ns) (dH ns) (dLi ns))=ED at*;generalize bks (dE0 ns++dBk ns)=EB at*;generalize bks (dBk ns++dE0 ns)=BE at*;generalize bks (dE0 ns)=E0 at*;generalize bks (dBk ns)=BK at*;refine st (e1:=[some (.scr ns),some (.lst EV),some (.lst CE),some BK,some (.bl (dLi ns)),some E0,none,none,none,none,none,none]) (asg (by simp[eK,Qm,lC,lN,eV,eC,ee]) rfl) ?_;refine st (e1:=[some (.scr ns),some (.lst EV),some (.lst CE),some BK,some (.bl (dLi ns)),some E0,some (.int (dR ns)),none,none,none,none,none]) (asg (by simp[eUn,eOp,eK,lC,lN,eV,a1,mo,gQ,dU]) rfl) ?_;refine st (e1:=[some (.scr ns),some (.lst EV),some (.lst CE),some BK,some (.bl (dLi ns)),some E0,some (.int (dR ns)),some (.int (Js ns).1),some (.int (Js ns).2),none,none,none]) (asg (d:=.tup [.int (Js ns).1,.int (Js ns).2]) (by simp only[eOp,eK,lC,lN,eV,getElem?_cons_zero,getElem?_cons_succ,join_some,bind_some,map_some,a2,ne]) rfl) ?_;refine st (e1:=[some (.scr ns),some (.lst EV),some (.lst CE),some BK,some (.bl (dLi ns)),some E0,some (.int (dR ns)),some (.int (VQ ns)),some (.int (Js ns).2),none,none,none]) (by rw[<-lX];cases q:(dE0 ns).isEmpty<;>rw[q]at nb<;>simp[sIf,eOp,eV,Qg,lN,nb,Qk,Qc,gS,eC,add_int,D.max2,sNx]) ?_;refine st (e1:=[some (.scr ns),some (.lst EV),some (.lst CE),some BK,some (.bl (dLi ns)),some E0,some (.int (dR ns)),some (.int (VQ ns)),some (.int (Js ns).2),some (.int (dW ns)),none,none]) (asg (by unfold dW;simp[eOp,eV,eC,eK,lC,lN,c0,m1,Yc,add_int,D.max2]) rfl) ?_;obtain⟨H0,jR⟩:∃H0:Int,(if 2+mix (cell ns 1) 2%5>(Js ns).2 then 2+mix (cell ns 1) 2%5 else(Js ns).2)=H0:=⟨_,rfl⟩;refine st (e1:=[some (.scr ns),some (.lst EV),some (.lst CE),some BK,some (.bl (dLi ns)),some E0,some (.int (dR ns)),some (.int (VQ ns)),some (.int (Js ns).2),some (.int (dW ns)),some (.int H0),none]) (asg (by rw[<-jR];simp[eOp,eV,eC,eK,lC,lN,c1,m2,Yc,add_int,D.max2]) rfl) ?_;refine st (e1:=[some (.scr ns),some (.lst EV),some (.lst CE),some BK,some (.bl (dLi ns)),some E0,some (.int (dR ns)),some (.int (VQ ns)),some (.int (Js ns).2),some (.int (dW ns)),some (.int (dH ns)),none]) (by
  unfold dH;by_cases z:cell ns 1%5=1
  ·rw[if_pos z];rw[z]at iH;simp[sIf,eOp,eV,eC,eK,lC,lN,c1,m4,Yc,iH,z,Qk,Qc,gS,add_int,D.max2]
  ·rw[if_neg z,jR];simp[sIf,eOp,eV,eC,eK,lC,lN,c1,Yc,iH,z,Qk,sNx]) ?_;refine st (e1:=[some (.scr ns),some (.lst EV),some (.lst CE),some BK,some (.bl (dLi ns)),some E0,some (.int (dR ns)),some (.int (VQ ns)),some (.int (Js ns).2),some (.int (dW ns)),some (.int (dH ns)),some (.tup [.int (dW ns),.int (dH ns),.bl (dO ns),.bl (dLi ns)])]) (asg (by simp[Qm,eOp,eV,eC,eK,lC,lN,c2,Yc,l6]) rfl) ?_;refine ret ?_;simp[Qm,eOp,eV,eK,lC,lN,lU,a3]
theorem Z2:∀xs:List D,(∀x∈xs,D.eq x x=some true)->D.eqL xs xs=some true|[],_=>Jr|x::xs,h=>by rw[Jj,h x mem_cons_self,Z2 xs λy hy=>h y (mem_cons_of_mem _ hy)];rfl
theorem Yg(x:Str):D.eq (.str x) (.str x)=some true:=by rw[QF];simp
theorem QgY(x:Int):D.eq (.int x) (.int x)=some true:=by rw[QC];simp
theorem QcI{α:Type}{f:α->D}(h:∀a,D.eq (f a) (f a)=some true)(xs:List α):D.eq (.lst (xs.map f)) (.lst (xs.map f))=some true:=by rw[JQ];refine Z2 _ λx hx=>?_;obtain⟨a,_,rfl⟩:=List.mem_map.mp hx;exact h a
theorem QjI(xs:List Str):D.eq (QH xs) (QH xs)=some true:=QcI Yg xs
theorem QuH(i:It):D.eq i.d i.d=some true:=by cases i with
 |word w ns=>simp only[It.d];rw[Ji];refine Z2 _ λx hx=>?_;simp only[mem_cons,not_mem_nil,or_false]at hx;rcases hx with z|z|z<;>subst z<;>first|exact Yg _|exact QjI _
 |ref l a b=>simp only[It.d];rw[Ji];refine Z2 _ λx hx=>?_;simp only[mem_cons,not_mem_nil,or_false]at hx;rcases hx with z|z|z|z<;>subst z<;>exact Yg _|mark l=>simp only[It.d];rw[Ji];refine Z2 _ λx hx=>?_;simp only[mem_cons,not_mem_nil,or_false]at hx;rcases hx with z|z<;>subst z<;>exact Yg _|key l=>simp only[It.d];rw[Ji];refine Z2 _ λx hx=>?_;simp only[mem_cons,not_mem_nil,or_false]at hx;rcases hx with z|z<;>subst z<;>exact Yg _
theorem QuI(b:Bk):D.eq b.d b.d=some true:=by cases b with
 |chapter t l=>simp only[Bk.d];rw[Ji];refine Z2 _ λx hx=>?_;simp only[mem_cons,not_mem_nil,or_false]at hx;rcases hx with z|z|z<;>subst z<;>exact Yg _|heading t k l=>simp only[Bk.d];rw[Ji];refine Z2 _ λx hx=>?_;simp only[mem_cons,not_mem_nil,or_false]at hx;rcases hx with z|z|z|z<;>subst z<;>first|exact Yg _|exact QgY _
 |para is=>simp only[Bk.d];rw[Ji];refine Z2 _ λx hx=>?_;simp only[mem_cons,not_mem_nil,or_false]at hx;rcases hx with z|z<;>subst z<;>first|exact Yg _|exact QcI QuH _
 |table rs l=>simp only[Bk.d];rw[Ji];refine Z2 _ λx hx=>?_;simp only[mem_cons,not_mem_nil,or_false]at hx;rcases hx with z|z|z<;>subst z<;>first|exact Yg _|exact QjI _
 |plates n l=>simp only[Bk.d];rw[Ji];refine Z2 _ λx hx=>?_;simp only[mem_cons,not_mem_nil,or_false]at hx;rcases hx with z|z|z<;>subst z<;>first|exact Yg _|exact QgY _
theorem Quh(bs:List Bk):D.neO (bks bs) (bks bs)=some (.bl false):=by unfold D.neO;rw[if_pos (by have:=QuS bs;omega),show D.eq (bks bs) (bks bs)=some true from QcI QuI bs];rfl
theorem Qap(ns:List Int):Few (Qo ns):=QiM (Qao ns _ _ _) (QdV ns) (by decide)
structure Sta where
 p:Int
 l:Int
 u:Int
 f:Int
structure Plc where
 p:Int
 l:Int
 c:Int
noncomputable def Sta.d(s:Sta):D:=.tup [.int s.p,.int s.l,.int s.u,.int s.f]
noncomputable def Plc.d(s:Plc):D:=.tup [.int s.p,.int s.l,.int s.c]
noncomputable def sty(w h:Int)(o li:Bool):D:=.tup [.int w,.int h,.bl o,.bl li]
def Zt(x:Plc×Sta):D:=.tup [x.1.d,x.2.d]
theorem p0(x:Plc×Sta):D.ix (Zt x) (.int 0)=some x.1.d:=rfl
theorem p1(x:Plc×Sta):D.ix (Zt x) (.int 1)=some x.2.d:=rfl
noncomputable def QB(w h:Int)(s:Sta)(n r:Int):Plc×Sta:=if(s.u=0\/s.u+1+n<=w)/\s.l+s.f+(1+r)<=h then(⟨s.p,s.l,if s.u=0 then 0 else s.u+1⟩,⟨s.p,s.l,(if s.u=0 then 0 else s.u+1)+n,s.f+r⟩)else if 0<s.u/\s.l+s.f+(2+r)<=h then(⟨s.p,s.l+1,0⟩,⟨s.p,s.l+1,0+n,s.f+r⟩)else(⟨s.p+1,0,0⟩,⟨s.p+1,0,0+n,r⟩)
theorem Qw9(w h:Int)(o li:Bool)(s:Sta)(n:Int):QbA [sty w h o li,s.d,.int n]=some (.bl (decide (s.u=0\/s.u+1+n<=w))):=by unfold QbA Qdx sty Sta.d;by_cases h1:s.u=0<;>by_cases h2:s.u+1+n<=w<;>simp[QG,JF,ZD,lI,Qx,sD,sQ,sIf,Qi,ZU,Qc,ZC,J5,sNx,YK,Yb,gS,Jp,Zq,eV,eC,eOp,eUn,Ja,QM,eOr,eIf,JR,Qm,Qg,eK,lN,lC,JO,oNo,oAt,ZW,D.len,D.lt,D.le,D.gt,D.ge,D.add,D.sub,D.ix,D.eqO,D.neO,D.cmp,D.cmpN,D.inst,tyD,D.isT,D.intB,D.min2,D.max2,D.neg,D.addI,Qk,JW,JY,JC,QK,QW,JV,JU,Jn,JB,JZ,J0,JD,JE,JX,Q7,JN,Zl,Qr,Qw,Q9,Q6,Q5,QV,D.rng,D.its,D.itsT,QC,ZV,QF,Ji,JQ,Jr,Jj,ixD,h1,h2]
theorem QoL(w h:Int)(o li:Bool)(s:Sta)(n:Int):YN [sty w h o li,s.d,.int n]=some (.bl (decide (s.l+s.f+n<=h))):=by unfold YN QcS sty Sta.d;simp[QG,JF,ZD,lI,Qx,sD,sQ,sIf,Qi,ZU,Qc,ZC,J5,sNx,YK,Yb,gS,Jp,Zq,eV,eC,eOp,eUn,Ja,QM,eOr,eIf,JR,Qm,Qg,eK,lN,lC,JO,oNo,oAt,ZW,D.len,D.lt,D.le,D.gt,D.ge,D.add,D.sub,D.ix,D.eqO,D.neO,D.cmp,D.cmpN,D.inst,tyD,D.isT,D.intB,D.min2,D.max2,D.neg,D.addI,Qk,JW,JY,JC,QK,QW,JV,JU,Jn,JB,JZ,J0,JD,JE,JX,Q7,JN,Zl,Qr,Qw,Q9,Q6,Q5,QV,D.rng,D.its,D.itsT,QC,ZV,QF,Ji,JQ,Jr,Jj,ixD]
theorem QhP(w h:Int)(o li:Bool)(s:Sta)(n r:Int):QaP [sty w h o li,s.d,.int n,.int r]=some (Zt (QB w h s n r)):=by
 have a1:=Qw9 w h o li s n;have a2:=QoL w h o li s (1+r);have a3:=QoL w h o li s (2+r);have i0:D.ix s.d (.int 0)=some (.int s.p):=rfl;have i1:D.ix s.d (.int 1)=some (.int s.l):=rfl;have i2:D.ix s.d (.int 2)=some (.int s.u):=rfl;have i3:D.ix s.d (.int 3)=some (.int s.f):=rfl;have wa:∀a b c d e:Int,Qaw [.int a,.int b,.int c,.int d,.int e]=some (Zt (⟨a,b,c⟩,⟨a,b,c+d,e⟩)):=λa b c d e=>by
  unfold Qaw QfA Zt Plc.d Sta.d;simp[QG,JF,ZD,lI,Qx,sD,sQ,sIf,Qi,ZU,Qc,ZC,J5,sNx,YK,Yb,gS,Jp,Zq,eV,eC,eOp,eUn,Ja,QM,eOr,eIf,JR,Qm,Qg,eK,lN,lC,JO,oNo,oAt,ZW,D.len,D.lt,D.le,D.gt,D.ge,D.add,D.sub,D.ix,D.eqO,D.neO,D.cmp,D.cmpN,D.inst,tyD,D.isT,D.intB,D.min2,D.max2,D.neg,D.addI,Qk,JW,JY,JC,QK,QW,JV,JU,Jn,JB,JZ,J0,JD,JE,JX,Q7,JN,Zl,Qr,Qw,Q9,Q6,Q5,QV,D.rng,D.its,D.itsT,QC,ZV,QF,Ji,JQ,Jr,Jj]
 have eu:D.eqO (.int s.u) (.int 0)=some (.bl (decide (s.u=0))):=by simp[D.eqO,Qr,QC,D.cmp]
 have gu:D.gt (.int s.u) (.int 0)=some (.bl (decide (0<s.u))):=rfl;unfold QaP QeE QB;generalize Sta.d s=σ at*;generalize sty w h o li=S at*;refine stD rfl ?_;refine st (e1:=[some S,some σ,some (.int n),some (.int r),some (.int s.p),none,none,none,none]) (asg (opE rfl rfl i0) rfl) ?_;refine st (e1:=[some S,some σ,some (.int n),some (.int r),some (.int s.p),some (.int s.l),none,none,none]) (asg (opE rfl rfl i1) rfl) ?_;refine st (e1:=[some S,some σ,some (.int n),some (.int r),some (.int s.p),some (.int s.l),some (.int s.u),none,none]) (asg (opE rfl rfl i2) rfl) ?_;refine st (e1:=[some S,some σ,some (.int n),some (.int r),some (.int s.p),some (.int s.l),some (.int s.u),some (.int (s.f+r)),none]) (asg (opE (opE rfl rfl i3) rfl rfl) rfl) ?_;by_cases h1:(s.u=0\/s.u+1+n<=w)/\s.l+s.f+(1+r)<=h
 ·rw[if_pos h1];refine stR (ifT (YB (ZH rfl rfl rfl (by rw[a1,decide_eq_true h1.1])) (ZH rfl rfl (opE rfl rfl rfl) (by rw[a2,decide_eq_true h1.2]))) ?_);refine st (e1:=[some S,some σ,some (.int n),some (.int r),some (.int s.p),some (.int s.l),some (.int s.u),some (.int (s.f+r)),some (.int (if s.u=0 then 0 else s.u+1))]) ?_ ?_
  ·refine asg ?_ rfl;unfold eIf;rw[show eOp D.eqO (eV 6) (eC (.int 0)) [some S,some σ,some (.int n),some (.int r),some (.int s.p),some (.int s.l),some (.int s.u),some (.int (s.f+r)),none]=some (.bl (decide (s.u=0)))from opE rfl rfl eu,Qk];by_cases z:s.u=0;·rw[decide_eq_true z,if_pos rfl,if_pos z];rfl
   ·rw[decide_eq_false z,if_neg (by decide),if_neg z];rfl
  ·refine ret ?_;simp only[eK,lC,lN,eV,getElem?_cons_zero,getElem?_cons_succ,join_some,bind_some,map_some,wa]
 ·rw[if_neg h1];refine st (e1:=[some S,some σ,some (.int n),some (.int r),some (.int s.p),some (.int s.l),some (.int s.u),some (.int (s.f+r)),none]) ?_ ?_
  ·refine ifF ?_ rfl;by_cases z:s.u=0\/s.u+1+n<=w;·exact YB (ZH rfl rfl rfl (by rw[a1,decide_eq_true z])) (ZH rfl rfl (opE rfl rfl rfl) (by rw[a2,decide_eq_false λq=>h1 ⟨z,q⟩]))
   ·exact YW (ZH rfl rfl rfl (by rw[a1,decide_eq_false z]))
  ·by_cases h2:0<s.u/\s.l+s.f+(2+r)<=h
   ·rw[if_pos h2];refine stR (ifT (YB (opE rfl rfl (by rw[gu,decide_eq_true h2.1])) (ZH rfl rfl (opE rfl rfl rfl) (by rw[a3,decide_eq_true h2.2]))) (ret ?_));simp only[eK,eOp,eC,lC,lN,eV,getElem?_cons_zero,getElem?_cons_succ,join_some,bind_some,map_some,add_int,wa]
   ·rw[if_neg h2];refine st (e1:=[some S,some σ,some (.int n),some (.int r),some (.int s.p),some (.int s.l),some (.int s.u),some (.int (s.f+r)),none]) ?_ ?_
    ·refine ifF ?_ rfl;by_cases z:0<s.u;·exact YB (opE rfl rfl (by rw[gu,decide_eq_true z])) (ZH rfl rfl (opE rfl rfl rfl) (by rw[a3,decide_eq_false λq=>h2 ⟨z,q⟩]))
     ·exact YW (opE rfl rfl (by rw[gu,decide_eq_false z]))
    ·refine ret ?_;simp only[eK,eOp,eC,lC,lN,eV,getElem?_cons_zero,getElem?_cons_succ,join_some,bind_some,map_some,add_int,wa]
noncomputable def endLine(s:Sta):Sta:=if s.u=0 then s else⟨s.p,s.l+1,0,s.f⟩
theorem QhY(s:Sta):QaR [s.d]=some (endLine s).d:=by unfold QaR QeJ endLine;by_cases z:s.u=0<;>simp[QG,JF,ZD,lI,Qx,sD,sQ,sIf,Qi,ZU,Qc,ZC,J5,sNx,YK,Yb,gS,Jp,Zq,eV,eC,eOp,eUn,Ja,QM,eOr,eIf,JR,Qm,Qg,eK,lN,lC,JO,oNo,oAt,ZW,D.len,D.lt,D.le,D.gt,D.ge,D.add,D.sub,D.ix,D.eqO,D.neO,D.cmp,D.cmpN,D.inst,tyD,D.isT,D.intB,D.min2,D.max2,D.neg,D.addI,Qk,JW,JY,JC,QK,QW,JV,JU,Jn,JB,JZ,J0,JD,JE,JX,Q7,JN,Zl,Qr,Qw,Q9,Q6,Q5,QV,D.rng,D.its,D.itsT,QC,ZV,QF,Ji,JQ,Jr,Jj,Sta.d,ixD,z]
def JP(p:Int):Sta:=⟨p,0,0,0⟩
theorem Qch(p:Int):QaF [.int p]=some (JP p).d:=by unfold QaF QkY;simp[QG,JF,ZD,lI,Qx,sD,sQ,sIf,Qi,ZU,Qc,ZC,J5,sNx,YK,Yb,gS,Jp,Zq,eV,eC,eOp,eUn,Ja,QM,eOr,eIf,JR,Qm,Qg,eK,lN,lC,JO,oNo,oAt,ZW,D.len,D.lt,D.le,D.gt,D.ge,D.add,D.sub,D.ix,D.eqO,D.neO,D.cmp,D.cmpN,D.inst,tyD,D.isT,D.intB,D.min2,D.max2,D.neg,D.addI,Qk,JW,JY,JC,QK,QW,JV,JU,Jn,JB,JZ,J0,JD,JE,JX,Q7,JN,Zl,Qr,Qw,Q9,Q6,Q5,QV,D.rng,D.its,D.itsT,QC,ZV,QF,Ji,JQ,Jr,Jj,Sta.d,JP]
def QT(h:Int)(s:Sta)(rows keep:Int):Plc×Sta:=let t:=if(endLine s).l+(endLine s).f+(rows+keep)<=h then endLine s else JP ((endLine s).p+1)
 (⟨t.p,t.l,0⟩,⟨t.p,t.l+rows,0,t.f⟩)
theorem Qbz(w h:Int)(o li:Bool)(s:Sta)(rows keep:Int):YI [sty w h o li,s.d,.int rows,.int keep]=some (Zt (QT h s rows keep)):=by
 have a1:=QhY s;have a2:=QoL w h o li (endLine s) (rows+keep);have a3:=Qch ((endLine s).p+1);unfold YI Qdu QT;generalize endLine s=t at*;generalize Sta.d s=σ at*;have i0:D.ix t.d (.int 0)=some (.int t.p):=rfl;generalize sty w h o li=S at*;refine stD rfl ?_;refine st (e1:=[some S,some σ,some (.int rows),some (.int keep),some t.d,none]) (asg (QN rfl a1) rfl) ?_;obtain⟨t2,e2⟩:∃t2,(if t.l+t.f+(rows+keep)<=h then t else JP (t.p+1))=t2:=⟨_,rfl⟩;refine st (e1:=[some S,some σ,some (.int rows),some (.int keep),some t2.d,none]) ?_ ?_
 ·by_cases z:t.l+t.f+(rows+keep)<=h
  ·rw[if_pos z]at e2;subst e2;exact ifF (Qci (b:=true) (ZH rfl rfl (opE rfl rfl rfl) (by rw[a2,decide_eq_true z]))) rfl
  ·rw[if_neg z]at e2;subst e2;exact ifT (Qci (b:=false) (ZH rfl rfl (opE rfl rfl rfl) (by rw[a2,decide_eq_false z]))) (asg (QN (opE (opE rfl rfl i0) rfl rfl) a3) rfl)
 ·simp only[e2];simp[QG,JF,ZD,lI,Qx,sD,sQ,sIf,Qi,ZU,Qc,ZC,J5,sNx,YK,Yb,gS,Jp,Zq,eV,eC,eOp,eUn,Ja,QM,eOr,eIf,JR,Qm,Qg,eK,lN,lC,JO,oNo,oAt,ZW,D.len,D.lt,D.le,D.gt,D.ge,D.add,D.sub,D.ix,D.eqO,D.neO,D.cmp,D.cmpN,D.inst,tyD,D.isT,D.intB,D.min2,D.max2,D.neg,D.addI,Qk,JW,JY,JC,QK,QW,JV,JU,Jn,JB,JZ,J0,JD,JE,JX,Q7,JN,Zl,Qr,Qw,Q9,Q6,Q5,QV,D.rng,D.its,D.itsT,QC,ZV,QF,Ji,JQ,Jr,Jj,Sta.d,Plc.d,Zt,ixD]
noncomputable def Q1(s:Sta):Sta:=if s.l=0/\s.u=0/\s.f=0 then s else JP (s.p+1)
theorem QhR(s:Sta):QaQ [s.d]=some (Q1 s).d:=by
 have b0:=Qch s.p;have b1:=Qch (s.p+1);unfold QaQ QeF Q1;have i0:D.ix s.d (.int 0)=some (.int s.p):=rfl;have eq:D.eqO s.d (JP s.p).d=some (.bl (decide (s.l=0/\s.u=0/\s.f=0))):=by unfold Sta.d JP;by_cases h1:s.l=0<;>by_cases h2:s.u=0<;>by_cases h3:s.f=0<;>simp[D.eqO,Q9,QV,Q5,Qr,Ji,Jj,Jr,QC,D.cmp,QoA,h1,h2,h3]
 refine stD rfl ?_;by_cases z:s.l=0/\s.u=0/\s.f=0;·rw[if_pos z];exact stR (ifT (opE (x:=s.d) rfl (QN (opE (x:=s.d) rfl rfl i0) b0) (by rw[eq,decide_eq_true z])) (ret rfl))
 ·rw[if_neg z];exact st (e1:=[some s.d]) (ifF (opE (x:=s.d) rfl (QN (opE (x:=s.d) rfl rfl i0) b0) (by rw[eq,decide_eq_false z])) rfl) (ret (QN (opE (opE (x:=s.d) rfl rfl i0) rfl rfl) b1))
def QZ(o:Bool)(s:Sta):Sta:=if o=true/\(Q1 s).p%2=0 then JP ((Q1 s).p+1)else Q1 s
theorem QeT(w h:Int)(o li:Bool)(s:Sta):Vk [sty w h o li,s.d]=some (QZ o s).d:=by
 have a1:=QhR s;have b1:=Qch ((Q1 s).p+1);unfold Vk QbT QZ;generalize Q1 s=t at*;have i0:D.ix t.d (.int 0)=some (.int t.p):=rfl;have io:D.ix (sty w h o li) (.int 2)=some (.bl o):=rfl;have em:D.eqO (.int (t.p%2)) (.int 0)=some (.bl (decide (t.p%2=0))):=by simp[D.eqO,Qr,QC,D.cmp]
 generalize sty w h o li=S at*;refine stD rfl ?_;refine st (e1:=[some S,some s.d,some t.d]) (asg (QN rfl a1) rfl) ?_;by_cases z:o=true/\t.p%2=0;·rw[if_pos z];exact stR (ifT (YB (opE rfl rfl (by rw[io,z.1])) (opE (opE (opE (x:=t.d) rfl rfl i0) rfl (Yc _ (by decide))) rfl (by rw[em,decide_eq_true z.2]))) (ret (QN (opE (opE (x:=t.d) rfl rfl i0) rfl rfl) b1)))
 ·rw[if_neg z];refine st (e1:=[some S,some s.d,some t.d]) (ifF ?_ rfl) (ret rfl);cases o with|false=>exact YW (opE rfl rfl io)|true=>exact YB (opE rfl rfl io) (opE (opE (opE (x:=t.d) rfl rfl i0) rfl (Yc _ (by decide))) rfl (by rw[em,decide_eq_false λq=>z ⟨rfl,q⟩]))
def Qfu(s:Sta)(n:Int):Plc×Sta:=(⟨(Q1 s).p,0,0⟩,JP ((Q1 s).p+n))
theorem Qmc(s:Sta)(n:Int):QaV [s.d,.int n]=some (Zt (Qfu s n)):=by have a1:=QhR s;have b1:=Qch ((Q1 s).p+n);unfold QaV QcR Qfu;generalize Q1 s=t at*;have i0:D.ix t.d (.int 0)=some (.int t.p):=rfl;refine stD rfl ?_;refine st (e1:=[some s.d,some (.int n),some (.int t.p)]) (asg (opE (QN rfl a1) rfl i0) rfl) (ret ?_);simp only[Qm,lC,lN,eV,eC,eK,eOp,getElem?_cons_zero,getElem?_cons_succ,join_some,bind_some,map_some,add_int,b1,Zt,Plc.d]
noncomputable def QcZ:Bk->Bool|.chapter _ _=>true|.heading _ _ _=>true|_=>false
theorem QgW(b:Bk):Vq [b.d]=some (.bl (QcZ b)):=by unfold Vq Qdw;cases b<;>simp[QG,JF,ZD,lI,Qx,sD,sQ,sIf,Qi,ZU,Qc,ZC,J5,sNx,YK,Yb,gS,Jp,Zq,eV,eC,eOp,eUn,Ja,QM,eOr,eIf,JR,Qm,Qg,eK,lN,lC,JO,oNo,oAt,ZW,D.len,D.lt,D.le,D.gt,D.ge,D.add,D.sub,D.ix,D.eqO,D.neO,D.cmp,D.cmpN,D.inst,tyD,D.isT,D.intB,D.min2,D.max2,D.neg,D.addI,Qk,JW,JY,JC,QK,QW,JV,JU,Jn,JB,JZ,J0,JD,JE,JX,Q7,JN,Zl,Qr,Qw,Q9,Q6,Q5,QV,D.rng,D.its,D.itsT,QC,ZV,QF,Ji,JQ,Jr,Jj,ixD,D.inO,Zn,inD,QcZ]
theorem QcF(i:It):Ye [i.d]=some (.bl (QD i)):=by unfold Ye Qg4;cases i<;>simp[QG,JF,ZD,lI,Qx,sD,sQ,sIf,Qi,ZU,Qc,ZC,J5,sNx,YK,Yb,gS,Jp,Zq,eV,eC,eOp,eUn,Ja,QM,eOr,eIf,JR,Qm,Qg,eK,lN,lC,JO,oNo,oAt,ZW,D.len,D.lt,D.le,D.gt,D.ge,D.add,D.sub,D.ix,D.eqO,D.neO,D.cmp,D.cmpN,D.inst,tyD,D.isT,D.intB,D.min2,D.max2,D.neg,D.addI,Qk,JW,JY,JC,QK,QW,JV,JU,Jn,JB,JZ,J0,JD,JE,JX,Q7,JN,Zl,Qr,Qw,Q9,Q6,Q5,QV,D.rng,D.its,D.itsT,QC,ZV,QF,Ji,JQ,Jr,Jj,ixD,D.inO,Zn,inD,QD,J9,Jk]
def Qt(xs:List Plc):D:=.lst (xs.map Plc.d)
theorem Qql{xs:List Plc}(x:Plc)(h:xs.length<lI):D.app (Qt xs) x.d=some (Qt (xs++[x])):=V4 (f:=Plc.d) x h
def QU(w h:Int)(ae:List Int)(s:List Plc×Nat×Sta):It->List Plc×Nat×Sta|.word x ns=>(s.1++[(QB w h s.2.2 x.length ns.length).1],s.2.1,(QB w h s.2.2 x.length ns.length).2)|.ref _ a b=>(s.1++[(QB w h s.2.2 ((a.length:Int)+ae.getD s.2.1 0+b.length) 0).1],s.2.1+1,(QB w h s.2.2 ((a.length:Int)+ae.getD s.2.1 0+b.length) 0).2)|_=>s
def Jt(w h:Int)(s:Sta)(ae:List Int)(is:List It):List Plc×Nat×Sta:=is.foldl (QU w h ae) ([],0,s)
theorem Qc4{α σ:Type}(f:σ->α->σ)(s:σ)(xs:List α)(i:Nat)(hi:i<xs.length):(xs.take (i+1)).foldl f s=f ((xs.take i).foldl f s) xs[i]:=by rw[take_succ_eq_append_getElem hi,foldl_append];rfl
theorem Qo5(is:List It)(i:Nat)(hi:i<is.length):(QQ (is.take (i+1))).length=(QQ (is.take i)).length+if Jk is[i]then 1 else 0:=by unfold QQ;rw[take_succ_eq_append_getElem hi,filter_append,map_append,length_append];congr 1;cases q:Jk is[i]<;>simp[q]
theorem Qkb(is:List It)(i:Nat):(QQ (is.take i)).length<=(QQ is).length:=by unfold QQ;rw[length_map,length_map];exact((take_sublist i is).filter _).length_le
theorem QfK(w h:Int)(ae:List Int):∀(is:List It)(s:List Plc×Nat×Sta),(is.foldl (QU w h ae) s).1.length<=s.1.length+is.length/\(is.foldl (QU w h ae) s).2.1=s.2.1+(QQ is).length|[],s=>⟨le_refl _,rfl⟩|i::is,s=>by obtain⟨h1,h2⟩:=QfK w h ae is (QU w h ae s i);rw[foldl_cons,length_cons];unfold QQ at h2⊢;cases i<;>simp[QU,filter_cons,Jk]at h1 h2⊢<;>omega
noncomputable def ItT:It->Prop|.word x ns=>x.length<=1000/\ns.length<=1000/\∀r∈ns,r.length<=1000|.ref _ a b=>a.length<=1000/\b.length<=1000|_=>True
theorem QmG(w h:Int)(o li:Bool)(s:Sta)(ae:List Int)(is:List It)(hl:is.length<=100000)(hr:(QQ is).length<=ae.length)(ht:∀i∈is,ItT i):V8 [.lst (is.map It.d),sty w h o li,s.d,.lst (ae.map .int)]=some (.tup [Qt (Jt w h s ae is).1,(endLine (Jt w h s ae is).2.2).d]):=by
 unfold V8 Qds;refine stD rfl ?_;refine st (e1:=[some (.lst (is.map It.d)),some (sty w h o li),some s.d,some (.lst (ae.map .int)),some (Qt []),none,none,none,none]) rfl ?_;refine st (e1:=[some (.lst (is.map It.d)),some (sty w h o li),some s.d,some (.lst (ae.map .int)),some (Qt []),some (.int 0),none,none,none]) rfl ?_;refine QaC It.d is (λi e=>∃a b c,e=[some (.lst (is.map It.d)),some (sty w h o li),some ((is.take i).foldl (QU w h ae) ([],0,s)).2.2.d,some (.lst (ae.map .int)),some (Qt ((is.take i).foldl (QU w h ae) ([],0,s)).1),some (.int ((is.take i).foldl (QU w h ae) ([],0,s)).2.1),a,b,c]) rfl ⟨none,none,none,rfl⟩ ?_ ?_
 ·rintro i hi e⟨a,b,c,rfl⟩;rw[Qc4 _ _ _ _ hi];have hb:=(QfK w h ae (is.take i) ([],0,s));have bA:((is.take i).foldl (QU w h ae) ([],0,s)).1.length<lI:=Zv (by have:=hb.1;rw[length_take]at this;simp at this;omega);have h2:=hb.2;have h3:=Qo5 is i hi;have h4:=Qkb is (i+1);have hT:=ht is[i] (getElem_mem hi);have bh:=QcF is[i];generalize is[i]=x at*;generalize(is.take i).foldl (QU w h ae) ([],0,s)=z at*;obtain⟨pl,k,t⟩:=z;simp only[]at bA h2⊢;simp at h2;have ap:=λy=>Qql (xs:=pl) y bA;generalize D.lst (is.map It.d)=IS at*;cases x with
  |word wd ns=>
   refine⟨_,.inl ?_,some (It.word wd ns).d,b,some (Zt (QB w h t wd.length ns.length)),rfl⟩;refine bnd (e1:=[some IS,some (sty w h o li),some t.d,some (.lst (ae.map .int)),some (Qt pl),some (.int k),some (It.word wd ns).d,b,c]) rfl ?_;refine ifT (QN rfl bh) ?_;have l1:=Qak (x:=wd) (by have:=hT.1;omega);have l2:=Qas ns;have pw:=QhP w h o li t wd.length ns.length;refine st (e1:=[some IS,some (sty w h o li),some t.d,some (.lst (ae.map .int)),some (Qt pl),some (.int k),some (It.word wd ns).d,b,some (Zt (QB w h t wd.length ns.length))]) ?_ ?_
   ·refine ifF (opE (x:=.str "word") (opE (x:=(It.word wd ns).d) rfl rfl rfl) rfl (by rw[eqS];simp)) ?_;exact asg (Qeh rfl rfl (unE (opE (x:=(It.word wd ns).d) rfl rfl rfl) l1) (unE (opE (x:=(It.word wd ns).d) rfl rfl rfl) l2) pw) rfl
   ·refine st (e1:=[some IS,some (sty w h o li),some t.d,some (.lst (ae.map .int)),some (Qt (pl++[(QB w h t wd.length ns.length).1])),some (.int k),some (It.word wd ns).d,b,some (Zt (QB w h t wd.length ns.length))]) (Qal rfl (opE (x:=Zt (QB w h t wd.length ns.length)) rfl rfl (p0 _)) (ap _)) ?_;exact asg (opE (x:=Zt (QB w h t wd.length ns.length)) rfl rfl (p1 _)) rfl|ref l x1 x2=>
   have hk:k<ae.length:=by
    have e1:Jk (It.ref l x1 x2)=true:=rfl;rw[e1,if_pos rfl]at h3;omega
   have rx:D.ix (.lst (ae.map .int)) (.int k)=some (.int (ae.getD k 0)):=Qd8 (f:=D.int) ae k 0 (by omega) (by omega);obtain⟨sz,fg⟩:∃sz:Int,(x1.length:Int)+ae.getD k 0+x2.length=sz:=⟨_,rfl⟩;have pw:=QhP w h o li t sz 0;have e1:QU w h ae (pl,k,t) (.ref l x1 x2)=(pl++[(QB w h t sz 0).1],k+1,(QB w h t sz 0).2):=by rw[<-fg];rfl
   rw[e1];refine⟨_,.inl ?_,some (It.ref l x1 x2).d,some (.int sz),some (Zt (QB w h t sz 0)),rfl⟩;refine bnd (e1:=[some IS,some (sty w h o li),some t.d,some (.lst (ae.map .int)),some (Qt pl),some (.int k),some (It.ref l x1 x2).d,b,c]) rfl ?_;refine ifT (QN rfl bh) ?_;have l1:=Qak (x:=x1) (by have:=hT.1;omega);have l2:=Qak (x:=x2) (by have:=hT.2;omega);refine st (e1:=[some IS,some (sty w h o li),some t.d,some (.lst (ae.map .int)),some (Qt pl),some (.int (k+1:Nat)),some (It.ref l x1 x2).d,some (.int sz),some (Zt (QB w h t sz 0))]) ?_ ?_
   ·refine ifT (opE (x:=.str "ref") (opE (x:=(It.ref l x1 x2).d) rfl rfl rfl) rfl (by rw[eqS];simp)) ?_;refine st (e1:=[some IS,some (sty w h o li),some t.d,some (.lst (ae.map .int)),some (Qt pl),some (.int k),some (It.ref l x1 x2).d,some (.int sz),c]) (asg (opE (opE (unE (opE (x:=(It.ref l x1 x2).d) rfl rfl rfl) l1) (opE (x:=.lst (ae.map .int)) rfl rfl rx) rfl) (unE (opE (x:=(It.ref l x1 x2).d) rfl rfl rfl) l2) (by rw[add_int,fg])) rfl) ?_;refine st (e1:=[some IS,some (sty w h o li),some t.d,some (.lst (ae.map .int)),some (Qt pl),some (.int k),some (It.ref l x1 x2).d,some (.int sz),some (Zt (QB w h t sz 0))]) (asg (Qeh rfl rfl rfl rfl pw) rfl) ?_;rfl
   ·refine st (e1:=[some IS,some (sty w h o li),some t.d,some (.lst (ae.map .int)),some (Qt (pl++[(QB w h t sz 0).1])),some (.int (k+1:Nat)),some (It.ref l x1 x2).d,some (.int sz),some (Zt (QB w h t sz 0))]) (Qal rfl (opE (x:=Zt (QB w h t sz 0)) rfl rfl (p0 _)) (ap _)) ?_;exact asg (opE (x:=Zt (QB w h t sz 0)) rfl rfl (p1 _)) rfl|mark l=>exact⟨_,.inl (bnd (e1:=[some IS,some (sty w h o li),some t.d,some (.lst (ae.map .int)),some (Qt pl),some (.int k),some (It.mark l).d,b,c]) rfl (ifF (QN rfl bh) rfl)),some (It.mark l).d,b,c,rfl⟩|key l=>exact⟨_,.inl (bnd (e1:=[some IS,some (sty w h o li),some t.d,some (.lst (ae.map .int)),some (Qt pl),some (.int k),some (It.key l).d,b,c]) rfl (ifF (QN rfl bh) rfl)),some (It.key l).d,b,c,rfl⟩
 ·rintro e⟨a,b,c,rfl⟩;rw[take_length];refine ret ?_;have:=QhY (Jt w h s ae is).2.2;simp only[Qm,lC,lN,eV,eK,getElem?_cons_zero,getElem?_cons_succ,join_some,bind_some,map_some];rw[show(is.foldl (QU w h ae) ([],0,s)).2.2=(Jt w h s ae is).2.2 from rfl,this];rfl
def Jv(h:Int)(s:List Plc×Sta)(b:Bk):List Plc×Sta:=if QcZ b then(s.1++[(QT h s.2 1 0).1],(QT h s.2 1 0).2)else s
def Qag(h:Int)(bs:List Bk):List Plc×Sta:=bs.foldl (Jv h) ([],JP 1)
def QP(h:Int)(o li:Bool)(bs:List Bk):List Plc×Sta:=if li=true then((Qag h bs).1,if(Qag h bs).1.length>0 then QZ o (Qag h bs).2 else(Qag h bs).2)else([],JP 1)
theorem QfM(h:Int):∀(bs:List Bk)(s:List Plc×Sta),(bs.foldl (Jv h) s).1.length<=s.1.length+bs.length
 |[],s=>le_refl _|b::bs,s=>by
  have:=QfM h bs (Jv h s b);rw[foldl_cons,length_cons];have:(Jv h s b).1.length<=s.1.length+1:=by unfold Jv;split<;>simp
  omega
theorem Qur(xs:List Plc):D.len (Qt xs)=some (.int xs.length):=by show some (D.int (xs.map Plc.d).length)=_;rw[length_map]
theorem Qi7(w h:Int)(o li:Bool)(bs:List Bk)(hl:bs.length<=100000):VX [bks bs,sty w h o li]=some (.tup [Qt (QP h o li bs).1,(QP h o li bs).2.d]):=by
 have b1:=Qch 1;have io:D.ix (sty w h o li) (.int 3)=some (.bl li):=rfl;unfold VX Qbl QP;refine stD rfl ?_;refine st (e1:=[some (bks bs),some (sty w h o li),some (Qt []),none,none,none]) rfl ?_;refine st (e1:=[some (bks bs),some (sty w h o li),some (Qt []),some (JP 1).d,none,none]) (asg (QN rfl b1) rfl) ?_;cases li with
 |false=>rw[if_neg (by decide)];exact stR (ifT (Qci (b:=false) (opE rfl rfl io)) (ret rfl))|true=>
  rw[if_pos rfl];refine st (e1:=[some (bks bs),some (sty w h o true),some (Qt []),some (JP 1).d,none,none]) (ifF (Qci (b:=true) (opE rfl rfl io)) rfl) ?_;refine QaC Bk.d bs (λi e=>∃a b,e=[some (bks bs),some (sty w h o true),some (Qt ((bs.take i).foldl (Jv h) ([],JP 1)).1),some ((bs.take i).foldl (Jv h) ([],JP 1)).2.d,a,b]) rfl ⟨none,none,rfl⟩ ?_ ?_
  ·rintro i hi e⟨a,b,rfl⟩;rw[Qc4 _ _ _ _ hi];have hb:=QfM h (bs.take i) ([],JP 1);have bA:((bs.take i).foldl (Jv h) ([],JP 1)).1.length<lI:=Zv (by rw[length_take]at hb;simp at hb;omega);have it:=QgW bs[i];generalize bs[i]=x at*;generalize(bs.take i).foldl (Jv h) ([],JP 1)=z at*;obtain⟨pl,t⟩:=z;simp only[]at bA⊢;have ap:=λy=>Qql (xs:=pl) y bA;have pb:=Qbz w h o true t 1 0;unfold Jv;cases q:QcZ x with
   |true=>rw[if_pos rfl];rw[q]at it;refine⟨_,.inl ?_,some x.d,some (Zt (QT h t 1 0)),rfl⟩;refine bnd (e1:=[some (bks bs),some (sty w h o true),some (Qt pl),some t.d,some x.d,b]) rfl (ifT (QN rfl it) ?_);refine st (e1:=[some (bks bs),some (sty w h o true),some (Qt pl),some t.d,some x.d,some (Zt (QT h t 1 0))]) (asg (Qeh rfl rfl rfl rfl pb) rfl) ?_;refine st (e1:=[some (bks bs),some (sty w h o true),some (Qt (pl++[(QT h t 1 0).1])),some t.d,some x.d,some (Zt (QT h t 1 0))]) (Qal rfl (opE (x:=Zt (QT h t 1 0)) rfl rfl (p0 _)) (ap _)) ?_;exact asg (opE (x:=Zt (QT h t 1 0)) rfl rfl (p1 _)) rfl|false=>
    rw[if_neg (by decide)];rw[q]at it;exact⟨_,.inl (bnd (e1:=[some (bks bs),some (sty w h o true),some (Qt pl),some t.d,some x.d,b]) rfl (ifF (QN rfl it) rfl)),some x.d,b,rfl⟩
  ·rintro e⟨a,b,rfl⟩;rw[take_length];have nc:=QeT w h o true (Qag h bs).2;have ln:=Qur (Qag h bs).1;have cf:bs.foldl (Jv h) ([],JP 1)=Qag h bs:=rfl;rw[cf];generalize Qag h bs=z at*;obtain⟨pl,t⟩:=z;simp only[]at nc ln⊢;refine st (e1:=[some (bks bs),some (sty w h o true),some (Qt pl),some (if pl.length>0 then QZ o t else t).d,a,b]) ?_ (ret rfl);by_cases z:pl.length>0
   ·rw[if_pos z];exact ifT (opE (unE (x:=Qt pl) rfl ln) rfl (by show some (D.bl (decide ((0:Int)<pl.length)))=_;rw[decide_eq_true (by omega)])) (asg (ZX rfl rfl nc) rfl)
   ·rw[if_neg z];exact ifF (opE (unE (x:=Qt pl) rfl ln) rfl (by show some (D.bl (decide ((0:Int)<pl.length)))=_;rw[decide_eq_false (by omega)])) rfl
def QX(h:Int)(o:Bool)(s:Sta):Bk->Plc×Sta|.plates n _=>Qfu s n|.table rs _=>QT h s rs.length 0|.heading _ k _=>QT h s 1 k|_=>QT h (QZ o s) 1 0
theorem QmH(w h:Int)(o li:Bool)(s:Sta)(b:Bk)(hb:Vf b=false):V9 [b.d,sty w h o li,s.d]=some (Zt (QX h o s b)):=by unfold V9 Qdt;cases b with|para is=>cases hb|plates n l=>have pp:=Qmc s n;exact stD rfl (stR (ifT (opE (x:=.str "plates") (opE (x:=(Bk.plates n l).d) rfl rfl rfl) rfl (by rw[eqS];simp)) (ret (ZX rfl (opE (x:=(Bk.plates n l).d) rfl rfl rfl) pp))))|table rs l=>have pb:=Qbz w h o li s rs.length 0;refine stD rfl ?_;refine st (e1:=[some (Bk.table rs l).d,some (sty w h o li),some s.d]) (ifF (opE (x:=.str "table") (opE (x:=(Bk.table rs l).d) rfl rfl rfl) rfl (by rw[eqS];simp)) rfl) ?_;exact stR (ifT (opE (x:=.str "table") (opE (x:=(Bk.table rs l).d) rfl rfl rfl) rfl (by rw[eqS];simp)) (ret (Qeh rfl rfl (unE (opE (x:=(Bk.table rs l).d) rfl rfl rfl) (Qas rs)) rfl pb)))|heading t k l=>have pb:=Qbz w h o li s 1 k;refine stD rfl ?_;refine st (e1:=[some (Bk.heading t k l).d,some (sty w h o li),some s.d]) (ifF (opE (x:=.str "heading") (opE (x:=(Bk.heading t k l).d) rfl rfl rfl) rfl (by rw[eqS];simp)) rfl) ?_;refine st (e1:=[some (Bk.heading t k l).d,some (sty w h o li),some s.d]) (ifF (opE (x:=.str "heading") (opE (x:=(Bk.heading t k l).d) rfl rfl rfl) rfl (by rw[eqS];simp)) rfl) ?_;exact stR (ifT (opE (x:=.str "heading") (opE (x:=(Bk.heading t k l).d) rfl rfl rfl) rfl (by rw[eqS];simp)) (ret (Qeh rfl rfl rfl (opE (x:=(Bk.heading t k l).d) rfl rfl rfl) pb)))|chapter t l=>have nc:=QeT w h o li s;have pb:=Qbz w h o li (QZ o s) 1 0;refine stD rfl ?_;refine st (e1:=[some (Bk.chapter t l).d,some (sty w h o li),some s.d]) (ifF (opE (x:=.str "chapter") (opE (x:=(Bk.chapter t l).d) rfl rfl rfl) rfl (by rw[eqS];simp)) rfl) ?_;refine st (e1:=[some (Bk.chapter t l).d,some (sty w h o li),some s.d]) (ifF (opE (x:=.str "chapter") (opE (x:=(Bk.chapter t l).d) rfl rfl rfl) rfl (by rw[eqS];simp)) rfl) ?_;refine st (e1:=[some (Bk.chapter t l).d,some (sty w h o li),some s.d]) (ifF (opE (x:=.str "chapter") (opE (x:=(Bk.chapter t l).d) rfl rfl rfl) rfl (by rw[eqS];simp)) rfl) ?_;exact ret (Qeh rfl (ZX rfl rfl nc) rfl rfl pb)
def Qu(w h:Int)(o:Bool)(ae:List Int)(s:List (List Plc)×Sta×Nat)(b:Bk):List (List Plc)×Sta×Nat:=match b with|.para is=>(s.1++[(Jt w h s.2.1 (ae.drop s.2.2) is).1],endLine (Jt w h s.2.1 (ae.drop s.2.2) is).2.2,s.2.2+(QQ is).length)|b=>(s.1++[[(QX h o s.2.1 b).1]],(QX h o s.2.1 b).2,s.2.2)
def Qar(w h:Int)(o li:Bool)(ae:List Int)(bs:List Bk):List (List Plc)×Sta×Nat:=bs.foldl (Qu w h o ae) ([(QP h o li bs).1],(QP h o li bs).2,0)
theorem QfN(w h:Int)(o:Bool)(ae:List Int):∀(bs:List Bk)(s:List (List Plc)×Sta×Nat),(bs.foldl (Qu w h o ae) s).1.length=s.1.length+bs.length/\(bs.foldl (Qu w h o ae) s).2.2=s.2.2+(rO bs).length
 |[],s=>⟨rfl,rfl⟩|b::bs,s=>by
  obtain⟨h1,h2⟩:=QfN w h o ae bs (Qu w h o ae s b);rw[foldl_cons,length_cons,h1,h2];have e:(rO (b::bs)).length=(QQ (iO b)).length+(rO bs).length:=by unfold rO;rw[flatMap_cons,length_append]
  rw[e];cases b<;>simp[Qu,iO,QQ]<;>omega
def Jc(xs:List (List Plc)):D:=.lst (xs.map Qt)
theorem Qu6{xs:List (List Plc)}(x:List Plc)(h:xs.length<lI):D.app (Jc xs) (Qt x)=some (Jc (xs++[x])):=V4 (f:=Qt) x h
theorem Qtb(xs:List Int)(k:Nat)(h:k<=xs.length):ZD (.lst (xs.map .int)) (some (k:Int)) none=some (.lst ((xs.drop k).map .int)):=by show some (D.lst (Z1 (xs.map D.int) (some (k:Int)) none))=_;congr 1;unfold Z1 YA;simp only[];rw[if_neg (by omega),length_map,show min (k:Int).toNat xs.length=k from by omega,List.map_drop,List.take_of_length_le (by rw[length_drop,length_map];omega)]
def BkT(b:Bk):Prop:=∀i∈iO b,ItT i
theorem Qgb{bs:List Bk}(hf:Few bs)(b:Bk)(hb:b∈bs):Few [b]:=⟨by simp,by have:=Y1 hf b hb;simpa using this⟩
theorem QhN(b:Bk):rO [b]=QQ (iO b):=by unfold rO;simp
theorem QoY(w h:Int)(o li:Bool)(ae:List Int)(bs:List Bk)(hf:Few bs)(hr:(rO bs).length<=ae.length)(ht:∀b∈bs,BkT b):Yu [bks bs,sty w h o li,.lst (ae.map .int)]=some (Jc (Qar w h o li ae bs).1):=by
 have sc:=Qi7 w h o li bs hf.1;unfold Yu QeD Qar;generalize QP h o li bs=c0 at*;obtain⟨cH,s0⟩:=c0;simp only[]at sc⊢;refine stD rfl ?_;refine st (e1:=[some (bks bs),some (sty w h o li),some (.lst (ae.map .int)),some (.tup [Qt cH,s0.d]),none,none,none,none]) (asg (ZX rfl rfl sc) rfl) ?_;refine st (e1:=[some (bks bs),some (sty w h o li),some (.lst (ae.map .int)),some (.tup [Qt cH,s0.d]),some (Jc [cH]),none,none,none]) rfl ?_;refine st (e1:=[some (bks bs),some (sty w h o li),some (.lst (ae.map .int)),some (.tup [Qt cH,s0.d]),some (Jc [cH]),some s0.d,none,none]) rfl ?_;refine st (e1:=[some (bks bs),some (sty w h o li),some (.lst (ae.map .int)),some (.tup [Qt cH,s0.d]),some (Jc [cH]),some s0.d,some (.int 0),none]) rfl ?_;refine QaC Bk.d bs (λi e=>∃a b,e=[some (bks bs),some (sty w h o li),some (.lst (ae.map .int)),a,some (Jc ((bs.take i).foldl (Qu w h o ae) ([cH],s0,0)).1),some ((bs.take i).foldl (Qu w h o ae) ([cH],s0,0)).2.1.d,some (.int ((bs.take i).foldl (Qu w h o ae) ([cH],s0,0)).2.2),b]) rfl ⟨_,none,rfl⟩ ?_ ?_
 ·rintro i hi e⟨a,b,rfl⟩;rw[Qc4 _ _ _ _ hi];have hb:=QfN w h o ae (bs.take i) ([cH],s0,0);have h1:=hb.1;have h2:=hb.2;rw[length_take]at h1;simp at h1 h2;have bA:((bs.take i).foldl (Qu w h o ae) ([cH],s0,0)).1.length<lI:=Zv (by have:=hf.1;omega);have t1:rO (bs.take (i+1))=rO (bs.take i)++QQ (iO bs[i]):=fT _ bs i hi;have t3:(rO (bs.take (i+1))).length<=(rO bs).length:=Vc (λb=>QQ (iO b)) bs (i+1);rw[t1,length_append]at t3;have ij:=Y1 hf bs[i] (getElem_mem hi);have hT:=ht bs[i] (getElem_mem hi);have f1:=Qgb hf bs[i] (getElem_mem hi);generalize bs[i]=x at*;generalize(bs.take i).foldl (Qu w h o ae) ([cH],s0,0)=z at*;obtain⟨tl,s,k⟩:=z;simp only[]at h1 h2 bA⊢;have ap:=λy=>Qu6 (xs:=tl) y bA;generalize bks bs=BS at*;have Jq:Vf x=false->∃e',((gS 7 x.d [some BS,some (sty w h o li),some (.lst (ae.map .int)),a,some (Jc tl),some s.d,some (.int k),b]).bind (sQ (sIf (eOp D.eqO (eOp D.ix (eV 7) (eC (.int 0))) (eC (.str "para"))) (sQ (Qc (eK V8 (lC (eOp D.ix (eV 7) (eC (.int 1))) (lC (eV 1) (lC (eV 5) (lC (JF (eV 2) (oAt (eV 6)) (oNo)) lN))))) (gS 3)) (sQ (sP 4 (eOp D.ix (eV 3) (eC (.int 0)))) (ZC 6 D.addI (eUn D.len (eK Z4 (lC (Qg (lC (eV 7) lN)) lN)))))) (sQ (Qc (eK V9 (lC (eV 7) (lC (eV 1) (lC (eV 5) lN)))) (gS 3)) (sP 4 (Qg (lC (eOp D.ix (eV 3) (eC (.int 0))) lN))))) (Qc (eOp D.ix (eV 3) (eC (.int 1))) (gS 5)))=some (.nx e'))/\∃a b,e'=[some BS,some (sty w h o li),some (.lst (ae.map .int)),a,some (Jc (tl++[[(QX h o s x).1]])),some (QX h o s x).2.d,some (.int k),b]:=by
   intro hp;have sb:=QmH w h o li s x hp;have tg:=Qr1 x;rw[hp]at tg;refine⟨_,bnd (e1:=[some BS,some (sty w h o li),some (.lst (ae.map .int)),a,some (Jc tl),some s.d,some (.int k),some x.d]) rfl ?_,some (Zt (QX h o s x)),some x.d,rfl⟩;refine st (e1:=[some BS,some (sty w h o li),some (.lst (ae.map .int)),some (Zt (QX h o s x)),some (Jc (tl++[[(QX h o s x).1]])),some s.d,some (.int k),some x.d]) ?_ (asg (opE (x:=Zt (QX h o s x)) rfl rfl (p1 _)) rfl);refine ifF (opE (x:=.str (QgA x)) (opE (x:=x.d) rfl rfl (Qp8 x)) rfl (by rw[eqS,tg])) ?_;refine st (e1:=[some BS,some (sty w h o li),some (.lst (ae.map .int)),some (Zt (QX h o s x)),some (Jc tl),some s.d,some (.int k),some x.d]) (asg (ZH rfl rfl rfl sb) rfl) ?_;exact Qal rfl (d:=Qt [(QX h o s x).1]) rfl (ap _)
  cases x with
  |para is=>
   have hk:k<=ae.length:=by omega
   have kL:(QQ is).length<=(ae.drop k).length:=by rw[length_drop];have:(QQ (iO (.para is))).length=(QQ is).length:=rfl;omega
   have si:=QmG w h o li s (ae.drop k) is ij kL hT;have rf:=Qf7 [.para is] f1;rw[QhN]at rf;have cu:=Qtb ae k hk;generalize hz:Jt w h s (ae.drop k) is=z at*;have e1:Qu w h o ae (tl,s,k) (.para is)=(tl++[z.1],endLine z.2.2,k+(QQ is).length):=by show(tl++[(Jt w h s (ae.drop k) is).1],_,_)=_;rw[hz]
   rw[e1];refine⟨_,.inl ?_,some (.tup [Qt z.1,(endLine z.2.2).d]),some (Bk.para is).d,rfl⟩;refine bnd (e1:=[some BS,some (sty w h o li),some (.lst (ae.map .int)),a,some (Jc tl),some s.d,some (.int k),some (Bk.para is).d]) rfl ?_;refine st (e1:=[some BS,some (sty w h o li),some (.lst (ae.map .int)),some (.tup [Qt z.1,(endLine z.2.2).d]),some (Jc (tl++[z.1])),some s.d,some (.int (k+(QQ is).length:Nat)),some (Bk.para is).d]) ?_ rfl;refine ifT (opE (x:=.str "para") (opE (x:=(Bk.para is).d) rfl rfl rfl) rfl (by rw[eqS];simp)) ?_;refine st (e1:=[some BS,some (sty w h o li),some (.lst (ae.map .int)),some (.tup [Qt z.1,(endLine z.2.2).d]),some (Jc tl),some s.d,some (.int k),some (Bk.para is).d]) (asg (Qeh (opE (x:=(Bk.para is).d) rfl rfl rfl) rfl rfl (by show ZD (.lst (ae.map .int)) (some (k:Int)) none=_;exact cu) si) rfl) ?_;refine st (e1:=[some BS,some (sty w h o li),some (.lst (ae.map .int)),some (.tup [Qt z.1,(endLine z.2.2).d]),some (Jc (tl++[z.1])),some s.d,some (.int k),some (Bk.para is).d]) (Qal rfl (d:=Qt z.1) rfl (ap _)) ?_;have ln:=Qas (QQ is);have gR:Z4 [.lst [(Bk.para is).d]]=some (QH (QQ is)):=rf;have hA:eUn D.len (eK Z4 (lC (Qg (lC (eV 7) lN)) lN)) [some BS,some (sty w h o li),some (.lst (ae.map .int)),some (.tup [Qt z.1,(endLine z.2.2).d]),some (Jc (tl++[z.1])),some s.d,some (.int k),some (Bk.para is).d]=some (.int (QQ is).length):=unE (QN (x:=.lst [(Bk.para is).d]) rfl gR) ln;unfold ZC;rw[hA];rfl|chapter t l=>obtain⟨e',h5,h6⟩:=Jq rfl;exact⟨e',.inl h5,h6⟩|heading t n l=>obtain⟨e',h5,h6⟩:=Jq rfl;exact⟨e',.inl h5,h6⟩|table rs l=>obtain⟨e',h5,h6⟩:=Jq rfl;exact⟨e',.inl h5,h6⟩|plates n l=>obtain⟨e',h5,h6⟩:=Jq rfl;exact⟨e',.inl h5,h6⟩
 ·rintro e⟨a,b,rfl⟩;rw[take_length];exact ret rfl
theorem Qc3(w h:Int)(s:Sta)(n r:Int):s.p<=(QB w h s n r).1.p/\(QB w h s n r).2.p=(QB w h s n r).1.p/\(QB w h s n r).1.p<=s.p+1:=by
 unfold QB;split;·exact⟨Int.le_refl _,rfl,by show s.p<=s.p+1;omega⟩
 ·split;·exact⟨Int.le_refl _,rfl,by show s.p<=s.p+1;omega⟩
  ·exact⟨by show s.p<=s.p+1;omega,rfl,Int.le_refl _⟩
theorem Qfy(s:Sta):(endLine s).p=s.p:=by unfold endLine;split<;>rfl
theorem Qb1(h:Int)(s:Sta)(a b:Int):s.p<=(QT h s a b).1.p/\(QT h s a b).2.p=(QT h s a b).1.p/\(QT h s a b).1.p<=s.p+1:=by
 have e:=Qfy s;unfold QT;refine⟨?_,rfl,?_⟩
 ·show s.p<=(if _ then _ else _:Sta).p;split;·omega
  ·show s.p<=(endLine s).p+1;omega
 ·show(if _ then _ else _:Sta).p<=s.p+1;split;·omega
  ·show(endLine s).p+1<=s.p+1;omega
theorem Qjv(s:Sta):s.p<=(Q1 s).p/\(Q1 s).p<=s.p+1/\(Q1 s).l=0/\(Q1 s).u=0/\(Q1 s).f=0:=by
 unfold Q1;split;·rename_i z;exact⟨Int.le_refl _,by omega,z⟩
 ·exact⟨by show s.p<=s.p+1;omega,Int.le_refl _,rfl,rfl,rfl⟩
theorem QcQ(o:Bool)(s:Sta):s.p<=(QZ o s).p/\(QZ o s).p<=s.p+2/\(QZ o s).l=0/\(QZ o s).u=0/\(QZ o s).f=0:=by
 obtain⟨h1,h2,h3⟩:=Qjv s;unfold QZ;split;·exact⟨by show s.p<=(Q1 s).p+1;omega,by show(Q1 s).p+1<=s.p+2;omega,rfl,rfl,rfl⟩
 ·exact⟨h1,by omega,h3⟩
theorem Qkc(h:Int)(s:Sta)(hh:1<=h)(z:s.l=0/\s.u=0/\s.f=0):(QT h s 1 0).1.p=s.p:=by
 have e:endLine s=s:=by unfold endLine;rw[if_pos z.2.1]
 unfold QT;rw[e];show(if s.l+s.f+(1+0)<=h then s else _:Sta).p=s.p;rw[if_pos (by rw[z.1,z.2.2];omega)]
def Qeb:Bk->Int|.plates n _=>2+n|.para is=>2+2*((is.filter QD).length:Int)|_=>2
theorem QhM(h:Int)(o:Bool)(s:Sta)(b:Bk)(hh:1<=h)(hp:Vf b=false)(hn:∀n l,b=.plates n l->1<=n):s.p<=(QX h o s b).1.p/\(QX h o s b).1.p<=(QX h o s b).2.p/\(QX h o s b).2.p<=s.p+Qeb b:=by cases b with
 |para is=>cases hp|plates n l=>
  have h1:=Qjv s;have h2:=hn n l rfl;refine⟨h1.1,?_,?_⟩;·show(Q1 s).p<=(Q1 s).p+n;omega
  ·show(Q1 s).p+n<=s.p+(2+n);omega|table rs l=>obtain⟨a,b,c⟩:=Qb1 h s rs.length 0;exact⟨a,Int.le_of_eq b.symm,by show(QT h s rs.length 0).2.p<=s.p+2;omega⟩|heading t k l=>obtain⟨a,b,c⟩:=Qb1 h s 1 k;exact⟨a,Int.le_of_eq b.symm,by show(QT h s 1 k).2.p<=s.p+2;omega⟩|chapter t l=>
  have h1:=QcQ o s;have h2:=Qkc h (QZ o s) hh h1.2.2;obtain⟨a,b,c⟩:=Qb1 h (QZ o s) 1 0;refine⟨?_,Int.le_of_eq b.symm,?_⟩;·show s.p<=(QT h (QZ o s) 1 0).1.p;omega
  ·show(QT h (QZ o s) 1 0).2.p<=s.p+2;omega
def QS(is:List It):Nat:=(is.filter QD).length
theorem Yr(i:It)(is:List It):QS (i::is)=(if QD i then 1 else 0)+QS is:=by unfold QS;rw[filter_cons];split<;>simp<;>omega
theorem QiK(w h:Int)(ae:List Int)(lo:Int):∀(is:List It)(s:List Plc×Nat×Sta),(∀x∈s.1,lo<=x.p/\x.p<=s.2.2.p)->lo<=s.2.2.p->let r:=is.foldl (QU w h ae) s
  (∀x∈r.1,lo<=x.p/\x.p<=r.2.2.p)/\s.2.2.p<=r.2.2.p/\r.2.2.p<=s.2.2.p+QS is/\r.1.length=s.1.length+QS is
 |[],s,h1,h2=>⟨h1,Int.le_refl _,by simp[QS],by simp[QS]⟩|i::is,s,h1,h2=>by
  have key:(∀x∈(QU w h ae s i).1,lo<=x.p/\x.p<=(QU w h ae s i).2.2.p)/\s.2.2.p<=(QU w h ae s i).2.2.p/\(QU w h ae s i).2.2.p<=s.2.2.p+(if QD i then 1 else 0:Nat)/\(QU w h ae s i).1.length=s.1.length+(if QD i then 1 else 0:Nat):=by
   have wd:∀n r,(∀x∈s.1++[(QB w h s.2.2 n r).1],lo<=x.p/\x.p<=(QB w h s.2.2 n r).2.p):=λn r x hx=>by
    obtain⟨a,b,c⟩:=Qc3 w h s.2.2 n r;rcases List.mem_append.mp hx with z|z;·have:=h1 x z;omega
    ·rw[List.mem_singleton.mp z];omega
   cases i with
   |word x ns=>
    obtain⟨a,b,c⟩:=Qc3 w h s.2.2 x.length ns.length;refine⟨wd _ _,?_,?_,by simp[QU,QD,J9]⟩;·show s.2.2.p<=(QB w h s.2.2 x.length ns.length).2.p;omega
    ·show(QB w h s.2.2 x.length ns.length).2.p<=s.2.2.p+1;omega|ref l x y=>
    obtain⟨a,b,c⟩:=Qc3 w h s.2.2 ((x.length:Int)+ae.getD s.2.1 0+y.length) 0;refine⟨wd _ _,?_,?_,by simp[QU,QD,J9,Jk]⟩;·show s.2.2.p<=(QB w h s.2.2 _ 0).2.p;omega
    ·show(QB w h s.2.2 _ 0).2.p<=s.2.2.p+1;omega|mark l=>exact⟨h1,Int.le_refl _,by show s.2.2.p<=s.2.2.p+0;omega,by simp[QU,QD,J9,Jk]⟩|key l=>exact⟨h1,Int.le_refl _,by show s.2.2.p<=s.2.2.p+0;omega,by simp[QU,QD,J9,Jk]⟩
  obtain⟨k1,k2,k3,k4⟩:=key;obtain⟨r1,r2,r3,r4⟩:=QiK w h ae lo is (QU w h ae s i) k1 (by omega);refine⟨r1,Int.le_trans k2 r2,?_,?_⟩
  ·have:=Yr i is;show(is.foldl (QU w h ae) (QU w h ae s i)).2.2.p<=_;rw[this];omega
  ·have:=Yr i is;show(is.foldl (QU w h ae) (QU w h ae s i)).1.length=_;rw[this,r4,k4];omega
def nPl:Bk->Nat|.para is=>QS is|_=>1
def Qaq(b:Bk):Prop:=∀n l,b=.plates n l->1<=n
theorem Qqk(w h:Int)(o:Bool)(ae:List Int)(hh:1<=h):∀(bs:List Bk)(s:List (List Plc)×Sta×Nat),(∀b∈bs,Qaq b)->let r:=bs.foldl (Qu w h o ae) s
  s.2.1.p<=r.2.1.p/\r.2.1.p<=s.2.1.p+(bs.map Qeb).sum/\∃rows,r.1=s.1++rows/\rows.length=bs.length/\∀q∈bs.zip rows,q.2.length=nPl q.1/\∀x∈q.2,s.2.1.p<=x.p/\x.p<=r.2.1.p
 |[],s,_=>⟨Int.le_refl _,by simp,[],by simp,rfl,by simp⟩|b::bs,s,hb=>by
  have iq:=hb b mem_cons_self;have key:∃row,(Qu w h o ae s b).1=s.1++[row]/\row.length=nPl b/\(∀x∈row,s.2.1.p<=x.p/\x.p<=(Qu w h o ae s b).2.1.p)/\s.2.1.p<=(Qu w h o ae s b).2.1.p/\(Qu w h o ae s b).2.1.p<=s.2.1.p+Qeb b:=by
   have other:Vf b=false->Qu w h o ae s b=(s.1++[[(QX h o s.2.1 b).1]],(QX h o s.2.1 b).2,s.2.2)->nPl b=1->∃row,(Qu w h o ae s b).1=s.1++[row]/\row.length=nPl b/\(∀x∈row,s.2.1.p<=x.p/\x.p<=(Qu w h o ae s b).2.1.p)/\s.2.1.p<=(Qu w h o ae s b).2.1.p/\(Qu w h o ae s b).2.1.p<=s.2.1.p+Qeb b:=by
    intro hp e hn;obtain⟨a1,a2,a3⟩:=QhM h o s.2.1 b hh hp iq;rw[e];refine⟨[(QX h o s.2.1 b).1],rfl,by rw[hn];rfl,λx hx=>?_,?_,a3⟩;·rw[List.mem_singleton.mp hx];exact⟨a1,a2⟩
    ·show s.2.1.p<=(QX h o s.2.1 b).2.p;omega
   cases b with
   |para is=>
    obtain⟨a1,a2,a3,a4⟩:=QiK w h (ae.drop s.2.2) s.2.1.p is ([],0,s.2.1) (by simp) (Int.le_refl _);have e:=Qfy (Jt w h s.2.1 (ae.drop s.2.2) is).2.2;refine⟨(Jt w h s.2.1 (ae.drop s.2.2) is).1,rfl,by unfold nPl Jt;simpa using a4,λx hx=>?_,?_,?_⟩
    ·show _/\x.p<=(endLine (Jt w h s.2.1 (ae.drop s.2.2) is).2.2).p;rw[e];exact a1 x hx
    ·show _<=(endLine (Jt w h s.2.1 (ae.drop s.2.2) is).2.2).p;rw[e];exact a2
    ·show(endLine (Jt w h s.2.1 (ae.drop s.2.2) is).2.2).p<=s.2.1.p+(2+2*((is.filter QD).length:Int));rw[e];have a3':(Jt w h s.2.1 (ae.drop s.2.2) is).2.2.p<=s.2.1.p+(QS is:Int):=a3;have:QS is=(is.filter QD).length:=rfl;omega|chapter t l=>exact other rfl rfl rfl|heading t k l=>exact other rfl rfl rfl|table rs l=>exact other rfl rfl rfl|plates n l=>exact other rfl rfl rfl
  obtain⟨row,k1,k2,k3,k4,k5⟩:=key;obtain⟨r1,r2,rows,r3,r4,r5⟩:=Qqk w h o ae hh bs (Qu w h o ae s b) (λx hx=>hb x (mem_cons_of_mem _ hx));refine⟨Int.le_trans k4 r1,?_,row::rows,?_,by simp[r4],?_⟩
  ·rw[map_cons,sum_cons];show(bs.foldl (Qu w h o ae) (Qu w h o ae s b)).2.1.p<=_;omega
  ·show(bs.foldl (Qu w h o ae) (Qu w h o ae s b)).1=_;rw[r3,k1];simp
  ·intro q hq;rw[zip_cons_cons]at hq;rcases List.mem_cons.mp hq with z|z
   ·rw[z];refine⟨k2,λx hx=>?_⟩;have:=k3 x hx;exact⟨this.1,Int.le_trans this.2 r1⟩
   ·obtain⟨a,b'⟩:=r5 q z;exact⟨a,λx hx=>⟨Int.le_trans k4 (b' x hx).1,(b' x hx).2⟩⟩
def Qah(li:Bool)(b:Bk):Int:=if li=true/\QcZ b=true then 2 else 0
theorem Qqj(h:Int):∀(bs:List Bk)(s:List Plc×Sta),s.2.p<=(bs.foldl (Jv h) s).2.p/\(bs.foldl (Jv h) s).2.p+((bs.foldl (Jv h) s).1.length:Int)<=s.2.p+(s.1.length:Int)+(bs.map (Qah true)).sum
 |[],s=>⟨Int.le_refl _,by simp⟩|b::bs,s=>by
  obtain⟨h1,h2⟩:=Qqj h bs (Jv h s b);rw[foldl_cons,map_cons,sum_cons];have key:s.2.p<=(Jv h s b).2.p/\(Jv h s b).2.p+((Jv h s b).1.length:Int)<=s.2.p+(s.1.length:Int)+Qah true b:=by
   unfold Jv Qah;cases q:QcZ b with
   |true=>
    obtain⟨a,b',c⟩:=Qb1 h s.2 1 0;simp;omega|false=>simp
  omega
theorem QpC(h:Int)(o li:Bool)(bs:List Bk):1<=(QP h o li bs).2.p/\(QP h o li bs).2.p<=3+(bs.map (Qah li)).sum:=by
 have nn:0<=(bs.map (Qah li)).sum:=by induction bs with|nil=>simp|cons b bs ih=>
   rw[map_cons,sum_cons];have:0<=Qah li b:=by unfold Qah;split<;>omega
   omega
 unfold QP;cases li with
 |false=>rw[if_neg (by decide)];exact⟨by decide,by show(1:Int)<=_;omega⟩|true=>
  rw[if_pos rfl];obtain⟨h1,h2⟩:=Qqj h bs ([],JP 1);have gK:(1:Int)<=(Qag h bs).2.p:=h1;have fc:(Qag h bs).2.p+((Qag h bs).1.length:Int)<=1+0+(bs.map (Qah true)).sum:=h2;show 1<=(if _ then _ else _:Sta).p/\(if _ then _ else _:Sta).p<=_;split
  ·have:=QcQ o (Qag h bs).2;omega
  ·omega
theorem QbL{f:Bk->Int}:∀(bs:List Bk)(s:Int),bs.foldl (λs b=>s+f b) s=s+(bs.map f).sum|[],s=>by simp|b::bs,s=>by rw[foldl_cons,QbL bs,map_cons,sum_cons];omega
theorem Quj(li:Bool)(bs:List Bk):most li bs=3+(bs.map (Qah li)).sum+(bs.map Qeb).sum:=by
 unfold most;rw[QbL];have:(bs.map (JA li)).sum=(bs.map (Qah li)).sum+(bs.map Qeb).sum:=by induction bs with
  |nil=>rfl|cons b bs ih=>
   simp only[map_cons,sum_cons,ih];have:JA li b=Qah li b+Qeb b:=by cases b<;>cases li<;>simp[JA,Qah,Qeb,QcZ]
   omega
 omega
theorem Qjp(w h:Int)(o li:Bool)(ae:List Int)(bs:List Bk)(hh:1<=h)(hp:∀b∈bs,Qaq b):∃c rows,(Qar w h o li ae bs).1=c::rows/\rows.length=bs.length/\∀q∈bs.zip rows,q.2.length=nPl q.1/\∀x∈q.2,1<=x.p/\x.p<=most li bs:=by obtain⟨c1,c2⟩:=QpC h o li bs;obtain⟨r1,r2,rows,r3,r4,r5⟩:=Qqk w h o ae hh bs ([(QP h o li bs).1],(QP h o li bs).2,0) hp;have me:=Quj li bs;refine⟨(QP h o li bs).1,rows,r3,r4,λq hq=>?_⟩;obtain⟨a,b⟩:=r5 q hq;refine⟨a,λx hx=>?_⟩;obtain⟨b1,b2⟩:=b x hx;have gp:(bs.foldl (Qu w h o ae) ([(QP h o li bs).1],(QP h o li bs).2,0)).2.1.p<=(QP h o li bs).2.p+(bs.map Qeb).sum:=r2;have b1':(QP h o li bs).2.p<=x.p:=b1;omega
noncomputable def J8:Bk->Str|.chapter _ l=>l|.heading _ _ l=>l|.para _=>""|.table _ l=>l|.plates _ l=>l
theorem QnO(b:Bk):Yv [b.d]=some (.str (J8 b)):=by unfold Yv QeG;cases b<;>simp[QG,JF,ZD,lI,Qx,sD,sQ,sIf,Qi,ZU,Qc,ZC,J5,sNx,YK,Yb,gS,Jp,Zq,eV,eC,eOp,eUn,Ja,QM,eOr,eIf,JR,Qm,Qg,eK,lN,lC,JO,oNo,oAt,ZW,D.len,D.lt,D.le,D.gt,D.ge,D.add,D.sub,D.ix,D.eqO,D.neO,D.cmp,D.cmpN,D.inst,tyD,D.isT,D.intB,D.min2,D.max2,D.neg,D.addI,Qk,JW,JY,JC,QK,QW,JV,JU,Jn,JB,JZ,J0,JD,JE,JX,Q7,JN,Zl,Qr,Qw,Q9,Q6,Q5,QV,D.rng,D.its,D.itsT,QC,ZV,QF,Ji,JQ,Jr,Jj,ixD,J8]
noncomputable def prs(x:Str×Int):D:=.tup [.str x.1,.int x.2]
noncomputable def ZJ(pls:List Plc)(s:List (Str×Int)×Nat)(i:It):List (Str×Int)×Nat:=match i with|.mark l=>(s.1++[(l,(pls.getD s.2 ⟨0,0,0⟩).p)],s.2)|.key _=>s|_=>(s.1,s.2+1)
def Qco(pls:List Plc)(is:List It):List (Str×Int):=(is.foldl (ZJ pls) ([],0)).1
theorem QhS(pls:List Plc):∀(is:List It)(s:List (Str×Int)×Nat),(is.foldl (ZJ pls) s).1.length<=s.1.length+is.length/\(is.foldl (ZJ pls) s).2=s.2+QS is|[],s=>⟨le_refl _,rfl⟩|i::is,s=>by obtain⟨h1,h2⟩:=QhS pls is (ZJ pls s i);rw[foldl_cons,length_cons,h2,Yr];cases i<;>simp[ZJ,QD,J9,Jk]at h1⊢<;>omega
def Zp(is:List It):Prop:=∀i(hi:i<is.length),QD is[i]=false->QS (is.take i)<QS is
theorem Qmd(is:List It)(pls:List Plc)(hl:is.length<=100000)(hp:QS is<=pls.length)(ht:Zp is):J4 [.lst (is.map It.d),Qt pls,.str "mark"]=some (.lst ((Qco pls is).map prs)):=by
 unfold J4 QaW Qco;refine stD rfl ?_;refine st (e1:=[some (.lst (is.map It.d)),some (Qt pls),some (.str "mark"),some (.lst (([]:List (Str×Int)).map prs)),none,none]) rfl ?_;refine st (e1:=[some (.lst (is.map It.d)),some (Qt pls),some (.str "mark"),some (.lst (([]:List (Str×Int)).map prs)),some (.int 0),none]) rfl ?_;refine QaC It.d is (λi e=>∃a,e=[some (.lst (is.map It.d)),some (Qt pls),some (.str "mark"),some (.lst (((is.take i).foldl (ZJ pls) ([],0)).1.map prs)),some (.int ((is.take i).foldl (ZJ pls) ([],0)).2),a]) rfl ⟨none,rfl⟩ ?_ ?_
 ·rintro i hi e⟨a,rfl⟩;rw[Qc4 _ _ _ _ hi];obtain⟨h1,h2⟩:=QhS pls (is.take i) ([],0);rw[length_take]at h1;simp at h1 h2;have hT:=ht i hi;have bh:=QcF is[i];generalize is[i]=x at*;generalize(is.take i).foldl (ZJ pls) ([],0)=z at*;obtain⟨kv,k⟩:=z;simp only[]at h1 h2⊢;have bA:kv.length<lI:=Zv (by omega);have ap:=λy=>V4 (f:=prs) (xs:=kv) y bA;generalize D.lst (is.map It.d)=IS at*;cases x with
  |mark l=>
   have hk:k<pls.length:=by have:=hT rfl;omega
   have px:D.ix (Qt pls) (.int k)=some (pls.getD k ⟨0,0,0⟩).d:=Qd8 (f:=Plc.d) pls k ⟨0,0,0⟩ (by omega) (by omega);obtain⟨q,eq⟩:∃q,pls.getD k ⟨0,0,0⟩=q:=⟨_,rfl⟩;have e1:ZJ pls (kv,k) (.mark l)=(kv++[(l,q.p)],k):=by rw[<-eq];rfl
   rw[eq]at px;rw[e1];refine⟨[some IS,some (Qt pls),some (.str "mark"),some (.lst ((kv++[(l,q.p)]).map prs)),some (.int k),some (It.mark l).d],.inl ?_,some (It.mark l).d,rfl⟩
   ·refine bnd (e1:=[some IS,some (Qt pls),some (.str "mark"),some (.lst (kv.map prs)),some (.int k),some (It.mark l).d]) rfl ?_;refine ifF (QN rfl bh) ?_;refine ifT (opE (x:=.str "mark") (opE (x:=(It.mark l).d) rfl rfl rfl) rfl (by rw[eqS];simp)) ?_;refine Qal (d:=prs (l,q.p)) rfl ?_ (ap _);have hq:D.ix q.d (.int 0)=some (.int q.p):=rfl;have hA:eOp D.ix (eOp D.ix (eV 1) (eV 4)) (eC (.int 0)) [some IS,some (Qt pls),some (.str "mark"),some (.lst (kv.map prs)),some (.int k),some (It.mark l).d]=some (.int q.p):=opE (opE rfl rfl px) rfl hq;simp only[Qm,lC,lN,hA];rfl|key l=>refine⟨_,.inl (bnd (e1:=[some IS,some (Qt pls),some (.str "mark"),some (.lst (kv.map prs)),some (.int k),some (It.key l).d]) rfl (ifF (QN rfl bh) (ifF (opE (x:=.str "key") (opE (x:=(It.key l).d) rfl rfl rfl) rfl (by rw[eqS];simp)) rfl))),some (It.key l).d,rfl⟩|word x ns=>exact⟨_,.inl (bnd (e1:=[some IS,some (Qt pls),some (.str "mark"),some (.lst (kv.map prs)),some (.int k),some (It.word x ns).d]) rfl (ifT (QN rfl bh) rfl)),some (It.word x ns).d,rfl⟩|ref l x y=>exact⟨_,.inl (bnd (e1:=[some IS,some (Qt pls),some (.str "mark"),some (.lst (kv.map prs)),some (.int k),some (It.ref l x y).d]) rfl (ifT (QN rfl bh) rfl)),some (It.ref l x y).d,rfl⟩
 ·rintro e⟨a,rfl⟩;rw[take_length];exact ret rfl
noncomputable def Zj(kv:List (Str×Int)):D:=.dic (kv.map λx=>Sum.inr x.1) (kv.map λx=>.int x.2)
theorem QsP{β:Type}(l:Str)(kv:List (Str×β)):hasK (.inr l) (kv.map λx=>Sum.inr x.1)=true↔l∈kv.map (·.1):=by
 unfold hasK;rw[List.any_eq_true];constructor
 ·rintro⟨c,hc,e⟩;obtain⟨x,hx,rfl⟩:=List.mem_map.mp hc;have:x.1=l:=by simpa using e
  exact List.mem_map.mpr ⟨x,hx,this⟩
 ·intro h;obtain⟨x,hx,rfl⟩:=List.mem_map.mp h;exact⟨.inr x.1,List.mem_map.mpr ⟨x,hx,rfl⟩,by simp⟩
theorem Qlj{kv:List (Str×Int)}{l:Str}{p:Int}(h:l∉kv.map (·.1))(hl:kv.length<lI):D.put (Zj kv) (.str l) (.int p)=some (Zj (kv++[(l,p)])):=by show(if(kv.map λx=>(Sum.inr x.1:Kd)).length<lI then some (Qe3 _ _ (.inr l) (.int p))else none)=_;rw[if_pos (by rw[length_map];exact hl)];unfold Qe3;rw[if_neg (λz=>h ((QsP l kv).mp z))];unfold Zj;rw[map_append,map_append];rfl
theorem Qlb:∀{kv:List (Str×Int)}{l:Str},l∈kv.map (·.1)->∃p,(l,p)∈kv/\D.dget (Zj kv) (.str l)=some (.int p)
 |[],l,h=>by simp at h|(a,q)::kv,l,h=>by
  by_cases z:a=l
  ·subst z;refine⟨q,mem_cons_self,?_⟩;show(if(Sum.inr a:Kd)=.inr a then some (D.int q)else _)=_;rw[if_pos rfl]
  ·have h':l∈kv.map (·.1):=by
    rcases List.mem_cons.mp (show l∈a::kv.map (·.1)from h)with e|e;·exact absurd e.symm z
    ·exact e
   obtain⟨p,h1,h2⟩:=Qlb h';refine⟨p,mem_cons_of_mem _ h1,?_⟩;show(if(Sum.inr a:Kd)=.inr l then some (D.int q)else Qck _ _ _)=_;rw[if_neg (by simpa using z)];exact h2
def JK(q:Bk×List Plc):List (Str×Int):=(if J8 q.1=""then[]else[(J8 q.1,(q.2.getD 0 ⟨0,0,0⟩).p)])++Qco q.2 (iO q.1)
noncomputable def mkL:It->List Str|.mark l=>[l]|_=>[]
def QE(is:List It):List Str:=is.flatMap mkL
def ZR(b:Bk):List Str:=(if J8 b=""then[]else[J8 b])++QE (iO b)
def Qp(bs:List Bk):List Str:=bs.flatMap ZR
theorem Qgn(pls:List Plc):∀(is:List It)(s:List (Str×Int)×Nat),(is.foldl (ZJ pls) s).1.map (·.1)=s.1.map (·.1)++QE is|[],s=>by simp[QE]|i::is,s=>by rw[foldl_cons,Qgn pls is];cases i<;>simp[ZJ,QE,mkL]
theorem Qgo(q:Bk×List Plc):(JK q).map (·.1)=ZR q.1:=by
 unfold JK ZR;rw[map_append];congr 1;·split<;>rfl
 ·exact Qgn q.2 (iO q.1) ([],0)
theorem QgG{α β:Type}(f:α->D)(g:β->D):∀(xs:List α)(ys:List β),Qai (xs.map f) (ys.map g)=(xs.zip ys).map λq=>D.tup [f q.1,g q.2]|[],_=>by simp[Qai]|_::_,[]=>by simp[Qai]|x::xs,y::ys=>by show D.tup [f x,g y]::Qai (xs.map f) (ys.map g)=_;rw[QgG f g xs ys];rfl
theorem QlI(c:List Plc)(rows:List (List Plc)):ZD (Jc (c::rows)) (some 1) none=some (Jc rows):=by show some (D.lst (Z1 ((c::rows).map Qt) (some 1) none))=_;unfold Z1 YA Jc;simp only[];rw[if_neg (by decide),map_cons,length_cons];show some (D.lst (((Qt c::rows.map Qt).drop (min 1 ((rows.map Qt).length+1))).take _))=_;rw[show min 1 ((rows.map Qt).length+1)=1 from by omega,List.drop_succ_cons,drop_zero,List.take_of_length_le (by omega)]
theorem Qpe(is:List It):(QE is).length<=is.length:=by unfold QE;induction is with|nil=>exact le_refl _|cons i is ih=>
  rw[flatMap_cons,length_append,length_cons];have:(mkL i).length<=1:=by cases i<;>simp[mkL]
  omega
theorem QfO(bs:List Bk):(Qp bs).length<=bs.length+(bs.flatMap iO).length:=by unfold Qp;induction bs with|nil=>exact le_refl _|cons b bs ih=>
  rw[flatMap_cons,flatMap_cons,length_append,length_append,length_cons];have h1:=Qpe (iO b);have h2:(ZR b).length<=1+(iO b).length:=by unfold ZR;rw[length_append];split<;>simp<;>omega
  omega
theorem Qix{α β:Type}:∀(xs:List α)(ys:List β),ys.length=xs.length->(xs.zip ys).map (·.1)=xs|[],_,_=>by simp|x::xs,[],h=>by simp at h|x::xs,y::ys,h=>by simp at h⊢;exact Qix xs ys h
theorem Qa1{α β γ:Type}(f:α->List γ)(g:α×β->List (γ×Int))(hg:∀q,(g q).map (·.1)=f q.1):∀qs:List (α×β),(qs.flatMap g).map (·.1)=(qs.map (·.1)).flatMap f|[]=>rfl|q::qs=>by rw[flatMap_cons,map_append,hg,Qa1 f g hg qs];simp
theorem Qse(B T P Q:Option D)(u v:Option D)(kv mk:List (Str×Int))(hn:(kv++mk).map (·.1)|>.Nodup)(hl:(kv++mk).length<lI)(it:EvI)(hit:it [B,T,some (Zj kv),P,Q,u,v]=some (mk.map prs)):∃u' v',Jg it (Jp [gS 5,gS 6]) (Qec 2 (eV 5) (eV 6)) [B,T,some (Zj kv),P,Q,u,v]=some (.nx [B,T,some (Zj (kv++mk)),P,Q,u',v']):=by
 obtain⟨e',h1,u',v',h2⟩:=Qbu (g:=Jp [gS 5,gS 6]) (b:=Qec 2 (eV 5) (eV 6)) prs mk (λi e=>∃u v,e=[B,T,some (Zj (kv++mk.take i)),P,Q,u,v]) (by
  rintro i hi e⟨u,v,rfl⟩;obtain⟨⟨l,p⟩,hm⟩:∃q,mk[i]=q:=⟨_,rfl⟩;have cT:l∉(kv++mk.take i).map (·.1):=by
   have e1:kv++mk=(kv++mk.take i)++(mk[i]::mk.drop (i+1)):=by rw[append_assoc,<-drop_eq_getElem_cons hi,take_append_drop]
   rw[e1,map_append,map_cons,hm]at hn;intro z;exact(List.nodup_append.mp hn).2.2 l z l mem_cons_self rfl
  have bA:(kv++mk.take i).length<lI:=by
   refine lt_of_le_of_lt ?_ hl;rw[length_append,length_append,length_take];omega
  have pd:=Qlj (p:=p) cT bA;rw[take_succ_eq_append_getElem hi,hm,<-append_assoc];refine⟨[B,T,some (Zj (kv++mk.take i++[(l,p)])),P,Q,some (.str l),some (.int p)],.inl ?_,_,_,rfl⟩;refine bnd (e1:=[B,T,some (Zj (kv++mk.take i)),P,Q,some (.str l),some (.int p)]) rfl ?_;show(D.put (Zj (kv++mk.take i)) (.str l) (.int p)).map _=_;rw[pd];rfl) [B,T,some (Zj kv),P,Q,u,v] ⟨u,v,by rw[take_zero,append_nil]⟩;subst h2;rw[take_length]at h1;refine⟨u',v',?_⟩;unfold Jg;rw[hit];exact h1
theorem Qkh(bs:List Bk)(c:List Plc)(rows:List (List Plc))(hf:Few bs)(hr:rows.length=bs.length)(hn:(Qp bs).Nodup)(hs:∀q∈bs.zip rows,q.2.length=nPl q.1)(ht:∀b∈bs,Zp (iO b)):Yl [bks bs,Jc (c::rows)]=some (Zj ((bs.zip rows).flatMap JK)):=by
 unfold Yl QbU;refine stD rfl ?_;refine st (e1:=[some (bks bs),some (Jc (c::rows)),some (Zj []),none,none,none,none]) rfl ?_;have keys:∀qs:List (Bk×List Plc),(qs.flatMap JK).map (·.1)=(qs.map (·.1)).flatMap ZR:=Qa1 ZR JK Qgo;have fV:((bs.zip rows).flatMap JK).map (·.1)=Qp bs:=by rw[keys,Qix bs rows hr];rfl
 have mC:((bs.zip rows).flatMap JK).length<=200000:=by
  have e:((bs.zip rows).flatMap JK).length=(Qp bs).length:=by rw[<-fV,length_map]
  have:=QfO bs;have:=hf.1;have:=hf.2;omega
 refine QaC (λq:Bk×List Plc=>D.tup [q.1.d,Qt q.2]) (bs.zip rows) (λi e=>∃a b u v,e=[some (bks bs),some (Jc (c::rows)),some (Zj (((bs.zip rows).take i).flatMap JK)),a,b,u,v]) ?_ ⟨none,none,none,none,rfl⟩ ?_ ?_
 ·have hc:JF (eV 1) (oAt (eC (.int 1))) oNo [some (bks bs),some (Jc (c::rows)),some (Zj []),none,none,none,none]=some (Jc rows):=QlI c rows;unfold QgE;rw[hc];show some (Qai (bs.map Bk.d) (rows.map Qt))=_;rw[QgG]
 ·rintro i hi e⟨a,b,u,v,rfl⟩;rw[fT _ _ _ hi];have hle:=Vc JK (bs.zip rows) (i+1);rw[fT _ _ _ hi]at hle;have gD:(((bs.zip rows).take i).flatMap JK++JK (bs.zip rows)[i]).map (·.1)|>.Nodup:=by
   rw[<-fT _ _ _ hi];refine List.Nodup.sublist ?_ (fV▸hn);refine List.Sublist.map _ ?_;conv=>rhs;rw[<-take_append_drop (i+1) (bs.zip rows),flatMap_append]
   exact List.sublist_append_left _ _
  have hq:=hs (bs.zip rows)[i] (getElem_mem hi);have hb:(bs.zip rows)[i].1∈bs:=(of_mem_zip (getElem_mem hi)).1;generalize(bs.zip rows)[i]=q at*;generalize((bs.zip rows).take i).flatMap JK=kv at*;obtain⟨x,pls⟩:=q;simp only[]at hq hb⊢;have tx:=ht x hb;have il:=Y1 hf x hb;have lb:=QnO x;have io:=QaO x;have pw:J4 [.lst ((iO x).map It.d),Qt pls,.str "mark"]=some (.lst ((Qco pls (iO x)).map prs)):=by
   refine Qmd _ _ il ?_ tx;cases x with
   |para is=>exact le_of_eq hq.symm|_=>exact zero_le _
  obtain⟨eQ,e2⟩:∃eQ,kv++(if J8 x=""then[]else[(J8 x,(pls.getD 0 ⟨0,0,0⟩).p)])=eQ:=⟨_,rfl⟩;have e3:kv++JK (x,pls)=eQ++Qco pls (iO x):=by rw[<-e2];unfold JK;rw[append_assoc]
  rw[e3]at gD hle⊢;have bA:(eQ++Qco pls (iO x)).length<lI:=Zv (by omega);generalize bks bs=BS at*;generalize Jc (c::rows)=TT at*;obtain⟨u',v',hm⟩:=Qse (some BS) (some TT) (some x.d) (some (Qt pls)) u v eQ (Qco pls (iO x)) gD bA (QL (eK J4 (lC (eK JH (lC (eV 3) lN)) (lC (eV 4) (lC (eC (.str "mark")) lN))))) (by unfold QL;rw[ZH (QN rfl io) rfl rfl pw];rfl);refine⟨_,.inl ?_,some x.d,some (Qt pls),u',v',rfl⟩;refine bnd (e1:=[some BS,some TT,some (Zj kv),some x.d,some (Qt pls),u,v]) rfl ?_;refine st (e1:=[some BS,some TT,some (Zj eQ),some x.d,some (Qt pls),u,v]) ?_ hm;have ne:D.neO (.str (J8 x)) (.str (Str.ofString ""))=some (.bl (!decide (J8 x=Str.ofString ""))):=by simp[D.neO,Qw,QF,D.cmpN]
  by_cases z:J8 x=""
  ·rw[if_pos z,append_nil]at e2;subst e2;exact ifF (opE (QN rfl lb) rfl (by rw[ne,decide_eq_true z];rfl)) rfl
  ·rw[if_neg z]at e2;subst e2;refine ifT (opE (QN rfl lb) rfl (by rw[ne,decide_eq_false z];rfl)) ?_;have np:pls.length=1:=by cases x<;>first|exact hq|exact absurd rfl z
   obtain⟨q0,rfl⟩:=List.length_eq_one_iff.mp np;have cT:J8 x∉kv.map (·.1):=by
    rw[append_assoc,map_append]at gD;intro w;exact(List.nodup_append.mp gD).2.2 _ w (J8 x) (by simp) rfl
   have pd:=Qlj (p:=q0.p) cT (lt_of_le_of_lt (by simp only[length_append];omega) bA);unfold Qec;have hA:eOp D.ix (eOp D.ix (eV 4) (eC (.int 0))) (eC (.int 0)) [some BS,some TT,some (Zj kv),some x.d,some (Qt [q0]),u,v]=some (.int q0.p):=rfl;have hB:eK Yv (lC (eV 3) lN) [some BS,some TT,some (Zj kv),some x.d,some (Qt [q0]),u,v]=some (.str (J8 x)):=QN rfl lb;rw[hA,hB];show(D.put (Zj kv) (.str (J8 x)) (.int q0.p)).map _=_;rw[pd];rfl
 ·rintro e⟨a,b,u,v,rfl⟩;rw[take_length];exact ret rfl
theorem QhX(n:Int)(h0:0<=n)(h:n<10^60):Qax [.int n]=some (.int (Yd n.toNat)):=by
 obtain⟨m,rfl⟩:∃m:Nat,n=m:=⟨n.toNat,by omega⟩;have h':m<10^60:=by
  have:((10^60:Nat):Int)=10^60:=by decide
  omega
 have h2:m<2^1900:=Nat.lt_trans h' (by decide+kernel);have e1:D.strI (.int m)=some (.str (Str.ofString (toString (m:Int)))):=if_pos h2;have hs:=Qnw m;have hd:=QuP m h';have ln:=Qak (x:=Str.ofString (toString (m:Int))) (by omega);rw[hs]at ln;unfold Qax QfC;exact stD rfl (ret (unE (unE rfl e1) ln))
theorem Qle{it:EvI}{e:Qj}(is:List It)(hit:it e=some (is.map It.d))(hl:is.length<=1000000):Q2 1 [] it (gS 0) (eK Ye (lC (eV 0) lN)) (eV 0) e=some (.lst ((is.filter QD).map It.d)):=Zh (g:=gS 0) (n:=1) (caps:=[]) It.d is (λe=>∃v,e=[v]) QD It.d hit (lB hl) ⟨none,rfl⟩ (by rintro i hm e⟨v,rfl⟩;exact⟨[some i.d],rfl,⟨_,rfl⟩,QN rfl (QcF i),λh=>rfl⟩)
theorem Qp6(is:List It):D.len (.lst (is.map It.d))=some (.int is.length):=by show some (D.int (is.map It.d).length)=_;rw[length_map]
theorem QmV(w h:Int)(o li:Bool)(b:Bk)(hl:(iO b).length<=100000):Vp [b.d,sty w h o li]=some (.int (JA li b)):=by
 have it:=QgW b;have io:=QaO b;have ix3:D.ix (sty w h o li) (.int 3)=some (.bl li):=rfl;have plain:∀m:Int,((iO b).filter QD).length=m->(Qi (eOp D.add (eC (.int 2)) (eOp D.mulA (eC (.int 2)) (eUn D.len (Q2 1 [] (QL (eK JH (lC (eV 0) lN))) (gS 0) (eK Ye (lC (eV 0) lN)) (eV 0)))))) [some b.d,some (sty w h o li)]=some (.rt (.int (2+2*m))):=by
  intro m em;have hc:=Qle (it:=QL (eK JH (lC (eV 0) lN))) (e:=[some b.d,some (sty w h o li)]) (iO b) (by unfold QL;rw[QN rfl io];rfl) (by omega);have ln:=Qp6 ((iO b).filter QD);rw[em]at ln;exact ret (opE rfl (opE rfl (unE hc ln) (Qvh m)) rfl)
 unfold Vp Qdv;refine stD rfl ?_;cases b with
 |plates n l=>exact stR (ifT (opE (x:=.str "plates") (opE (x:=(Bk.plates n l).d) rfl rfl rfl) rfl (by rw[eqS];simp)) (ret (opE rfl (opE (x:=(Bk.plates n l).d) rfl rfl rfl) rfl)))|para is=>refine st (e1:=[some (Bk.para is).d,some (sty w h o li)]) (ifF (opE (x:=.str "para") (opE (x:=(Bk.para is).d) rfl rfl rfl) rfl (by rw[eqS];simp)) rfl) ?_;refine st (e1:=[some (Bk.para is).d,some (sty w h o li)]) (ifF (YW (QN rfl it)) rfl) ?_;exact plain _ rfl|table rs l=>refine st (e1:=[some (Bk.table rs l).d,some (sty w h o li)]) (ifF (opE (x:=.str "table") (opE (x:=(Bk.table rs l).d) rfl rfl rfl) rfl (by rw[eqS];simp)) rfl) ?_;refine st (e1:=[some (Bk.table rs l).d,some (sty w h o li)]) (ifF (YW (QN rfl it)) rfl) ?_;exact plain 0 rfl|chapter t l=>refine st (e1:=[some (Bk.chapter t l).d,some (sty w h o li)]) (ifF (opE (x:=.str "chapter") (opE (x:=(Bk.chapter t l).d) rfl rfl rfl) rfl (by rw[eqS];simp)) rfl) ?_;cases li with|true=>exact stR (ifT (YB (QN rfl it) (opE rfl rfl ix3)) (ret rfl))|false=>
   refine st (e1:=[some (Bk.chapter t l).d,some (sty w h o false)]) (ifF (YB (QN rfl it) (opE rfl rfl ix3)) rfl) ?_;exact plain 0 rfl|heading t k l=>
  refine st (e1:=[some (Bk.heading t k l).d,some (sty w h o li)]) (ifF (opE (x:=.str "heading") (opE (x:=(Bk.heading t k l).d) rfl rfl rfl) rfl (by rw[eqS];simp)) rfl) ?_;cases li with|true=>exact stR (ifT (YB (QN rfl it) (opE rfl rfl ix3)) (ret rfl))|false=>refine st (e1:=[some (Bk.heading t k l).d,some (sty w h o false)]) (ifF (YB (QN rfl it) (opE rfl rfl ix3)) rfl) ?_;exact plain 0 rfl
theorem Qja(w h:Int)(o li:Bool)(bs:List Bk)(hf:Few bs):Vz [bks bs,sty w h o li]=some (.int (most li bs)):=by
 have hc:Q2 1 [1] (QL (eV 0)) (gS 0) (eC (.bl true)) (eK Vp (lC (eV 0) (lC (eV 1) lN))) [some (bks bs),some (sty w h o li)]=some (.lst ((bs.map (JA li)).map .int)):=by
  rw[Zh (g:=gS 0) (n:=1) (caps:=[1]) (c:=eC (.bl true)) (el:=eK Vp (lC (eV 0) (lC (eV 1) lN))) Bk.d bs (λe=>∃v,e=[v,some (sty w h o li)]) (λ_=>true) (λb=>.int (JA li b)) rfl (lB (le_trans hf.1 (by decide))) ⟨none,rfl⟩ (by rintro b hb e⟨v,rfl⟩;exact⟨[some b.d,some (sty w h o li)],rfl,⟨_,rfl⟩,rfl,λ_=>ZX rfl rfl (QmV w h o li b (Y1 hf b hb))⟩)];rw[Z8,map_map];rfl
 have sm:D.sumL (.lst ((bs.map (JA li)).map .int))=some (.int (bs.map (JA li)).sum):=by
  show(intsOf ((bs.map (JA li)).map .int)).map _=_;rw[QeB];rfl
 have me:most li bs=3+(bs.map (JA li)).sum:=by unfold most;rw[QbL]
 rw[me];unfold Vz Qa2;exact stD rfl (ret (opE rfl (unE hc sm) rfl))
theorem Qka(w h:Int)(o li:Bool)(bs:List Bk)(hf:Few bs)(h0:0<=most li bs)(h1:most li bs<10^60):VY [bks bs,sty w h o li]=some (.int (Yd (most li bs).toNat)):=by unfold VY Qbm;exact stD rfl (ret (QN (ZX rfl rfl (Qja w h o li bs hf)) (QhX _ h0 h1)))
theorem QfP(xs:List Str)(w:Int)(hl:xs.length<=1000000)(hx:∀x∈xs,x.length<=1000000)(hw:∀x∈xs,(x.length:Int)<=w):VN [QH xs,.int w]=some (.bl false):=by
 have hc:Q2 1 [1] (QL (eV 0)) (gS 0) (eC (.bl true)) (eOp D.gt (eUn D.len (eV 0)) (eV 1)) [some (QH xs),some (.int w)]=some (.lst (xs.map λ_=>.bl false)):=by
  rw[Zh (g:=gS 0) (n:=1) (caps:=[1]) (c:=eC (.bl true)) (el:=eOp D.gt (eUn D.len (eV 0)) (eV 1)) D.str xs (λe=>∃v,e=[v,some (.int w)]) (λ_=>true) (λ_=>.bl false) rfl (lB hl) ⟨none,rfl⟩ (by
   rintro x hb e⟨v,rfl⟩;refine⟨[some (.str x),some (.int w)],rfl,⟨_,rfl⟩,rfl,λ_=>opE (unE rfl (Qak (hx x hb))) rfl ?_⟩;have:=hw x hb;show some (D.bl (decide (w<(x.length:Int))))=_;rw[decide_eq_false (by omega)])];rw[Z8]
 have ay:∀xs:List Str,D.anyL (.lst (xs.map λ_=>.bl false))=some (.bl false):=by
  intro xs;have:VU (xs.map λ_=>D.bl false)=some (xs.map λ_=>false):=by induction xs with
   |nil=>rfl|cons x xs ih=>
    show(VU (xs.map λ_=>D.bl false)).map _=_;rw[ih];rfl
  show(VU (xs.map λ_=>D.bl false)).map _=_;rw[this];show some (D.bl ((xs.map λ_=>false).any id))=_;simp
 unfold VN QcT;exact stD rfl (ret (unE hc (ay xs)))
def BkS:Bk->Prop|.chapter t _=>t.length<=1000|.heading t _ _=>t.length<=1000|.table rs _=>rs.length<=1000/\∀r∈rs,r.length<=1000|.para is=>∀i∈is,ItT i|.plates _ _=>True
theorem Ql2(w h:Int)(o li:Bool)(af:Int)(b:Bk)(h0:0<=af)(hs:BkS b)(hf:Qa7 af w h b):Zc [b.d,sty w h o li,.int af]=some (.bl false):=by
 have it:=QgW b;have ix3:D.ix (sty w h o li) (.int 3)=some (.bl li):=rfl;have fB:D.ix (sty w h o li) (.int 0)=some (.int w):=rfl;have fu:∀(t:Str),D.ix b.d (.int 1)=some (.str t)->t.length<=1000->(t.length:Int)+2+af<=w->QcZ b=true->Zc [b.d,sty w h o li,.int af]=some (.bl false):=by
  intro t i1 tl tw tt;rw[tt]at it;unfold Zc ZY;refine stD rfl (stR (ifT (QN rfl it) ?_));refine st (e1:=[some b.d,some (sty w h o li),some (.int af),some (.int (if li then 2+af else 0))]) ?_ ?_
  ·refine asg ?_ rfl;unfold eIf;have hX:eOp D.ix (eV 1) (eC (.int 3)) (sD 4 [b.d,sty w h o li,.int af])=some (.bl li):=opE (x:=sty w h o li) rfl rfl ix3;rw[hX,Qk];cases li<;>rfl
  ·refine ret (opE (opE (unE (opE (x:=b.d) rfl rfl i1) (Qak (by omega))) rfl rfl) (opE rfl rfl fB) ?_);show some (D.bl (decide (w<(t.length:Int)+_)))=_;rw[decide_eq_false (by cases li<;>simp<;>omega)]
 cases b with
 |chapter t l=>exact fu t rfl hs hf rfl|heading t k l=>exact fu t rfl hs hf.1 rfl|table rs l=>
  have al:=QfP rs w (by have:=hs.1;omega) (λx hx=>by have:=hs.2 x hx;omega) hf.2;unfold Zc ZY;refine stD rfl (st (e1:=[some (Bk.table rs l).d,some (sty w h o li),some (.int af),none]) (ifF (QN rfl it) rfl) (ret ?_));exact YB (opE (x:=.str "table") (opE (x:=(Bk.table rs l).d) rfl rfl rfl) rfl (by rw[eqS];simp)) (ZX (opE (x:=(Bk.table rs l).d) rfl rfl rfl) (opE rfl rfl fB) al)|para is=>unfold Zc ZY;exact stD rfl (st (e1:=[some (Bk.para is).d,some (sty w h o li),some (.int af),none]) (ifF (QN rfl it) rfl) (ret (YW (opE (x:=.str "para") (opE (x:=(Bk.para is).d) rfl rfl rfl) rfl (by rw[eqS];simp)))))|plates n l=>unfold Zc ZY;exact stD rfl (st (e1:=[some (Bk.plates n l).d,some (sty w h o li),some (.int af),none]) (ifF (QN rfl it) rfl) (ret (YW (opE (x:=.str "plates") (opE (x:=(Bk.plates n l).d) rfl rfl rfl) rfl (by rw[eqS];simp)))))
theorem Qms(w h:Int)(o li:Bool)(af:Int)(b:Bk)(hf:Qa7 af w h b):VA [b.d,sty w h o li]=some (.bl false):=by have gz:D.ix (sty w h o li) (.int 1)=some (.int h):=rfl;unfold VA Qa4;refine stD rfl ?_;cases b with|heading t k l=>refine stR (ifT (opE (x:=.str "heading") (opE (x:=(Bk.heading t k l).d) rfl rfl rfl) rfl (by rw[eqS];simp)) (ret (opE (opE (opE (x:=(Bk.heading t k l).d) rfl rfl rfl) rfl rfl) (opE rfl rfl gz) ?_)));have:=hf.2;show some (D.bl (decide (h<k+1)))=_;rw[decide_eq_false (by omega)]|table rs l=>refine st (e1:=[some (Bk.table rs l).d,some (sty w h o li)]) (ifF (opE (x:=.str "table") (opE (x:=(Bk.table rs l).d) rfl rfl rfl) rfl (by rw[eqS];simp)) rfl) (ret ?_);refine YB (opE (x:=.str "table") (opE (x:=(Bk.table rs l).d) rfl rfl rfl) rfl (by rw[eqS];simp)) (opE (unE (opE (x:=(Bk.table rs l).d) rfl rfl rfl) (Qas rs)) (opE rfl rfl gz) ?_);have:=hf.1;show some (D.bl (decide (h<(rs.length:Int))))=_;rw[decide_eq_false (by omega)]|chapter t l=>exact st (e1:=[some (Bk.chapter t l).d,some (sty w h o li)]) (ifF (opE (x:=.str "chapter") (opE (x:=(Bk.chapter t l).d) rfl rfl rfl) rfl (by rw[eqS];simp)) rfl) (ret (YW (opE (x:=.str "chapter") (opE (x:=(Bk.chapter t l).d) rfl rfl rfl) rfl (by rw[eqS];simp))))|para is=>exact st (e1:=[some (Bk.para is).d,some (sty w h o li)]) (ifF (opE (x:=.str "para") (opE (x:=(Bk.para is).d) rfl rfl rfl) rfl (by rw[eqS];simp)) rfl) (ret (YW (opE (x:=.str "para") (opE (x:=(Bk.para is).d) rfl rfl rfl) rfl (by rw[eqS];simp))))|plates n l=>exact st (e1:=[some (Bk.plates n l).d,some (sty w h o li)]) (ifF (opE (x:=.str "plates") (opE (x:=(Bk.plates n l).d) rfl rfl rfl) rfl (by rw[eqS];simp)) rfl) (ret (YW (opE (x:=.str "plates") (opE (x:=(Bk.plates n l).d) rfl rfl rfl) rfl (by rw[eqS];simp))))
theorem QmD(w h:Int)(o li:Bool)(af:Int)(i:It)(hs:ItT i)(hf:Qe7 af w h i):VZ [i.d,sty w h o li,.int af]=some (.bl false):=by have fB:D.ix (sty w h o li) (.int 0)=some (.int w):=rfl;unfold VZ Qbp;refine stD rfl ?_;cases i with|word x ns=>have ad:D.add (.lst [.str x]) (QH ns)=some (QH (x::ns)):=QoB (f:=D.str) (xs:=[x]) (ys:=ns) (QhU (by have:=hs.2.1;omega));have al:=QfP (x::ns) w (by have:=hs.2.1;simp;omega) (λy hy=>by rcases List.mem_cons.mp hy with z|z;rw[z];have:=hs.1;omega;have:=hs.2.2 y z;omega) (λy hy=>by rcases List.mem_cons.mp hy with z|z;rw[z];exact hf.1;exact hf.2.2 y z);exact stR (ifT (opE (x:=.str "word") (opE (x:=(It.word x ns).d) rfl rfl rfl) rfl (by rw[eqS];simp)) (ret (ZX (opE (x:=.lst [.str x]) (y:=QH ns) rfl rfl ad) (opE rfl rfl fB) al)))|ref l a b=>refine st (e1:=[some (It.ref l a b).d,some (sty w h o li),some (.int af)]) (ifF (opE (x:=.str "ref") (opE (x:=(It.ref l a b).d) rfl rfl rfl) rfl (by rw[eqS];simp)) rfl) (ret ?_);refine YB (opE (x:=.str "ref") (opE (x:=(It.ref l a b).d) rfl rfl rfl) rfl (by rw[eqS];simp)) (opE (opE (opE (unE (opE (x:=(It.ref l a b).d) rfl rfl rfl) (Qak (by have:=hs.1;omega))) rfl rfl) (unE (opE (x:=(It.ref l a b).d) rfl rfl rfl) (Qak (by have:=hs.2;omega))) rfl) (opE rfl rfl fB) ?_);have hf':(a.length:Int)+af+b.length<=w:=hf;show some (D.bl (decide (w<(a.length:Int)+af+b.length)))=_;rw[decide_eq_false (by omega)]|mark l=>exact st (e1:=[some (It.mark l).d,some (sty w h o li),some (.int af)]) (ifF (opE (x:=.str "mark") (opE (x:=(It.mark l).d) rfl rfl rfl) rfl (by rw[eqS];simp)) rfl) (ret (YW (opE (x:=.str "mark") (opE (x:=(It.mark l).d) rfl rfl rfl) rfl (by rw[eqS];simp))))|key l=>exact st (e1:=[some (It.key l).d,some (sty w h o li),some (.int af)]) (ifF (opE (x:=.str "key") (opE (x:=(It.key l).d) rfl rfl rfl) rfl (by rw[eqS];simp)) rfl) (ret (YW (opE (x:=.str "key") (opE (x:=(It.key l).d) rfl rfl rfl) rfl (by rw[eqS];simp))))
theorem Qne(w h:Int)(o li:Bool)(af:Int)(i:It)(hf:Qe7 af w h i):V0 [i.d,sty w h o li]=some (.bl false):=by have gz:D.ix (sty w h o li) (.int 1)=some (.int h):=rfl;unfold V0 Qbq;refine stD rfl (ret ?_);cases i with|word x ns=>refine YB (opE (x:=.str "word") (opE (x:=(It.word x ns).d) rfl rfl rfl) rfl (by rw[eqS];simp)) (opE (opE (unE (opE (x:=(It.word x ns).d) rfl rfl rfl) (Qas ns)) rfl rfl) (opE rfl rfl gz) ?_);have:=hf.2.1;show some (D.bl (decide (h<(ns.length:Int)+1)))=_;rw[decide_eq_false (by omega)]|ref l a b=>exact YW (opE (x:=.str "ref") (opE (x:=(It.ref l a b).d) rfl rfl rfl) rfl (by rw[eqS];simp))|mark l=>exact YW (opE (x:=.str "mark") (opE (x:=(It.mark l).d) rfl rfl rfl) rfl (by rw[eqS];simp))|key l=>exact YW (opE (x:=.str "key") (opE (x:=(It.key l).d) rfl rfl rfl) rfl (by rw[eqS];simp))
theorem lc{a:EvE}{l:EvL}{e:Qj}{x:D}{xs:List D}(ha:a e=some x)(hl:l e=some xs):lC a l e=some (x::xs):=by unfold lC;rw[ha,hl];rfl
theorem stM{n k:Nat}{b:EvS}{ds:List D}{e:Qj}{d:D}(hl:ds.length=k)(h:b (sD n ds)=some (.nx e))(he:(e[k-1]?).join=some d):Qdh n k b ds=some d:=by unfold Qdh;rw[if_pos hl,h];exact he
theorem Qhs{i:Nat}{f:List D->Option D}{l:EvL}{e:Qj}{ds:List D}{d z:D}(hl:l e=some ds)(hd:eV i e=some d)(hf:f (ds++[d])=some z):VD i f l e=some (.nx (e.set i (some z))):=by unfold VD;rw[hl,hd];show(f (ds++[d])).map _=_;rw[hf];rfl
noncomputable def Je(ls:List Str):D:=.dic (ls.map Sum.inr) (ls.map λ_=>.bl true)
theorem QkT(l:Str)(ls:List Str):hasK (.inr l) (ls.map Sum.inr)=decide (l∈ls):=by unfold hasK;induction ls with|nil=>simp|cons a ls ih=>
  rw[map_cons,any_cons,ih];by_cases z:a=l;·subst z;simp
  ·have:¬l=a:=λq=>z q.symm;simp[z,this]
theorem Qgr(l:Str)(n:Int)(ls:List Str)(h:l∉ls)(hl:ls.length<lI):Qaa [.str l,.int n,Je ls]=some (Je (ls++[l])):=by
 have hi:D.dIn (.str l) (Je ls)=some (.bl false):=by
  show some (D.bl (hasK (.inr l) (ls.map Sum.inr)))=_;rw[QkT,decide_eq_false h]
 have pd:D.put (Je ls) (.str l) (.bl true)=some (Je (ls++[l])):=by
  show(if(ls.map Sum.inr:List Kd).length<lI then some (Qe3 _ _ (.inr l) (.bl true))else none)=_;rw[if_pos (by rw[length_map];exact hl)];unfold Qe3;rw[QkT,if_neg (by simpa using h)];unfold Je;rw[map_append,map_append];rfl
 unfold Qaa Qdy;refine stM (e:=[some (.str l),some (.int n),some (Je (ls++[l]))]) rfl ?_ rfl;refine st (e1:=[some (.str l),some (.int n),some (Je ls)]) (ifF (opE rfl rfl hi) rfl) ?_;show(D.put (Je ls) (.str l) (.bl true)).map _=_;rw[pd];rfl
def Qe1(b:Bk):List Str:=if J8 b=""then[]else[J8 b]
theorem Qmq(w h:Int)(o li:Bool)(af:Int)(b:Bk)(n:Int)(ls:List Str)(h0:0<=af)(hs:BkS b)(hf:Qa7 af w h b)(hn:∀l∈Qe1 b,l∉ls)(hl:ls.length<lI):Yz [b.d,.int n,sty w h o li,.int af,Je ls]=some (Je (ls++Qe1 b)):=by
 have a1:=Ql2 w h o li af b h0 hs hf;have a2:=Qms w h o li af b hf;have a3:=QnO b;have ne:D.neO (.str (J8 b)) (.str (Str.ofString ""))=some (.bl (!decide (J8 b=Str.ofString ""))):=by simp[D.neO,Qw,QF,D.cmpN]
 unfold Yz Qa3;refine stM (e:=[some b.d,some (.int n),some (sty w h o li),some (.int af),some (Je (ls++Qe1 b))]) rfl ?_ rfl;refine st (e1:=[some b.d,some (.int n),some (sty w h o li),some (.int af),some (Je ls)]) (ifF (ZH rfl rfl rfl a1) rfl) ?_;refine st (e1:=[some b.d,some (.int n),some (sty w h o li),some (.int af),some (Je ls)]) (ifF (ZX rfl rfl a2) rfl) ?_;unfold Qe1 at hn⊢;by_cases z:J8 b="";·rw[if_pos z,append_nil];exact ifF (opE (QN rfl a3) rfl (by rw[ne,decide_eq_true z];rfl)) rfl
 ·rw[if_neg z]at hn⊢;have al:=Qgr (J8 b) n ls (hn _ (by simp)) hl;refine ifT (opE (QN rfl a3) rfl (by rw[ne,decide_eq_false z];rfl)) ?_;exact Qhs (ds:=[.str (J8 b),.int n]) (lc (QN rfl a3) rfl) rfl al
theorem Qna(w h:Int)(o li:Bool)(af:Int)(i:It)(n:Int)(ls:List Str)(hs:ItT i)(hf:Qe7 af w h i)(hn:∀l∈mkL i,l∉ls)(hl:ls.length<lI):YT [i.d,.int n,sty w h o li,.int af,Je ls]=some (Je (ls++mkL i)):=by have a1:=QmD w h o li af i hs hf;have a2:=Qne w h o li af i hf;unfold YT Qbo;refine stM (e:=[some i.d,some (.int n),some (sty w h o li),some (.int af),some (Je (ls++mkL i))]) rfl ?_ rfl;refine st (e1:=[some i.d,some (.int n),some (sty w h o li),some (.int af),some (Je ls)]) (ifF (ZH rfl rfl rfl a1) rfl) ?_;refine st (e1:=[some i.d,some (.int n),some (sty w h o li),some (.int af),some (Je ls)]) (ifF (ZX rfl rfl a2) rfl) ?_;cases i with|mark l=>have al:=Qgr l n ls (hn l (by simp[mkL])) hl;exact ifT (opE (x:=.str "mark") (opE (x:=(It.mark l).d) rfl rfl rfl) rfl (by rw[eqS];simp)) (Qhs (ds:=[.str l,.int n]) rfl rfl al)|word x ns=>have e:mkL (.word x ns)=[]:=rfl;rw[e,append_nil];exact ifF (opE (x:=.str "word") (opE (x:=(It.word x ns).d) rfl rfl rfl) rfl (by rw[eqS];simp)) rfl|ref l x y=>have e:mkL (.ref l x y)=[]:=rfl;rw[e,append_nil];exact ifF (opE (x:=.str "ref") (opE (x:=(It.ref l x y).d) rfl rfl rfl) rfl (by rw[eqS];simp)) rfl|key x=>have e:mkL (.key x)=[]:=rfl;rw[e,append_nil];exact ifF (opE (x:=.str "key") (opE (x:=(It.key x).d) rfl rfl rfl) rfl (by rw[eqS];simp)) rfl
theorem Qq0(is:List It)(i:Nat)(hi:i<is.length):QS (is.take (i+1))=QS (is.take i)+if QD is[i]then 1 else 0:=by unfold QS;rw[take_succ_eq_append_getElem hi,filter_append,length_append];congr 1;cases q:QD is[i]<;>simp[q]
theorem QnI(is:List It)(i:Nat):QS (is.take i)<=QS is:=((take_sublist i is).filter _).length_le
theorem Qmp(w h:Int)(o li:Bool)(af:Int)(is:List It)(n:Int)(ls:List Str)(hl:is.length<=100000)(hs:∀i∈is,ItT i)(hf:∀i∈is,Qe7 af w h i)(ht:Zp is)(hn:(ls++QE is).Nodup)(kU:(ls++QE is).length<lI):Yy [.lst (is.map It.d),.int n,sty w h o li,.int af,Je ls]=some (Je (ls++QE is)):=by
 have body:∃e,VB (sD 7 [.lst (is.map It.d),.int n,sty w h o li,.int af,Je ls])=some (.nx e)/\∃a b,e=[some (.lst (is.map It.d)),some (.int n),some (sty w h o li),some (.int af),some (Je (ls++QE is)),a,b]:=by
  unfold VB;have hc:=Qle (it:=QL (eV 0)) (e:=sD 7 [.lst (is.map It.d),.int n,sty w h o li,.int af,Je ls]) is rfl (by omega);have ln:=Qp6 (is.filter QD);have e1:((is.filter QD).length:Int)=(QS is:Int):=rfl;rw[e1]at ln;obtain⟨e',h1,a,b,h2⟩:=Qbu (g:=gS 6) (b:=sQ (VD 4 YT (lC (eV 6) (lC (eV 1) (lC (eV 2) (lC (eV 3) lN))))) (sIf (eK Ye (lC (eV 6) lN)) (ZC 5 D.sub (eC (.int 1))) (sIf (eOp D.eqO (eV 5) (eC (.int 0))) (Ve) (sNx)))) It.d is (λi e=>∃a b,e=[some (.lst (is.map It.d)),some (.int n),some (sty w h o li),some (.int af),some (Je (ls++QE (is.take i))),a,b]/\a=some (.int ((QS is:Int)-QS (is.take i)))) (by
   rintro i hi e⟨a,b,rfl,rfl⟩;have tk:QE (is.take (i+1))=QE (is.take i)++mkL is[i]:=fT mkL is i hi;have hm:is[i]∈is:=getElem_mem hi;have bh:=QcF is[i];have nt:=Qq0 is i hi;have nl:=QnI is (i+1);have hT:=ht i hi;have split:ls++QE is=(ls++QE (is.take i))++(mkL is[i]++QE (is.drop (i+1))):=by
    have:QE is=QE (is.take (i+1))++QE (is.drop (i+1)):=by unfold QE;rw[<-flatMap_append,take_append_drop]
    rw[this,tk];simp[append_assoc]
   have cT:∀l∈mkL is[i],l∉ls++QE (is.take i):=λl h1 h2=>by
    rw[split]at hn;exact(List.nodup_append.mp hn).2.2 l h2 l (mem_append_left _ h1) rfl
   have bA:(ls++QE (is.take i)).length<lI:=by
    rw[split,length_append]at kU;omega
   have gx:=Qna w h o li af is[i] n (ls++QE (is.take i)) (hs _ hm) (hf _ hm) cT bA;rw[tk,<-append_assoc];generalize is[i]=x at*;refine⟨[some (.lst (is.map It.d)),some (.int n),some (sty w h o li),some (.int af),some (Je (ls++QE (is.take i)++mkL x)),some (.int ((QS is:Int)-QS (is.take (i+1)))),some x.d],.inl ?_,_,_,rfl,rfl⟩;refine bnd (e1:=[some (.lst (is.map It.d)),some (.int n),some (sty w h o li),some (.int af),some (Je (ls++QE (is.take i))),some (.int ((QS is:Int)-QS (is.take i))),some x.d]) rfl ?_;refine st (e1:=[some (.lst (is.map It.d)),some (.int n),some (sty w h o li),some (.int af),some (Je (ls++QE (is.take i)++mkL x)),some (.int ((QS is:Int)-QS (is.take i))),some x.d]) (Qhs (ds:=[x.d,.int n,sty w h o li,.int af]) rfl rfl gx) ?_;cases q:QD x with|true=>rw[q]at bh nt;refine ifT (QN rfl bh) ?_;rw[nt,if_pos rfl,show((QS is:Int)-((QS (is.take i)+1:Nat):Int))=(QS is:Int)-QS (is.take i)-1 from by omega];rfl|false=>
    rw[q]at bh nt;have:=hT q;refine ifF (QN rfl bh) (ifF (opE rfl rfl ?_) ?_);·simp[D.eqO,Qr,QC,D.cmp];omega
    ·rw[nt,if_neg (by decide),Nat.add_zero];rfl) [some (.lst (is.map It.d)),some (.int n),some (sty w h o li),some (.int af),some (Je ls),some (.int (QS is)),none] ⟨some (.int (QS is)),none,by rw[take_zero];simp[QE],by rw[take_zero];simp[QS]⟩;obtain⟨h2,h3⟩:=h2;rw[take_length]at h2;refine⟨e',?_,a,b,h2⟩;refine st (e1:=[some (.lst (is.map It.d)),some (.int n),some (sty w h o li),some (.int af),some (Je ls),some (.int (QS is)),none]) (asg (unE hc ln) rfl) ?_;unfold Jg;exact h1
 obtain⟨e,h1,a,b,rfl⟩:=body;unfold Yy;exact stM rfl h1 rfl
theorem stN{n k:Nat}{b:EvS}{ds:List D}{e:Qj}(hl:ds.length=k)(h:b (sD n ds)=some (.nx e)):Qx n k b ds=some .non:=by unfold Qx;rw[if_pos hl,h];rfl
theorem Qv5(l:Str)(ls:List Str)(h:l∈ls):D.dNotIn (.str l) (Je ls)=some (.bl false):=by show some (D.bl (!hasK (.inr l) (ls.map Sum.inr)))=_;rw[QkT,decide_eq_true h];rfl
theorem Qm9(bs:List Bk)(ls:List Str)(hf:Few bs)(hr:∀l∈rO bs,l∈ls):YS [bks bs,Je ls]=some .non:=by
 obtain⟨e',h1,_⟩:=Qbu (g:=Jp [gS 2,gS 3]) (b:=Jg (QL (eK Z4 (lC (Qg (lC (eV 3) lN)) lN))) (gS 4) (sIf (eOp D.dNotIn (eV 4) (eV 1)) (Ve) (sNx))) (λp:Bk×Nat=>D.tup [.int p.2,p.1.d]) bs.zipIdx (λi e=>∃a b c,e=[some (bks bs),some (Je ls),a,b,c]) (by
  rintro i hi e⟨a,b,c,rfl⟩;have bY:i<bs.length:=by simpa using hi
  have ei:bs.zipIdx[i]=(bs[i],i):=by simp
  rw[ei];have hm:bs[i]∈bs:=getElem_mem bY;have f1:=Qgb hf _ hm;have rf:=Qf7 [bs[i]] f1;rw[QhN]at rf;have gR:Z4 [.lst [bs[i].d]]=some (QH (QQ (iO bs[i]))):=rf;have kZ:∀l∈QQ (iO bs[i]),l∈ls:=λl hl=>hr l (List.mem_flatMap.mpr ⟨bs[i],hm,hl⟩);generalize QQ (iO bs[i])=rs at*;generalize bs[i]=x at*;obtain⟨e2,g1,c',g2⟩:=Qbu (g:=gS 4) (b:=sIf (eOp D.dNotIn (eV 4) (eV 1)) (Ve) (sNx)) D.str rs (λ_ e=>∃c,e=[some (bks bs),some (Je ls),some (.int i),some x.d,c]) (by rintro j hj e⟨c,rfl⟩;have nn:=Qv5 rs[j] ls (kZ _ (getElem_mem hj));exact⟨_,.inl (bnd (e1:=[some (bks bs),some (Je ls),some (.int i),some x.d,some (.str rs[j])]) rfl (ifF (opE rfl rfl nn) rfl)),_,rfl⟩) [some (bks bs),some (Je ls),some (.int i),some x.d,c] ⟨c,rfl⟩;subst g2;refine⟨[some (bks bs),some (Je ls),some (.int i),some x.d,c'],.inl (bnd (e1:=[some (bks bs),some (Je ls),some (.int i),some x.d,c]) rfl ?_),some (.int i),some x.d,c',rfl⟩;·unfold Jg QL;have hR:eK Z4 (lC (Qg (lC (eV 3) lN)) lN) [some (bks bs),some (Je ls),some (.int i),some x.d,c]=some (QH rs):=QN (x:=.lst [x.d]) rfl gR;rw[hR];exact g1) [some (bks bs),some (Je ls),none,none,none] ⟨none,none,none,rfl⟩;unfold YS Qbn;refine stN (e:=e') rfl ?_;unfold Jg Qbv;show(some (VP 0 (bs.map Bk.d))).bind _=_;rw[QcJ];exact h1
theorem Quo(w h:Int)(o li:Bool)(bs:List Bk)(hf:Few bs)(hw:4<=w/\w<=90/\2<=h/\h<=60)(h0:0<=most li bs)(h1:most li bs<10^60)(hs:∀b∈bs,BkS b)(ht:∀b∈bs,BkT b)(cU:∀b∈bs,Qa7 (Yd (most li bs).toNat) w h b)(kH:∀b∈bs,Zp (iO b))(hn:(Qp bs).Nodup)(hr:∀l∈rO bs,l∈Qp bs):QbF [bks bs,sty w h o li]=some .non:=by
 have si:Qb4 [sty w h o li]=some (.bl true):=by unfold Qb4 QeI sty;simp[QG,JF,ZD,lI,Qx,sD,sQ,sIf,Qi,ZU,Qc,ZC,J5,sNx,YK,Yb,gS,Jp,Zq,eV,eC,eOp,eUn,Ja,QM,eOr,eIf,JR,Qm,Qg,eK,lN,lC,JO,oNo,oAt,ZW,D.len,D.lt,D.le,D.gt,D.ge,D.add,D.sub,D.ix,D.eqO,D.neO,D.cmp,D.cmpN,D.inst,tyD,D.isT,D.intB,D.min2,D.max2,D.neg,D.addI,Qk,JW,JY,JC,QK,QW,JV,JU,Jn,JB,JZ,J0,JD,JE,JX,Q7,JN,Zl,Qr,Qw,Q9,Q6,Q5,QV,D.rng,D.its,D.itsT,QC,ZV,QF,Ji,JQ,Jr,Jj,ixD,hw.1,hw.2.1,hw.2.2.1,hw.2.2.2]
 have ra:=Qka w h o li bs hf h0 h1;have lr:=Qm9 bs (Qp bs) hf hr;have hbl:=QfO bs;obtain⟨af,er⟩:∃af:Int,(Yd (most li bs).toNat:Int)=af:=⟨_,rfl⟩;rw[er]at ra cU;have r0:0<=af:=by omega
 obtain⟨e',g1,g2⟩:=Qbu (g:=Jp [gS 4,gS 5]) (b:=sQ (VD 3 Yz (lC (eV 5) (lC (eV 4) (lC (eV 1) (lC (eV 2) lN))))) (VD 3 Yy (lC (eK JH (lC (eV 5) lN)) (lC (eV 4) (lC (eV 1) (lC (eV 2) lN)))))) (λp:Bk×Nat=>D.tup [.int p.2,p.1.d]) bs.zipIdx (λi e=>∃a b,e=[some (bks bs),some (sty w h o li),some (.int af),some (Je (Qp (bs.take i))),a,b]) (by
  rintro i hi e⟨a,b,rfl⟩;have bY:i<bs.length:=by simpa using hi
  have ei:bs.zipIdx[i]=(bs[i],i):=by simp
  rw[ei];have hm:bs[i]∈bs:=getElem_mem bY;have tk:Qp (bs.take (i+1))=Qp (bs.take i)++ZR bs[i]:=fT ZR bs i bY;have lb:ZR bs[i]=Qe1 bs[i]++QE (iO bs[i]):=rfl;have sub:(Qp (bs.take (i+1))).Nodup:=by
   refine List.Nodup.sublist ?_ hn;unfold Qp;conv=>rhs;rw[<-take_append_drop (i+1) bs,flatMap_append]
   exact List.sublist_append_left _ _
  have len:(Qp (bs.take (i+1))).length<=(Qp bs).length:=Vc ZR bs (i+1);have hlen:(Qp bs).length<=200000:=by have:=hf.1;have:=hf.2;omega
  have io:=QaO bs[i];have il:=Y1 hf _ hm;rw[tk,lb,<-append_assoc]at sub len;rw[tk,lb,<-append_assoc];have sN:=sub;rw[append_assoc]at sN;have kr:=Qmq w h o li af bs[i] i (Qp (bs.take i)) r0 (hs _ hm) (cU _ hm) (λl h1 h2=>(List.nodup_append.mp sN).2.2 l h2 l (mem_append_left _ h1) rfl) (Zv (by rw[length_append,length_append]at len;omega));have kq:=Qmp w h o li af (iO bs[i]) i (Qp (bs.take i)++Qe1 bs[i]) il (ht _ hm) (by have:=cU _ hm;intro j hj;cases q:bs[i]with|para is=>rw[q]at this hj;exact this j hj|_=>rw[q]at hj;cases hj) (kH _ hm) sub (Zv (by omega));generalize bs[i]=x at*;refine⟨[some (bks bs),some (sty w h o li),some (.int af),some (Je (Qp (bs.take i)++Qe1 x++QE (iO x))),some (.int i),some x.d],.inl ?_,_,_,rfl⟩;refine bnd (e1:=[some (bks bs),some (sty w h o li),some (.int af),some (Je (Qp (bs.take i))),some (.int i),some x.d]) rfl ?_;refine st (e1:=[some (bks bs),some (sty w h o li),some (.int af),some (Je (Qp (bs.take i)++Qe1 x)),some (.int i),some x.d]) (Qhs (ds:=[x.d,.int i,sty w h o li,.int af]) rfl rfl kr) ?_;exact Qhs (ds:=[.lst ((iO x).map It.d),.int i,sty w h o li,.int af]) (lc (QN rfl io) rfl) rfl kq) [some (bks bs),some (sty w h o li),some (.int af),some (Je []),none,none] ⟨none,none,rfl⟩;obtain⟨a,b,rfl⟩:=g2;have zl:bs.zipIdx.length=bs.length:=by simp
 rw[zl,take_length]at g1;unfold QbF QkW;refine stN (e:=[some (bks bs),some (sty w h o li),some (.int af),some (Je (Qp bs)),a,b]) rfl ?_;refine st (e1:=[some (bks bs),some (sty w h o li),none,none,none,none]) (ifF (Qci (b:=true) (QN rfl si)) rfl) ?_;refine st (e1:=[some (bks bs),some (sty w h o li),some (.int af),none,none,none]) (asg (ZX rfl rfl ra) rfl) ?_;refine st (e1:=[some (bks bs),some (sty w h o li),some (.int af),some (Je []),none,none]) rfl ?_;refine st (e1:=[some (bks bs),some (sty w h o li),some (.int af),some (Je (Qp bs)),a,b]) ?_ ?_
 ·unfold Jg Qbv;show(some (VP 0 (bs.map Bk.d))).bind _=_;rw[QcJ];exact g1
 ·unfold J5;have hR:eK YS (lC (eV 0) (lC (eV 3) lN)) [some (bks bs),some (sty w h o li),some (.int af),some (Je (Qp bs)),a,b]=some .non:=ZX rfl rfl lr;rw[hR];rfl
theorem QsM(i:It):QD i=!isMK i:=by cases i<;>rfl
theorem Qeo{r:List It}{x:It}(hx:QD x=true):Zp (r++[x]):=by
 intro i hi h;have hl:(r++[x]).length=r.length+1:=by simp
 have jD:i<r.length:=by
  rcases lt_or_ge i r.length with z|z;·exact z
  ·have e:i=r.length:=by omega
   subst e;have:(r++[x])[r.length]=x:=by simp
   rw[this,hx]at h;cases h
 have e1:(r++[x]).take i=r.take i:=by rw[List.take_append_of_le_length (by omega)]
 have e2:QS (r++[x])=QS r+1:=by unfold QS;rw[filter_append,length_append];simp[hx]
 rw[e1,e2];have:=QnI r i;omega
theorem Qc1:Zp []:=λi hi=>by simp at hi
theorem QmE(row:List It):Zp (Qh row):=by
 rcases QpU row with z|⟨r,x,z⟩;·subst z;exact Qc1
 ·have cl:Qh row=if isMK x then row++[.word "end" []]else row:=by unfold Qh;rw[z];simp
  rw[cl];cases q:isMK x with|true=>rw[if_pos rfl];exact Qeo rfl|false=>rw[if_neg (by decide),z];exact Qeo (by rw[QsM,q];rfl)
theorem QjD:∀(as:List At)(s:List Bk×List It),(∀a∈as,AtS a\/a=.fin)->(∀b∈s.1,Zp (iO b))->∀b∈(as.foldl JM s).1,Zp (iO b)
 |[],s,_,h=>h|a::as,s,ha,h=>by
  refine QjD as (JM s a) (λx hx=>ha x (mem_cons_of_mem _ hx)) λb hb=>?_;obtain⟨bs,row⟩:=s;have tc:Zp (iO (.para (Qh row))):=QmE row;have h1:∀b∈bs++[Bk.para (Qh row)],Zp (iO b):=λb hb=>by
   rcases List.mem_append.mp hb with z|z;·exact h b z
   ·rw[List.mem_singleton.mp z];exact tc
  have h2:∀b∈(if Qh row=[]then bs else bs++[.para (Qh row)]),Zp (iO b):=λb hb=>by
   split at hb;·exact h b hb
   ·exact h1 b hb
  cases a with
  |it i=>exact h b hb|bk x=>
   rcases List.mem_append.mp hb with z|z;·exact h2 b z
   ·rw[List.mem_singleton.mp z];rcases ha (.bk x) mem_cons_self with q|q;·cases x<;>first|exact Qc1|exact q.elim
    ·cases q|brk=>exact h1 b hb|fin=>exact h2 b hb
theorem QbK(P:It->Prop)(he:P (.word "end" [])):∀(as:List At)(s:List Bk×List It),(∀a∈as,AtS a\/a=.fin)->(∀i,At.it i∈as->P i)->(∀b∈s.1,∀i∈iO b,P i)->(∀i∈s.2,P i)->∀b∈(as.foldl JM s).1,∀i∈iO b,P i
 |[],s,_,_,h,_=>h|a::as,s,ha,hi,h,dj=>by
  obtain⟨bs,row⟩:=s;have hc:∀i∈Qh row,P i:=λi hi=>by
   unfold Qh at hi;split at hi
   ·split at hi
    ·rcases List.mem_append.mp hi with z|z;·exact dj i z
     ·rw[List.mem_singleton.mp z];exact he
    ·exact dj i hi
   ·exact dj i hi
  have h1:∀b∈bs++[Bk.para (Qh row)],∀i∈iO b,P i:=λb hb=>by
   rcases List.mem_append.mp hb with z|z;·exact h b z
   ·rw[List.mem_singleton.mp z];exact hc
  have h2:∀b∈(if Qh row=[]then bs else bs++[.para (Qh row)]),∀i∈iO b,P i:=λb hb=>by
   split at hb;·exact h b hb
   ·exact h1 b hb
  have fb:∀x∈as,AtS x\/x=.fin:=λx hx=>ha x (mem_cons_of_mem _ hx);have bY:∀i,At.it i∈as->P i:=λi hx=>hi i (mem_cons_of_mem _ hx);have nil:∀i∈([]:List It),P i:=λi h=>by cases h
  cases a with
  |it x=>
   refine QbK P he as _ fb bY h λi hx=>?_;rcases List.mem_append.mp hx with z|z;·exact dj i z
   ·rw[List.mem_singleton.mp z];exact hi x mem_cons_self|bk x=>
   refine QbK P he as _ fb bY (λb hb=>?_) nil;rcases List.mem_append.mp hb with z|z;·exact h2 b z
   ·rw[List.mem_singleton.mp z];rcases ha (.bk x) mem_cons_self with q|q;·cases x<;>first|exact nil|exact q.elim
    ·cases q|brk=>exact QbK P he as _ fb bY h1 nil|fin=>exact QbK P he as _ fb bY h2 nil
theorem Qgm(row:List It):QE (Qh row)=QE row:=by
 unfold Qh;split
 ·split;·unfold QE;rw[flatMap_append];simp[mkL]
  ·rfl
 ·rfl
theorem Qlz:∀(as:List At)(s:List Bk×List It),(∀a∈as,AtS a\/a=.fin)->Qp (as.foldl JM s).1++QE (as.foldl JM s).2=Qp s.1++QE s.2++as.flatMap Jx
 |[],s,_=>by simp|a::as,s,ha=>by
  rw[foldl_cons,Qlz as _ (λx hx=>ha x (mem_cons_of_mem _ hx)),flatMap_cons,<-append_assoc];congr 1;obtain⟨bs,row⟩:=s;have e1:Qp (bs++[.para (Qh row)])=Qp bs++QE row:=by
   unfold Qp;rw[flatMap_append];simp[ZR,J8,iO,Qgm]
  have e2:Qp (if Qh row=[]then bs else bs++[.para (Qh row)])=Qp bs++QE row:=by
   split
   ·rename_i z;rw[<-Qgm row,z];simp[QE]
   ·exact e1
  have app:∀(xs:List Bk)(b:Bk),Qp (xs++[b])=Qp xs++ZR b:=λxs b=>by unfold Qp;rw[flatMap_append];simp
  cases a with
  |it i=>
   show Qp bs++QE (row++[i])=Qp bs++QE row++Jx (.it i);unfold QE;rw[flatMap_append,<-append_assoc];congr 1;cases i<;>simp[mkL,Jx]|bk x=>
   show Qp ((if Qh row=[]then bs else bs++[.para (Qh row)])++[x])++QE []=_;rw[app,e2];have:ZR x=Jx (.bk x):=by
    rcases ha (.bk x) mem_cons_self with q|q;·cases x with
     |para is=>exact q.elim|chapter t l=>by_cases z:l=""<;>simp[ZR,J8,Jx,iO,QE,z]|heading t k l=>by_cases z:l=""<;>simp[ZR,J8,Jx,iO,QE,z]|table rs l=>by_cases z:l=""<;>simp[ZR,J8,Jx,iO,QE,z]|plates n l=>by_cases z:l=""<;>simp[ZR,J8,Jx,iO,QE,z]
    ·cases q
   rw[this];simp[QE]|brk=>show Qp (bs++[.para (Qh row)])++QE []=_;rw[e1];simp[QE,Jx]|fin=>show Qp (if Qh row=[]then bs else bs++[.para (Qh row)])++QE []=_;rw[e2];simp[QE,Jx]
theorem Quu(ls:List Str)(cs:List Int)(i:Nat)(a:At):Jx (pt ls cs i a)=Jx a:=by
 unfold pt;split;·split<;>rfl
 ·rfl
theorem QdX{α β γ:Type}(f:β->List γ)(h:α->List γ):∀(g:Nat->α->β)(xs:List α),(∀i a,f (g i a)=h a)->(xs.mapIdx g).flatMap f=xs.flatMap h|g,[],_=>rfl|g,x::xs,hg=>by rw[List.mapIdx_cons,flatMap_cons,flatMap_cons,hg,QdX f h _ xs λi a=>hg _ a]
theorem Qmr(cs:List Int)(as:List At):Yi (Jh cs as)=Yi as:=QdX Jx Jx _ as λi a=>Quu _ _ i a
theorem Qlu:∀(cs:List Int)(n:Nat),n+cs.length<=58->((cs.zipIdx n).flatMap λp=>Jx (Vh p.1 p.2)).Sublist ((List.range' n cs.length).map lab)
 |[],n,_=>by simp|c::cs,n,h=>by
  rw[length_cons]at h;have ih:=Qlu cs (n+1) (by omega);have ok:=(QfE c n (by omega)).2;rw[List.zipIdx_cons,flatMap_cons,length_cons,List.range'_succ,map_cons];have key:Jx (Vh c n)=[]\/Jx (Vh c n)=[lab n]:=by
   have lb:∀l,QgF n l->(if l=Str.ofString ""then[]else[l])=[]\/(if l=Str.ofString ""then[]else[l])=[lab n]:=λl hl=>by
    by_cases z:l=Str.ofString "";·left;rw[if_pos z]
    ·right;rw[if_neg z];rcases hl with q|q;·exact absurd q z
     ·rw[q]
   cases q:Vh c n with
   |brk=>exact .inl rfl|fin=>exact .inl rfl|it i=>
    rw[q]at ok;cases i with
    |mark l=>right;show[l]=_;rw[show l=lab n from ok]|_=>exact .inl rfl
   |bk b=>
    rw[q]at ok;cases b with
    |chapter t l=>exact lb l ok.2|heading t k l=>exact lb l ok.2.2|table rs l=>exact lb l ok.2.2|plates m l=>exact lb l ok.2|para is=>exact ok.elim
  rcases key with z|z;·have z':Jx (Vh (c,n).1 (c,n).2)=[]:=z;rw[z',nil_append];exact ih.cons _
  ·have z':Jx (Vh (c,n).1 (c,n).2)=[lab n]:=z;rw[z'];exact ih.cons_cons _
theorem Qgl:∀xs:List Str,Qkw xs=true->xs.Nodup|[],_=>nodup_nil|x::xs,h=>by simp only[Qkw,and_eq_true,List.all_eq_true,decide_eq_true_eq]at h;exact List.nodup_cons.mpr ⟨λz=>h.1 x z rfl,Qgl xs h.2⟩
theorem Qrr(cs:List Int)(h:cs.length<=58):(Yi (Jz cs)).Sublist ((List.range 58).map lab):=by
 have h1:=Qlu cs 0 (by omega);have e:Yi (Jz cs)=(cs.zipIdx 0).flatMap λp=>Jx (Vh p.1 p.2):=by unfold Yi Jz;rw[List.flatMap_map]
 rw[e];refine h1.trans (List.Sublist.map _ ?_);have e2:List.range' 0 cs.length++List.range' (0+cs.length) (58-cs.length)=List.range' 0 (cs.length+(58-cs.length)):=List.range'_append_1;rw[List.range_eq_range',show 58=cs.length+(58-cs.length)from by omega,<-e2];exact List.sublist_append_left _ _
theorem QlP(xs ys:List Bk):Qp (xs++ys)=Qp xs++Qp ys:=by unfold Qp;rw[flatMap_append]
theorem Qh0(cs:List Int)(h:cs.length<58):Qp (QbX cs)=Yi (Jz cs):=by
 have hB:=Qhq cs h;have g:=Qlz (Jh cs (Jz cs)++[.fin]) ([],[]) (λa ha=>by
  rcases hB a ha with z|z;·exact .inl (Qf0 z)
  ·exact .inr z);have e2:((Jh cs (Jz cs)++[At.fin]).foldl JM ([],[])).2=[]:=by
  rw[foldl_append];show(JM _ .fin).2=[];rfl
 rw[e2]at g;have e3:(Jh cs (Jz cs)++[At.fin]).flatMap Jx=Yi (Jz cs):=by rw[flatMap_append];show Yi (Jh cs (Jz cs))++_=_;rw[Qmr];simp[Jx]
 rw[e3]at g;have e4:Qp (QbX cs)=Qp ((Jh cs (Jz cs)++[At.fin]).foldl JM ([],[])).1:=rfl;rw[e4];simpa[QE,Qp]using g
theorem Qri(ns:List Int)(w h:Int)(li:Bool):Qp (Z0 ns w h li)=[]\/Qp (Z0 ns w h li)=[Str.ofString "z"]:=by
 unfold Z0;split;·exact .inl rfl
 ·right;simp[Qp,ZR,J8,iO,QE,mkL]
theorem Qq5:((List.range 58).map lab).Nodup:=Qgl _ Quv
theorem QjN(ns:List Int):(Qp (Qo ns)).Nodup:=by
 have hl:=YU ns;have sub:=Qrr (JS ns) (by omega);unfold Qo dBk;rw[QlP,Qh0 _ hl];have nd:(Yi (Jz (JS ns))).Nodup:=sub.nodup Qq5;rcases Qri ns (dW ns) (dH ns) (dLi ns)with z|z;·rw[z];exact nd
 ·rw[z];refine List.nodup_cons.mpr ⟨λq=>?_,nd⟩;obtain⟨k,hk,e⟩:=List.mem_map.mp (sub.subset q);exact Qw5 k (List.mem_range.mp hk) e
theorem QhT{bs:List Bk}{l:Str}(h:l∈rO bs):∃b∈bs,∃x y,It.ref l x y∈iO b:=by obtain⟨b,hb,h1⟩:=List.mem_flatMap.mp h;unfold QQ at h1;obtain⟨i,hi,e⟩:=List.mem_map.mp h1;obtain⟨h2,h3⟩:=List.mem_filter.mp hi;cases i with|ref l' x y=>cases e;exact⟨b,hb,x,y,h2⟩|_=>cases h3
noncomputable def QoQ(L:List Str):It->Prop|.ref l _ _=>l∈L|_=>True
theorem QvI(ls:List Str)(cs:List Int)(k:Nat)(a:At):∀i,pt ls cs k a=.it i->(∀j,a=.it j->(∃l x y,j=.ref l x y)\/QoQ ls j)->QoQ ls i:=by
 intro i e h;unfold pt at e;split at e
 ·split at e;·cases e;trivial
  ·rename_i ne;cases e;show List.getD _ _ _∈ls;have hp:(0:Int)<ls.length:=by cases ls with
    |nil=>exact absurd rfl ne|cons a b=>simp only[length_cons];omega
   have h1:=emod_nonneg (mix (cs.getD k 0) (k+90)) (show(ls.length:Int)≠0 by omega);have h2:=emod_lt_of_pos (mix (cs.getD k 0) (k+90)) hp;rw[getD_eq_getElem?_getD,getElem?_eq_getElem (by omega)];exact getElem_mem _
 ·rename_i nr;subst e;rcases h i rfl with⟨l,x,y,rfl⟩|q;·exact absurd rfl (nr l x y)
  ·exact q
theorem QpA(cs:List Int)(h:cs.length<58):∀l∈rO (QbX cs),l∈Yi (Jz cs):=by
 intro l hl;obtain⟨b,hb,x,y,hi⟩:=QhT hl;have hB:=Qhq cs h;have g:=QbK (QoQ (Yi (Jz cs))) trivial (Jh cs (Jz cs)++[At.fin]) ([],[]) (λa ha=>by
  rcases hB a ha with z|z;·exact .inl (Qf0 z)
  ·exact .inr z) (λi hm=>by
   rcases List.mem_append.mp hm with z|z
   ·unfold Jh at z;obtain⟨k,hk,e⟩:=List.mem_mapIdx.mp z;refine QvI _ _ _ _ i e λj _=>?_;cases j with
    |ref l x y=>exact .inl ⟨l,x,y,rfl⟩|_=>exact .inr trivial
   ·cases List.mem_singleton.mp z) (by simp) (by simp) b hb (.ref l x y) hi;exact g
theorem Qo4(xs ys:List Bk):rO (xs++ys)=rO xs++rO ys:=by unfold rO;rw[flatMap_append]
theorem Qfz(ns:List Int):∀l∈rO (Qo ns),l∈Qp (Qo ns):=by
 intro l hl;have hc:=YU ns;unfold Qo dBk at*;rw[Qo4]at hl;rw[QlP];rcases List.mem_append.mp hl with z|z
 ·refine mem_append_left _ ?_;unfold Z0 at z⊢;split at z;·cases z
  ·rename_i ne;rw[if_neg ne];obtain⟨b,hb,x,y,hi⟩:=QhT z;simp only[mem_cons,not_mem_nil,or_false]at hb;rcases hb with q|q|q<;>subst q;·cases hi
   ·cases hi
   ·simp only[iO,mem_cons,not_mem_nil,or_false]at hi;rcases hi with q|q|q;·cases q
    ·cases q
    ·cases q;simp[Qp,ZR,J8,iO,QE,mkL]
 ·refine mem_append_right _ ?_;rw[Qh0 _ hc];exact QpA _ hc l z
theorem Qb8(ns:List Int):∀b∈Qo ns,Zp (iO b):=by
 intro b hb;unfold Qo dBk at hb;rcases List.mem_append.mp hb with z|z
 ·unfold Z0 at z;split at z;·cases z
  ·simp only[mem_cons,not_mem_nil,or_false]at z;rcases z with q|q|q<;>subst q;·exact Qc1
   ·exact Qc1
   ·exact Qeo (r:=[_,_]) rfl
 ·exact QjD _ ([],[]) (λa ha=>by
   rcases Qhq _ (YU ns) a ha with z|z;·exact .inl (Qf0 z)
   ·exact .inr z) (by simp) b z
theorem Qwu(ns:List Int)(w h:Int)(li:Bool)(hw:4<=w/\w<=90)(hh:2<=h/\h<=60):∀b∈Z0 ns w h li,BkS b/\BkT b/\Qaq b:=by
 intro b hb;have h6:=Qu9 (Qcc ns);have hN:=Qcc ns;unfold Z0 at hb;split at hb;·cases hb
 ·simp only[mem_cons,not_mem_nil,or_false]at hb;have it:∀i∈[It.word (YV (Str.ofString "w") (if w-1-Qaf ns>1 then w-1-Qaf ns else 1)) [],It.mark "z",It.ref "z" "" ""],ItT i:=λi hi=>by
   simp only[mem_cons,not_mem_nil,or_false]at hi;rcases hi with q|q|q<;>subst q;·refine⟨? _,by simp,by simp⟩;rw[Qkm];split<;>omega
   ·trivial
   ·exact⟨by rw[Ys];omega,by rw[Ys];omega⟩
  rcases hb with q|q|q<;>subst q
  ·refine⟨trivial,λi hi=>(by cases hi),λn l e=>? _⟩;cases e;omega
  ·refine⟨⟨by simp;omega,λr hr=>? _⟩,λi hi=>(by cases hi),λn l e=>by cases e⟩;rw[List.eq_of_mem_replicate hr,Ys];omega
  ·exact⟨it,it,λn l e=>by cases e⟩
theorem Qxr:∀{b:Bk},BkB b->BkS b/\BkT b/\Qaq b:=by
 intro b h;have jv:∀i,ItB i->ItT i:=λi hi=>by cases i with
  |word x ns=>exact⟨by have:=hi.1.2;omega,by have:=hi.2.1;omega,λr hr=>by have:=hi.2.2 r hr;omega⟩|ref l x y=>exact⟨by have:=hi.1;omega,by have:=hi.2;omega⟩|_=>trivial
 cases b with
 |chapter t l=>exact⟨by have:=h.2;show t.length<=1000;omega,λi hi=>(by cases hi),λn l e=>(by cases e)⟩|heading t k l=>exact⟨by have:=h.1.2;show t.length<=1000;omega,λi hi=>(by cases hi),λn l e=>(by cases e)⟩|table rs l=>exact⟨⟨by have:=h.1.2;omega,λr hr=>by have:=h.2 r hr;omega⟩,λi hi=>(by cases hi),λn l e=>(by cases e)⟩|plates n l=>exact⟨trivial,λi hi=>(by cases hi),λm l' e=>(by cases e;exact h.1)⟩|para is=>exact⟨λi hi=>jv i (h i hi),λi hi=>jv i (h i hi),λn l e=>(by cases e)⟩
theorem Qcr(ns:List Int):∀b∈Qo ns,BkS b/\BkT b/\Qaq b:=by
 intro b hb;have hw:=QkG ns;have hh:=Qe4 ns;unfold Qo at hb;rcases List.mem_append.mp hb with z|z;·exact Qwu ns _ _ _ ⟨hw.2.1,hw.2.2⟩ ⟨hh.2.1,hh.2.2⟩ b z
 ·exact Qxr (Qhr ns b z)
theorem Qrh(ns:List Int)(w h w' h':Int)(li gx:Bool):(Z0 ns w h li).map (JA gx)=(Z0 ns w' h' li).map (JA gx):=by
 unfold Z0;split;·rfl
 ·simp[JA,QD,J9,Jk]
theorem QjM(ns:List Int):most (dLi ns) (Qo ns)=Zo ns:=by unfold Zo Qo dE0 most;rw[QbL,QbL,map_append,map_append,Qrh ns _ _ 4 2]
theorem Qg1(ns:List Int):∀b∈Qo ns,Qa7 (dR ns) (dW ns) (dH ns) b:=by
 intro b hb;have hn:=QbM ns;have hw:=QkG ns;have hwd:=Qn6 ns;have hh:=Qe4 ns;have hr:=Qcf ns;have hN:=Qcc ns;unfold Qo at hb;rcases List.mem_append.mp hb with z|z
 ·have fe:∀b∈dE0 ns,Qa7 (dR ns) (Js ns).1 (Js ns).2 b:=λb hb=>hn.2.2.2.2 b (mem_append_right _ hb);have ne:¬(dLi ns=true\/cell ns 4%3≠1):=λq=>by unfold Z0 at z;rw[if_pos q]at z;cases z
  unfold Z0 at z;rw[if_neg ne]at z;have rm:dR ns<=(Js ns).1:=by
   have:=fe (.para [.word (YV "w" (if(4:Int)-1-Qaf ns>1 then 4-1-Qaf ns else 1)) [],.mark "z",.ref "z" "" ""]) (by unfold dE0 Z0;rw[if_neg ne];simp) (.ref "z" "" "") (by simp);have e:((Str.ofString "").length:Int)+dR ns+((Str.ofString "").length:Int)<=(Js ns).1:=this;rw[Ys]at e;omega
  simp only[mem_cons,not_mem_nil,or_false]at z;rcases z with q|q|q<;>subst q;·trivial
  ·refine⟨by simp;omega,λr hr=>?_⟩;rw[List.eq_of_mem_replicate hr,Ys];omega
  ·intro i hi;simp only[mem_cons,not_mem_nil,or_false]at hi;rcases hi with q|q|q<;>subst q
   ·refine⟨?_,by simp;omega,by simp⟩;rw[Qkm];split<;>omega
   ·trivial
   ·show((Str.ofString "").length:Int)+dR ns+((Str.ofString "").length:Int)<=_;rw[Ys];omega
 ·exact QjH (by omega) hh.1 (hn.2.2.2.2 b (mem_append_left _ z))
theorem Qxk(ns:List Int):QbF [bks (Qo ns),sty (dW ns) (dH ns) (dO ns) (dLi ns)]=some .non:=by
 have hw:=QkG ns;have hh:=Qe4 ns;have hm:=Qgf ns;have e:=QjM ns;have:(10:Int)^42<10^60:=by decide
 refine Quo _ _ _ _ _ (Qap ns) ⟨hw.2.1,hw.2.2,hh.2.1,hh.2.2⟩ (by omega) (by omega) (λb hb=>(Qcr ns b hb).1) (λb hb=>(Qcr ns b hb).2.1) (λb hb=>?_) (Qb8 ns) (QjN ns) (Qfz ns);rw[e];exact Qg1 ns b hb
def Y0(af:Int)(rs:List Int):Prop:=∀r∈rs,1<=r/\r<=af
theorem Qjz(pls:List Plc)(M:Int)(hb:∀x∈pls,1<=x.p/\x.p<=M):∀(is:List It)(s:List (Str×Int)×Nat),(∀x∈s.1,1<=x.2/\x.2<=M)->(∀i(hi:i<is.length),QD is[i]=false->s.2+QS (is.take i)<pls.length)->∀x∈(is.foldl (ZJ pls) s).1,1<=x.2/\x.2<=M
 |[],s,h,_=>h|i::is,s,h,ht=>by
  have nx:∀j(hj:j<is.length),QD is[j]=false->(ZJ pls s i).2+QS (is.take j)<pls.length:=λj hj hs=>by
   have:=ht (j+1) (by simpa using hj) (by simpa using hs);rw[List.take_succ_cons,Yr]at this;have e:(ZJ pls s i).2=s.2+(if QD i then 1 else 0):=by cases i<;>simp[ZJ,QD,J9,Jk]
   rw[e];omega
  refine Qjz pls M hb is (ZJ pls s i) ?_ nx;cases i with
  |mark l=>
   have hk:=ht 0 (by simp) rfl;simp[QS]at hk;intro x hx;rcases List.mem_append.mp hx with z|z;·exact h x z
   ·rw[List.mem_singleton.mp z];show 1<=(pls.getD s.2 ⟨0,0,0⟩).p/\_;rw[getD_eq_getElem?_getD,getElem?_eq_getElem hk];exact hb _ (getElem_mem hk)|_=>exact h
theorem Qrd(M:Int)(q:Bk×List Plc)(hq:q.2.length=nPl q.1)(hb:∀x∈q.2,1<=x.p/\x.p<=M)(ht:Zp (iO q.1)):∀x∈JK q,1<=x.2/\x.2<=M:=by
 obtain⟨b,pls⟩:=q;simp only[]at hq hb ht;intro x hx;unfold JK at hx;rcases List.mem_append.mp hx with z|z
 ·split at z;·cases z
  ·rename_i ne;rw[List.mem_singleton.mp z];have np:pls.length=1:=by cases b<;>first|exact hq|exact absurd rfl ne
   obtain⟨p0,rfl⟩:=List.length_eq_one_iff.mp np;exact hb p0 (by simp)
 ·refine Qjz pls M hb (iO b) ([],0) (λy hy=>by cases hy) (λi hi hs=>?_) x z;have:=ht i hi hs;have le:QS (iO b)<=pls.length:=by cases b with
   |para is=>exact le_of_eq hq.symm|_=>exact zero_le _
  simp only[];omega
def ZZ(kv:List (Str×Int))(l:Str):Int:=match D.dget (Zj kv) (.str l)with|some (.int p)=>p|_=>0
theorem QtX{kv:List (Str×Int)}{l:Str}(h:l∈kv.map (·.1)):D.dget (Zj kv) (.str l)=some (.int (ZZ kv l))/\(l,ZZ kv l)∈kv:=by
 obtain⟨p,h1,h2⟩:=Qlb h;have:ZZ kv l=p:=by unfold ZZ;rw[h2]
 rw[this];exact⟨h2,h1⟩
theorem Qvk(ns:List Int)(kv:List (Str×Int))(hk:kv.map (·.1)=Qp (Qo ns))(hv:∀x∈kv,1<=x.2/\x.2<=Zo ns)(l:Str)(hl:l∈rO (Qo ns)):D.dget (Zj kv) (.str l)=some (.int (ZZ kv l))/\1<=ZZ kv l/\ZZ kv l<10^60/\1<=(Yd (ZZ kv l).toNat:Int)/\(Yd (ZZ kv l).toNat:Int)<=dR ns:=by
 obtain⟨h1,h2⟩:=QtX (kv:=kv) (l:=l) (by rw[hk];exact Qfz ns l hl);have hb:=hv _ h2;have hm:=Qgf ns;have b1:1<=ZZ kv l/\ZZ kv l<=Zo ns:=hb;have big:(10:Int)^42<10^60:=by decide
 have dp:=QcL (ZZ kv l).toNat;refine⟨h1,b1.1,by omega,by omega,?_⟩;unfold dR;have:Yd (ZZ kv l).toNat<=Yd (Zo ns).toNat:=by
  refine(Nat.length_toDigits_le_iff (by decide) (QcL _)).mpr ?_;exact lt_of_le_of_lt (by omega) (Qn3 (Zo ns).toNat)
 omega
theorem Qng(ns:List Int)(ae:List Int)(hr:ae.length=(rO (Qo ns)).length)(T:D)(kv:List (Str×Int))(h1:Yu [bks (Qo ns),sty (dW ns) (dH ns) (dO ns) (dLi ns),.lst (ae.map .int)]=some T)(h2:Yl [bks (Qo ns),T]=some (Zj kv))(hk:kv.map (·.1)=Qp (Qo ns))(hv:∀x∈kv,1<=x.2/\x.2<=Zo ns):ZQ [bks (Qo ns),sty (dW ns) (dH ns) (dO ns) (dLi ns),.lst (ae.map .int)]=some (.lst (((rO (Qo ns)).map λl=>(Yd (ZZ kv l).toNat:Int)).map .int)):=by have rf:=Qf7 (Qo ns) (Qap ns);have rl:=QeA (Qo ns);have fw:=Qap ns;unfold ZQ Qbr;refine stD rfl ?_;generalize sty (dW ns) (dH ns) (dO ns) (dLi ns)=S at*;generalize D.lst (ae.map .int)=RM at*;refine st (e1:=[some (bks (Qo ns)),some S,some RM,some (Zj kv)]) (asg (ZX rfl (ZH rfl rfl rfl h1) h2) rfl) (ret ?_);rw[Zh (g:=gS 0) (n:=1) (caps:=[3]) (c:=eC (.bl true)) (el:=eK Qax (lC (eOp D.dget (eV 1) (eV 0)) lN)) D.str (rO (Qo ns)) (λe=>∃v,e=[v,some (Zj kv)]) (λ_=>true) (λl=>.int (Yd (ZZ kv l).toNat)) (by have hR:eK Z4 (lC (eV 0) lN) [some (bks (Qo ns)),some S,some RM,some (Zj kv)]=some (QH (rO (Qo ns))):=QN rfl rf;unfold QL;rw[hR];rfl) (lB (by have:=fw.2;omega)) ⟨none,rfl⟩ (by rintro l hl e⟨v,rfl⟩;obtain⟨g1,g2,g3,_⟩:=Qvk ns kv hk hv l hl;exact⟨[some (.str l),some (Zj kv)],rfl,⟨_,rfl⟩,rfl,λ_=>QN (opE rfl rfl g1) (QhX _ (by omega) g3)⟩)];rw[Z8,map_map];rfl
def J3(w h:Int)(s:Sta):Prop:=0<=s.l/\0<=s.u/\s.u<=w/\0<=s.f/\s.l+s.f<=h/\(0<s.u->s.l+s.f<h)
def ZB(s t:Sta):Prop:=s.p<t.p\/s.p=t.p/\(s.l<t.l\/s.l=t.l/\s.u<=t.u)/\s.f<=t.f
def Qaz(a b:Plc):Prop:=a.p<b.p\/a.p=b.p/\(a.l<b.l\/a.l=b.l/\a.c<=b.c)
theorem QqL(a:Plc):Qaz a a:=.inr ⟨rfl,.inr ⟨rfl,Int.le_refl _⟩⟩
theorem Qmo(a:Sta):ZB a a:=.inr ⟨rfl,.inr ⟨rfl,Int.le_refl _⟩,Int.le_refl _⟩
theorem Qb0{w h:Int}{s:Sta}{n r:Int}(hs:J3 w h s)(hn:1<=n/\n<=w)(hr:0<=r/\r<h):J3 w h (QB w h s n r).2:=by
 obtain⟨a1,a2,a3,a4,a5,a6⟩:=hs;unfold QB J3;split
 ·rename_i z;by_cases u0:s.u=0;·simp only[u0,if_true];omega
  ·have:=z.1;simp only[u0,if_false];omega
 ·split;·dsimp only;omega
  ·dsimp only;omega
theorem QhO(w h:Int)(s:Sta)(n r:Int)(hu:0<=s.u):((s.u=0\/s.u+1+n<=w)/\s.l+s.f+(1+r)<=h/\∃c,(s.u=0/\c=0\/0<s.u/\c=s.u+1)/\QB w h s n r=(⟨s.p,s.l,c⟩,⟨s.p,s.l,c+n,s.f+r⟩))\/(¬((s.u=0\/s.u+1+n<=w)/\s.l+s.f+(1+r)<=h)/\((0<s.u/\s.l+s.f+(2+r)<=h/\QB w h s n r=(⟨s.p,s.l+1,0⟩,⟨s.p,s.l+1,0+n,s.f+r⟩))\/(¬(0<s.u/\s.l+s.f+(2+r)<=h)/\QB w h s n r=(⟨s.p+1,0,0⟩,⟨s.p+1,0,0+n,r⟩)))):=by
 unfold QB;by_cases x1:(s.u=0\/s.u+1+n<=w)/\s.l+s.f+(1+r)<=h
 ·rw[if_pos x1];by_cases u0:s.u=0;·exact .inl ⟨x1.1,x1.2,0,.inl ⟨u0,rfl⟩,by simp[u0]⟩
  ·exact .inl ⟨x1.1,x1.2,s.u+1,.inr ⟨by omega,rfl⟩,by simp[u0]⟩
 ·rw[if_neg x1];by_cases x2:0<s.u/\s.l+s.f+(2+r)<=h
  ·rw[if_pos x2];exact .inr ⟨x1,.inl ⟨x2.1,x2.2,rfl⟩⟩
  ·rw[if_neg x2];exact .inr ⟨x1,.inr ⟨x2,rfl⟩⟩
theorem QfI{w h:Int}{s t:Sta}{n m r:Int}(hs:J3 w h s)(ht:J3 w h t)(hl:ZB s t)(hn:1<=n/\n<=m/\m<=w)(hr:0<=r/\r<h):Qaz (QB w h s n r).1 (QB w h t m r).1/\ZB (QB w h s n r).2 (QB w h t m r).2:=by
 have nm:=hn.2.1;have su:=hs.2.1;have tu:=ht.2.1;have tl:=ht.1;have tf:=ht.2.2.2.1;clear hs ht hn hr;rcases QhO w h s n r su with⟨x1,x2,c,x3,e⟩|⟨x1,⟨x2,x3,e⟩|⟨x2,e⟩⟩<;>rw[e]<;>clear e<;>rcases QhO w h t m r tu with⟨y1,y2,d,y3,e⟩|⟨y1,⟨y2,y3,e⟩|⟨y2,e⟩⟩<;>rw[e]<;>clear e<;>rcases hl with hp|⟨hp,hl|⟨hl,hu⟩,hf⟩;·exact⟨.inl hp,.inl hp⟩
 ·exact⟨.inr ⟨hp,.inl hl⟩,.inr ⟨hp,.inl hl,add_le_add_right hf _⟩⟩
 ·have cd:c<=d:=by clear x1 x2 y1 y2 tl tf nm hp hl hf;omega
  exact⟨.inr ⟨hp,.inr ⟨hl,cd⟩⟩,.inr ⟨hp,.inr ⟨hl,add_le_add cd nm⟩,add_le_add_right hf _⟩⟩
 ·exact⟨.inl hp,.inl hp⟩
 ·exact⟨.inr ⟨hp,.inl (lt_trans hl (lt_succ _))⟩,.inr ⟨hp,.inl (lt_trans hl (lt_succ _)),add_le_add_right hf _⟩⟩
 ·exact⟨.inr ⟨hp,.inl (hl▸lt_succ _)⟩,.inr ⟨hp,.inl (hl▸lt_succ _),add_le_add_right hf _⟩⟩
 ·exact⟨.inl (lt_trans hp (lt_succ _)),.inl (lt_trans hp (lt_succ _))⟩
 ·exact⟨.inl (hp▸lt_succ _),.inl (hp▸lt_succ _)⟩
 ·exact⟨.inl (hp▸lt_succ _),.inl (hp▸lt_succ _)⟩
 ·exact⟨.inl hp,.inl hp⟩
 ·have d0:0<=d:=by clear x1 x2 x3 y1 y2 tl tf nm hp hl hf;omega
  have un:0+n<=d+m:=add_le_add d0 nm;rcases lt_or_eq_of_le (show s.l+1<=t.l from hl)with z|z;·exact⟨.inr ⟨hp,.inl z⟩,.inr ⟨hp,.inl z,add_le_add_right hf _⟩⟩
  ·exact⟨.inr ⟨hp,.inr ⟨z,d0⟩⟩,.inr ⟨hp,.inr ⟨z,un⟩,add_le_add_right hf _⟩⟩
 ·refine absurd ⟨.inr ?_,?_⟩ x1;·clear x1 x3 y2 y3 tl tf hp hl hf;omega
  ·clear x1 x2 x3 y1 y3 su tu nm hp hu;omega
 ·exact⟨.inl hp,.inl hp⟩
 ·exact⟨.inr ⟨hp,.inl (add_lt_add_right hl _)⟩,.inr ⟨hp,.inl (add_lt_add_right hl _),add_le_add_right hf _⟩⟩
 ·exact⟨.inr ⟨hp,.inr ⟨congrArg (·+1) hl,Int.le_refl _⟩⟩,.inr ⟨hp,.inr ⟨congrArg (·+1) hl,Int.add_le_add_left nm _⟩,add_le_add_right hf _⟩⟩
 ·exact⟨.inl (lt_trans hp (lt_succ _)),.inl (lt_trans hp (lt_succ _))⟩
 ·exact⟨.inl (hp▸lt_succ _),.inl (hp▸lt_succ _)⟩
 ·exact⟨.inl (hp▸lt_succ _),.inl (hp▸lt_succ _)⟩
 ·have d0:0<=d:=by clear x1 x2 y1 y2 tl tf nm hp;omega
  have un:0+n<=d+m:=add_le_add d0 nm;have ff:r<=t.f+r:=Int.le_add_of_nonneg_left tf;rcases lt_or_eq_of_le (show s.p+1<=t.p from hp)with z|z;·exact⟨.inl z,.inl z⟩
  ·rcases lt_or_eq_of_le tl with y|y;·exact⟨.inr ⟨z,.inl y⟩,.inr ⟨z,.inl y,ff⟩⟩
   ·exact⟨.inr ⟨z,.inr ⟨y,d0⟩⟩,.inr ⟨z,.inr ⟨y,un⟩,ff⟩⟩
 ·exfalso;clear y1 y3 tl tf nm hp;omega
 ·exfalso;clear y3 tl tf hp;omega
 ·have ff:r<=t.f+r:=Int.le_add_of_nonneg_left tf;have ll:0<t.l+1:=Int.lt_add_one_of_le tl;rcases lt_or_eq_of_le (show s.p+1<=t.p from hp)with z|z;·exact⟨.inl z,.inl z⟩
  ·exact⟨.inr ⟨z,.inl ll⟩,.inr ⟨z,.inl ll,ff⟩⟩
 ·exfalso;clear y1 y2 tl tf nm hp tu;omega
 ·exfalso;clear y1 y2 tl tf nm hp tu hu;omega
 ·exact⟨.inl (add_lt_add_right hp _),.inl (add_lt_add_right hp _)⟩
 ·exact⟨.inr ⟨congrArg (·+1) hp,.inr ⟨rfl,Int.le_refl _⟩⟩,.inr ⟨congrArg (·+1) hp,.inr ⟨rfl,Int.add_le_add_left nm _⟩,Int.le_refl _⟩⟩
 ·exact⟨.inr ⟨congrArg (·+1) hp,.inr ⟨rfl,Int.le_refl _⟩⟩,.inr ⟨congrArg (·+1) hp,.inr ⟨rfl,Int.add_le_add_left nm _⟩,Int.le_refl _⟩⟩
theorem QaS{w h:Int}{s:Sta}(hs:J3 w h s):J3 w h (endLine s)/\(endLine s).u=0:=by
 obtain⟨a1,a2,a3,a4,a5,a6⟩:=hs;unfold endLine;split;·rename_i z;exact⟨⟨a1,a2,a3,a4,a5,a6⟩,z⟩
 ·unfold J3;dsimp only;omega
theorem QfL{w h:Int}{s t:Sta}(hs:J3 w h s)(ht:J3 w h t)(hl:ZB s t):ZB (endLine s) (endLine t):=by
 have a2:=hs.2.1;have b2:=ht.2.1;clear hs ht;unfold endLine;by_cases u0:s.u=0<;>by_cases v0:t.u=0;·rw[if_pos u0,if_pos v0];exact hl
 ·rw[if_pos u0,if_neg v0];rcases hl with hp|⟨hp,hl|⟨hl,hu⟩,hf⟩;·exact .inl hp
  ·exact .inr ⟨hp,.inl (lt_trans hl (lt_succ _)),hf⟩
  ·exact .inr ⟨hp,.inl (hl▸lt_succ _),hf⟩
 ·rw[if_neg u0,if_pos v0];rcases hl with hp|⟨hp,hl|⟨hl,hu⟩,hf⟩;·exact .inl hp
  ·exact .inr ⟨hp,(lt_or_eq_of_le hl).imp id (⟨·,b2⟩),hf⟩
  ·exact absurd (le_antisymm (v0▸hu) a2) u0
 ·rw[if_neg u0,if_neg v0];rcases hl with hp|⟨hp,hl|⟨hl,hu⟩,hf⟩;·exact .inl hp
  ·exact .inr ⟨hp,.inl (add_lt_add_right hl _),hf⟩
  ·exact .inr ⟨hp,.inr ⟨congrArg (·+1) hl,Int.le_refl _⟩,hf⟩
theorem YC{w h:Int}{s:Sta}{a b:Int}(hs:J3 w h s)(ha:1<=a)(hb:0<=b)(c7:a+b<=h):J3 w h (QT h s a b).2:=by
 obtain⟨⟨a1,a2,a3,a4,a5,a6⟩,z⟩:=QaS hs;unfold QT J3 JP;split;·dsimp only;omega
 ·dsimp only;omega
theorem QbS{w h:Int}{s t:Sta}{a b:Int}(hs:J3 w h s)(ht:J3 w h t)(hl:ZB s t)(ha:1<=a)(hb:0<=b)(c7:a+b<=h):Qaz (QT h s a b).1 (QT h t a b).1/\ZB (QT h s a b).2 (QT h t a b).2:=by
 have hm:=QfL hs ht hl;have tl:=(QaS ht).1.1;have tf:=(QaS ht).1.2.2.2.1;clear hs ht hl ha hb c7;have e1:∀s:Sta,(endLine s).l+(endLine s).f+(a+b)<=h->QT h s a b=(⟨(endLine s).p,(endLine s).l,0⟩,⟨(endLine s).p,(endLine s).l+a,0,(endLine s).f⟩):=λs x=>by unfold QT;rw[if_pos x]
 have e2:∀s:Sta,¬(endLine s).l+(endLine s).f+(a+b)<=h->QT h s a b=(⟨(endLine s).p+1,0,0⟩,⟨(endLine s).p+1,0+a,0,0⟩):=λs x=>by unfold QT;rw[if_neg x];rfl
 by_cases x:(endLine s).l+(endLine s).f+(a+b)<=h<;>by_cases v:(endLine t).l+(endLine t).f+(a+b)<=h
 ·rw[e1 s x,e1 t v];rcases hm with hp|⟨hp,hl|⟨hl,hu⟩,hf⟩;·exact⟨.inl hp,.inl hp⟩
  ·exact⟨.inr ⟨hp,.inl hl⟩,.inr ⟨hp,.inl (add_lt_add_right hl _),hf⟩⟩
  ·exact⟨.inr ⟨hp,.inr ⟨hl,Int.le_refl _⟩⟩,.inr ⟨hp,.inr ⟨congrArg (·+a) hl,Int.le_refl _⟩,hf⟩⟩
 ·rw[e1 s x,e2 t v];have:(endLine s).p<(endLine t).p+1:=by
   rcases hm with hp|⟨hp,_⟩;·exact lt_trans hp (lt_succ _)
   ·exact hp▸lt_succ _
  exact⟨.inl this,.inl this⟩
 ·rw[e2 s x,e1 t v];rcases hm with hp|⟨hp,hl,hf⟩
  ·rcases lt_or_eq_of_le (show(endLine s).p+1<=(endLine t).p from hp)with z|z;·exact⟨.inl z,.inl z⟩
   ·rcases lt_or_eq_of_le tl with y|y;·exact⟨.inr ⟨z,.inl y⟩,.inr ⟨z,.inl (add_lt_add_right y _),tf⟩⟩
    ·exact⟨.inr ⟨z,.inr ⟨y,Int.le_refl _⟩⟩,.inr ⟨z,.inr ⟨congrArg (·+a) y,Int.le_refl _⟩,tf⟩⟩
  ·have l2:(endLine s).l<=(endLine t).l:=hl.elim Int.le_of_lt λz=>Int.le_of_eq z.1;exact absurd (Int.le_trans (add_le_add_right (add_le_add l2 hf) _) v) x
 ·rw[e2 s x,e2 t v];rcases hm with hp|⟨hp,_⟩;·exact⟨.inl (add_lt_add_right hp _),.inl (add_lt_add_right hp _)⟩
  ·exact⟨.inr ⟨congrArg (·+1) hp,.inr ⟨rfl,Int.le_refl _⟩⟩,.inr ⟨congrArg (·+1) hp,.inr ⟨rfl,Int.le_refl _⟩,Int.le_refl _⟩⟩
theorem QfJ{w h:Int}{s t:Sta}(hs:J3 w h s)(ht:J3 w h t)(hl:ZB s t):(Q1 s).p<=(Q1 t).p:=by
 obtain⟨a1,a2,_,a4,_⟩:=hs;clear ht;have e1:∀s:Sta,(s.l=0/\s.u=0/\s.f=0)->(Q1 s).p=s.p:=λs x=>by unfold Q1;rw[if_pos x]
 have e2:∀s:Sta,¬(s.l=0/\s.u=0/\s.f=0)->(Q1 s).p=s.p+1:=λs x=>by unfold Q1;rw[if_neg x];rfl
 by_cases x:s.l=0/\s.u=0/\s.f=0<;>by_cases v:t.l=0/\t.u=0/\t.f=0
 ·rw[e1 s x,e1 t v];rcases hl with hp|⟨hp,_⟩;·exact Int.le_of_lt hp
  ·exact Int.le_of_eq hp
 ·rw[e1 s x,e2 t v];rcases hl with hp|⟨hp,_⟩;·exact Int.le_of_lt (lt_trans hp (lt_succ _))
  ·exact hp▸Int.le_of_lt (lt_succ _)
 ·rw[e2 s x,e1 t v];rcases hl with hp|⟨_,hl|⟨hl,hu⟩,hf⟩;·exact hp
  ·exact absurd (v.1▸hl) (Int.not_lt.mpr a1)
  ·exact absurd ⟨hl.trans v.1,le_antisymm (v.2.1▸hu) a2,le_antisymm (v.2.2▸hf) a4⟩ x
 ·rw[e2 s x,e2 t v];rcases hl with hp|⟨hp,_⟩;·exact add_le_add_right (Int.le_of_lt hp) _
  ·exact Int.le_of_eq (congrArg (·+1) hp)
theorem Qin{w h:Int}{s t:Sta}(o:Bool)(hs:J3 w h s)(ht:J3 w h t)(hl:ZB s t):(QZ o s).p<=(QZ o t).p:=by
 have:=QfJ hs ht hl;unfold QZ JP;by_cases x:o=true/\(Q1 s).p%2=0<;>by_cases v:o=true/\(Q1 t).p%2=0;·rw[if_pos x,if_pos v];dsimp only;omega
 ·rw[if_pos x,if_neg v];have:¬(Q1 t).p%2=0:=λq=>v ⟨x.1,q⟩;dsimp only;omega
 ·rw[if_neg x,if_pos v];dsimp only;omega
 ·rw[if_neg x,if_neg v];omega
def JI{α β:Type}(r:α->β->Prop):List α->List β->Prop|[],[]=>True|a::as,b::bs=>r a b/\JI r as bs|_,_=>False
theorem Qhb{α β:Type}{r:α->β->Prop}:∀{as:List α}{bs:List β},JI r as bs->as.length=bs.length|[],[],_=>rfl|_::_,_::_,h=>by rw[length_cons,length_cons,Qhb h.2]|[],_::_,h=>h.elim|_::_,[],h=>h.elim
theorem Qay{α β:Type}{r:α->β->Prop}{a:α}{b:β}(hr:r a b):∀{as:List α}{bs:List β},JI r as bs->JI r (as++[a]) (bs++[b])|[],[],_=>⟨hr,trivial⟩|_::_,_::_,h=>⟨h.1,Qay hr h.2⟩|[],_::_,h=>h.elim|_::_,[],h=>h.elim
theorem Qhc{α β:Type}{r:α->β->Prop}:∀{as:List α}{bs:List β}(i:Nat){a:α}{b:β},JI r as bs->as[i]?=some a->bs[i]?=some b->r a b|[],[],i,a,b,_,h,_=>by simp at h|x::as,y::bs,0,a,b,h,h1,h2=>by simp at h1 h2;subst h1 h2;exact h.1|x::as,y::bs,i+1,a,b,h,h1,h2=>Qhc i h.2 (by simpa using h1) (by simpa using h2)|[],_::_,_,_,_,h,_,_=>h.elim|_::_,[],_,_,_,h,_,_=>h.elim
def Qiw(af:Int)(r1 r2:List Int):Prop:=JI (λa b=>1<=a/\a<=b/\b<=af) r1 r2
theorem Qtd{af:Int}{r1 r2:List Int}(h:Qiw af r1 r2)(k:Nat)(hk:k<r1.length):1<=r1.getD k 0/\r1.getD k 0<=r2.getD k 0/\r2.getD k 0<=af:=by have hl:=Qhb h;rw[getD_eq_getElem?_getD,getD_eq_getElem?_getD,getElem?_eq_getElem hk,getElem?_eq_getElem (by omega)];exact Qhc (r:=λa b=>1<=a/\a<=b/\b<=af) k h (getElem?_eq_getElem hk) (getElem?_eq_getElem (by omega))
theorem QjY{α β:Type}{r:α->β->Prop}:∀(k:Nat){as:List α}{bs:List β},JI r as bs->JI r (as.drop k) (bs.drop k)|0,_,_,h=>h|k+1,[],[],_=>trivial|k+1,_::_,_::_,h=>QjY k h.2|_+1,[],_::_,h=>h.elim|_+1,_::_,[],h=>h.elim
noncomputable def ItW:It->Prop|.word x _=>1<=x.length|_=>True
def QkA(w h:Int)(a b:List Plc×Nat×Sta):Prop:=JI Qaz a.1 b.1/\a.2.1=b.2.1/\ZB a.2.2 b.2.2/\J3 w h a.2.2/\J3 w h b.2.2
theorem QhV(w h af:Int)(r1 r2:List Int)(hr:Qiw af r1 r2)(hh:1<=h):∀(is:List It)(a b:List Plc×Nat×Sta),QkA w h a b->(∀i∈is,Qe7 af w h i)->(∀i∈is,ItW i)->a.2.1+(QQ is).length<=r1.length->QkA w h (is.foldl (QU w h r1) a) (is.foldl (QU w h r2) b)
 |[],a,b,c7,_,_,_=>c7|i::is,a,b,c7,hf,hw,hk=>by
  have key:QkA w h (QU w h r1 a i) (QU w h r2 b i):=by
   obtain⟨h1,h2,h3,h4,h5⟩:=c7;have fi:=hf i mem_cons_self;have wi:=hw i mem_cons_self;cases i with
   |word x ns=>
    have n1:1<=(x.length:Int)/\(x.length:Int)<=w:=⟨by have:1<=x.length:=wi;omega,fi.1⟩;have nr:0<=(ns.length:Int)/\(ns.length:Int)<h:=⟨by omega,by have:=fi.2.1;omega⟩;obtain⟨m1,m2⟩:=QfI h4 h5 h3 ⟨n1.1,Int.le_refl _,n1.2⟩ nr;exact⟨Qay m1 h1,h2,m2,Qb0 h4 n1 nr,Qb0 h5 n1 nr⟩|ref l x y=>
    have cM:a.2.1<r1.length:=by
     have:(QQ (It.ref l x y::is)).length=1+(QQ is).length:=by unfold QQ;rw[List.filter_cons_of_pos rfl];simp;omega
     omega
    have g:=Qtd hr a.2.1 cM;have fi':(x.length:Int)+af+y.length<=w:=fi;have e:b.2.1=a.2.1:=h2.symm;have nr:0<=(0:Int)/\(0:Int)<h:=⟨Int.le_refl _,by omega⟩;obtain⟨m1,m2⟩:=QfI (n:=(x.length:Int)+r1.getD a.2.1 0+y.length) (m:=(x.length:Int)+r2.getD a.2.1 0+y.length) h4 h5 h3 ⟨by omega,by omega,by omega⟩ nr;show QkA w h (a.1++[(QB w h a.2.2 ((x.length:Int)+r1.getD a.2.1 0+y.length) 0).1],a.2.1+1,(QB w h a.2.2 ((x.length:Int)+r1.getD a.2.1 0+y.length) 0).2) (b.1++[(QB w h b.2.2 ((x.length:Int)+r2.getD b.2.1 0+y.length) 0).1],b.2.1+1,(QB w h b.2.2 ((x.length:Int)+r2.getD b.2.1 0+y.length) 0).2);rw[e];exact⟨Qay m1 h1,rfl,m2,Qb0 h4 ⟨by omega,by omega⟩ nr,Qb0 h5 ⟨by omega,by omega⟩ nr⟩|mark l=>exact⟨h1,h2,h3,h4,h5⟩|key l=>exact⟨h1,h2,h3,h4,h5⟩
  refine QhV w h af r1 r2 hr hh is _ _ key (λx hx=>hf x (mem_cons_of_mem _ hx)) (λx hx=>hw x (mem_cons_of_mem _ hx)) ?_;have e:(QU w h r1 a i).2.1+(QQ is).length=a.2.1+(QQ (i::is)).length:=by
   have:(QQ (i::is)).length=(if Jk i then 1 else 0)+(QQ is).length:=by unfold QQ;rw[filter_cons];split<;>simp<;>omega
   rw[this];cases i<;>simp[QU,Jk]<;>omega
  omega
def BkW(h:Int):Bk->Prop|.heading _ k _=>0<=k/\1+k<=h|.table rs _=>1<=rs.length/\(rs.length:Int)<=h|.plates n _=>1<=n|.para is=>∀i∈is,ItW i|_=>True
theorem Qa9{w h p:Int}(hw:0<=w)(hh:1<=h):J3 w h (JP p):=by unfold J3 JP;dsimp only;omega
theorem Qod{p q:Int}(h:p<=q):ZB (JP p) (JP q):=by unfold ZB JP;dsimp only;omega
theorem Qa0(o:Bool)(s:Sta):QZ o s=JP (QZ o s).p:=by have h:=QcQ o s;generalize QZ o s=t at*;obtain⟨p,l,u,f⟩:=t;obtain⟨_,_,rfl,rfl,rfl⟩:=h;rfl
theorem QpI(w h:Int)(o:Bool)(b:Bk){s t:Sta}(hw:0<=w)(hh:1<=h)(hs:J3 w h s)(ht:J3 w h t)(hl:ZB s t)(hp:Vf b=false)(hb:BkW h b):Qaz (QX h o s b).1 (QX h o t b).1/\ZB (QX h o s b).2 (QX h o t b).2/\J3 w h (QX h o s b).2/\J3 w h (QX h o t b).2:=by cases b with
 |para is=>cases hp|plates n l=>
  have:=QfJ hs ht hl;refine⟨? _,Qod (by omega),Qa9 hw hh,Qa9 hw hh⟩;show(Q1 s).p<(Q1 t).p\/(Q1 s).p=(Q1 t).p/\((0:Int)<0\/(0:Int)=0/\(0:Int)<=0);omega|table rs l=>
  obtain⟨b1,b2⟩:=hb;obtain⟨m1,m2⟩:=QbS hs ht hl (a:=rs.length) (b:=0) (by omega) (by omega) (by omega);exact⟨m1,m2,YC hs (by omega) (by omega) (by omega),YC ht (by omega) (by omega) (by omega)⟩|heading x k l=>obtain⟨b1,b2⟩:=hb;obtain⟨m1,m2⟩:=QbS hs ht hl (a:=1) (b:=k) (by omega) (by omega) (by omega);exact⟨m1,m2,YC hs (by omega) (by omega) (by omega),YC ht (by omega) (by omega) (by omega)⟩|chapter x l=>
  have nc:=Qin o hs ht hl;have e1:=Qa0 o s;have e2:=Qa0 o t;have s1:J3 w h (QZ o s):=by rw[e1];exact Qa9 hw hh
  have s2:J3 w h (QZ o t):=by rw[e2];exact Qa9 hw hh
  have l1:ZB (QZ o s) (QZ o t):=by rw[e1,e2];exact Qod nc
  obtain⟨m1,m2⟩:=QbS s1 s2 l1 (a:=1) (b:=0) (by omega) (by omega) (by omega);exact⟨m1,m2,YC s1 (by omega) (by omega) (by omega),YC s2 (by omega) (by omega) (by omega)⟩
def QkE(w h:Int)(a b:List (List Plc)×Sta×Nat):Prop:=JI (JI Qaz) a.1 b.1/\ZB a.2.1 b.2.1/\a.2.2=b.2.2/\J3 w h a.2.1/\J3 w h b.2.1
theorem QjR(w h af:Int)(o:Bool)(r1 r2:List Int)(hr:Qiw af r1 r2)(hw:0<=w)(hh:1<=h):∀(bs:List Bk)(a b:List (List Plc)×Sta×Nat),QkE w h a b->(∀x∈bs,Qa7 af w h x)->(∀x∈bs,BkW h x)->a.2.2+(rO bs).length<=r1.length->QkE w h (bs.foldl (Qu w h o r1) a) (bs.foldl (Qu w h o r2) b)
 |[],a,b,c7,_,_,_=>c7|x::bs,a,b,c7,hf,ip,hk=>by
  have rl:(rO (x::bs)).length=(QQ (iO x)).length+(rO bs).length:=by unfold rO;rw[flatMap_cons,length_append]
  have key:QkE w h (Qu w h o r1 a x) (Qu w h o r2 b x)/\(Qu w h o r1 a x).2.2=a.2.2+(QQ (iO x)).length:=by
   obtain⟨h1,h2,h3,h4,h5⟩:=c7;have other:Vf x=false->Qu w h o r1 a x=(a.1++[[(QX h o a.2.1 x).1]],(QX h o a.2.1 x).2,a.2.2)->Qu w h o r2 b x=(b.1++[[(QX h o b.2.1 x).1]],(QX h o b.2.1 x).2,b.2.2)->iO x=[]->QkE w h (Qu w h o r1 a x) (Qu w h o r2 b x)/\(Qu w h o r1 a x).2.2=a.2.2+(QQ (iO x)).length:=by
    intro hp e1 e2 e3;obtain⟨m1,m2,m3,m4⟩:=QpI w h o x hw hh h4 h5 h2 hp (ip x mem_cons_self);rw[e1,e2,e3];exact⟨⟨Qay ⟨m1,trivial⟩ h1,m2,h3,m3,m4⟩,rfl⟩
   cases x with
   |para is=>
    have dl:Qiw af (r1.drop a.2.2) (r2.drop a.2.2):=QjY _ hr;have im:=QhV w h af (r1.drop a.2.2) (r2.drop a.2.2) dl hh is ([],0,a.2.1) ([],0,b.2.1) ⟨trivial,rfl,h2,h4,h5⟩ (hf _ mem_cons_self) (ip _ mem_cons_self) (by rw[length_drop];have:(QQ (iO (.para is))).length=(QQ is).length:=rfl;simp only[];omega);obtain⟨i1,i2,i3,i4,i5⟩:=im;have e2:Qu w h o r2 b (.para is)=(b.1++[(Jt w h b.2.1 (r2.drop a.2.2) is).1],endLine (Jt w h b.2.1 (r2.drop a.2.2) is).2.2,a.2.2+(QQ is).length):=by rw[h3];rfl
    rw[e2];exact⟨⟨Qay i1 h1,QfL i4 i5 i3,rfl,(QaS i4).1,(QaS i5).1⟩,rfl⟩|chapter t l=>exact other rfl rfl rfl rfl|heading t k l=>exact other rfl rfl rfl rfl|table rs l=>exact other rfl rfl rfl rfl|plates n l=>exact other rfl rfl rfl rfl
  refine QjR w h af o r1 r2 hr hw hh bs _ _ key.1 (λy hy=>hf y (mem_cons_of_mem _ hy)) (λy hy=>ip y (mem_cons_of_mem _ hy)) ?_;rw[key.2];omega
theorem QjX{α:Type}{r:α->α->Prop}(h:∀a,r a a):∀xs:List α,JI r xs xs|[]=>trivial|x::xs=>⟨h x,QjX h xs⟩
theorem Qdz{α β:Type}{r:α->β->Prop}:∀{as:List α}{bs:List β}{cs:List α}{ds:List β},JI r as bs->JI r cs ds->JI r (as++cs) (bs++ds)|[],[],_,_,_,h=>h|_::_,_::_,_,_,h1,h2=>⟨h1.1,Qdz h1.2 h2⟩|[],_::_,_,_,h,_=>h.elim|_::_,[],_,_,h,_=>h.elim
theorem QvN{a b:Plc}(h:Qaz a b):a.p<=b.p:=by unfold Qaz at h;omega
def QgC(x y:Str×Int):Prop:=x.1=y.1/\x.2<=y.2
theorem QnU{xs ys:List Plc}(h:JI Qaz xs ys)(k:Nat):(xs.getD k ⟨0,0,0⟩).p<=(ys.getD k ⟨0,0,0⟩).p:=by
 have hl:=Qhb h;rw[getD_eq_getElem?_getD,getD_eq_getElem?_getD];rcases lt_or_ge k xs.length with hk|hk
 ·rw[getElem?_eq_getElem hk,getElem?_eq_getElem (by omega)];exact QvN (Qhc k h (getElem?_eq_getElem hk) (getElem?_eq_getElem (by omega)))
 ·rw[getElem?_eq_none hk,getElem?_eq_none (by omega)];exact Int.le_refl _
theorem QaN{xs ys:List Plc}(h:JI Qaz xs ys):∀(is:List It)(s t:List (Str×Int)×Nat),JI QgC s.1 t.1->s.2=t.2->JI QgC (is.foldl (ZJ xs) s).1 (is.foldl (ZJ ys) t).1|[],s,t,h1,_=>h1|i::is,s,t,h1,h2=>by rw[foldl_cons,foldl_cons];cases i with|mark l=>refine QaN h is _ _ ?_ h2;show JI QgC (s.1++[_]) (t.1++[(l,(ys.getD t.2 ⟨0,0,0⟩).p)]);rw[<-h2];exact Qay ⟨rfl,QnU h s.2⟩ h1|key l=>exact QaN h is s t h1 h2|word x ns=>exact QaN h is (s.1,s.2+1) (t.1,t.2+1) h1 (by simp only[];omega)|ref l x y=>exact QaN h is (s.1,s.2+1) (t.1,t.2+1) h1 (by simp only[];omega)
theorem Qpk(b:Bk){xs ys:List Plc}(h:JI Qaz xs ys):JI QgC (JK (b,xs)) (JK (b,ys)):=by
 unfold JK;refine Qdz ?_ (QaN h (iO b) ([],0) ([],0) trivial rfl);show JI QgC (if J8 b=""then[]else[(J8 b,_)]) (if J8 b=""then[]else[(J8 b,_)]);split;·trivial
 ·exact⟨⟨rfl,QnU h 0⟩,trivial⟩
theorem QnP:∀(bs:List Bk)(r1 r2:List (List Plc)),JI (JI Qaz) r1 r2->JI QgC ((bs.zip r1).flatMap JK) ((bs.zip r2).flatMap JK)|[],_,_,_=>by simp[JI]|b::bs,[],[],_=>by simp[JI]|b::bs,x::r1,y::r2,h=>by rw[zip_cons_cons,zip_cons_cons,flatMap_cons,flatMap_cons];exact Qdz (Qpk b h.1) (QnP bs r1 r2 h.2)|_::_,[],_::_,h=>h.elim|_::_,_::_,[],h=>h.elim
theorem Qjs:∀{kv gU:List (Str×Int)}{l:Str},JI QgC kv gU->l∈kv.map (·.1)->ZZ kv l<=ZZ gU l
 |[],[],l,_,h=>by simp at h|(a,p)::kv,(b,q)::gU,l,h,hl=>by
  obtain⟨⟨e,kN⟩,h2⟩:=h;have e':a=b:=e;have iV:p<=q:=kN;subst e';have st:∀(a:Str)(p:Int)(kv:List (Str×Int)),D.dget (Zj ((a,p)::kv)) (.str l)=if a=l then some (.int p)else D.dget (Zj kv) (.str l):=by
   intro a p kv;show(if(Sum.inr a:Kd)=.inr l then some (D.int p)else Qck _ _ _)=_;by_cases z:a=l;·rw[if_pos z,if_pos (by rw[z])]
   ·rw[if_neg z,if_neg (by simpa using z)];rfl
  unfold ZZ;rw[st,st];by_cases z:a=l;·rw[if_pos z,if_pos z];exact iV
  ·rw[if_neg z,if_neg z];have dI:l∈kv.map (·.1):=by
    rcases List.mem_cons.mp (show l∈a::kv.map (·.1)from hl)with w|w;·exact absurd w.symm z
    ·exact w
   exact Qjs h2 dI|[],_::_,_,h,_=>h.elim|_::_,[],_,h,_=>h.elim
theorem Qrk{n m:Nat}(h:n<=m):Yd n<=Yd m:=(Nat.length_toDigits_le_iff (by decide) (QcL m)).mpr (lt_of_le_of_lt h (Qn3 m))
theorem QlK(w h:Int)(hw:0<=w)(hh:1<=h):∀(bs:List Bk)(s:List Plc×Sta),J3 w h s.2->J3 w h (bs.foldl (Jv h) s).2
 |[],s,hs=>hs|b::bs,s,hs=>by
  rw[foldl_cons];refine QlK w h hw hh bs _ ?_;unfold Jv;split;·exact YC hs (by omega) (by omega) (by omega)
  ·exact hs
theorem Qgq(w h:Int)(o li:Bool)(bs:List Bk)(hw:0<=w)(hh:1<=h):J3 w h (QP h o li bs).2:=by
 unfold QP;split
 ·have:=QlK w h hw hh bs ([],JP 1) (Qa9 hw hh);show J3 w h (if _ then _ else _:Sta);split;·rw[Qa0];exact Qa9 hw hh
  ·exact this
 ·exact Qa9 hw hh
theorem Ql4(w h af:Int)(o li:Bool)(r1 r2:List Int)(bs:List Bk)(hr:Qiw af r1 r2)(hw:0<=w)(hh:1<=h)(hf:∀x∈bs,Qa7 af w h x)(hb:∀x∈bs,BkW h x)(hk:(rO bs).length<=r1.length):JI (JI Qaz) (Qar w h o li r1 bs).1 (Qar w h o li r2 bs).1:=by have:=QjR w h af o r1 r2 hr hw hh bs ([(QP h o li bs).1],(QP h o li bs).2,0) ([(QP h o li bs).1],(QP h o li bs).2,0) ⟨⟨QjX QqL _,trivial⟩,Qmo _,rfl,Qgq w h o li bs hw hh,Qgq w h o li bs hw hh⟩ hf hb (by simp only[];omega);exact this.1
noncomputable def S0(ns:List Int):D:=sty (dW ns) (dH ns) (dO ns) (dLi ns)
noncomputable def QeY(ns rs:List Int):List (List Plc):=(Qar (dW ns) (dH ns) (dO ns) (dLi ns) rs (Qo ns)).1
noncomputable def kvR(ns rs:List Int):List (Str×Int):=((Qo ns).zip (QeY ns rs).tail).flatMap JK
noncomputable def Z6(ns rs:List Int):List Int:=(rO (Qo ns)).map λl=>(Yd (ZZ (kvR ns rs) l).toNat:Int)
theorem Qe9(ns rs:List Int)(hr:rs.length=(rO (Qo ns)).length):Yu [bks (Qo ns),S0 ns,.lst (rs.map .int)]=some (Jc (QeY ns rs))/\Yl [bks (Qo ns),Jc (QeY ns rs)]=some (Zj (kvR ns rs))/\(kvR ns rs).map (·.1)=Qp (Qo ns)/\∀x∈kvR ns rs,1<=x.2/\x.2<=Zo ns:=by
 have hh:=Qe4 ns;have sb:=QoY (dW ns) (dH ns) (dO ns) (dLi ns) rs (Qo ns) (Qap ns) (by omega) (λb hb=>(Qcr ns b hb).2.1);obtain⟨c,rows,e1,e2,e3⟩:=Qjp (dW ns) (dH ns) (dO ns) (dLi ns) rs (Qo ns) (by omega) (λb hb=>(Qcr ns b hb).2.2);rw[QjM]at e3;have lp:=Qkh (Qo ns) c rows (Qap ns) e2 (QjN ns) (λq hq=>(e3 q hq).1) (Qb8 ns);unfold kvR QeY;refine⟨sb,?_⟩;rw[e1];refine⟨lp,?_,λx hx=>?_⟩;·show(((Qo ns).zip rows).flatMap JK).map (·.1)=_;rw[Qa1 ZR JK Qgo,Qix _ _ e2];rfl
 ·obtain⟨q,hq,dZ⟩:=List.mem_flatMap.mp hx;exact Qrd (Zo ns) q (e3 q hq).1 (e3 q hq).2 (Qb8 ns q.1 (of_mem_zip hq).1) x dZ
theorem QnW(ns rs:List Int)(hr:rs.length=(rO (Qo ns)).length):ZQ [bks (Qo ns),S0 ns,.lst (rs.map .int)]=some (.lst ((Z6 ns rs).map .int)):=by obtain⟨h1,h2,h3,h4⟩:=Qe9 ns rs hr;exact Qng ns rs hr _ _ h1 h2 h3 h4
theorem QgX(ns rs:List Int):(Z6 ns rs).length=(rO (Qo ns)).length:=by unfold Z6;rw[length_map]
theorem QlA(ns rs:List Int)(hr:rs.length=(rO (Qo ns)).length):Y0 (dR ns) (Z6 ns rs):=by obtain⟨h1,h2,h3,h4⟩:=Qe9 ns rs hr;intro x hx;obtain⟨l,hl,rfl⟩:=List.mem_map.mp hx;have:=Qvk ns _ h3 h4 l hl;exact⟨this.2.2.2.1,this.2.2.2.2⟩
abbrev leL(xs ys:List Int):Prop:=JI (λa b:Int=>a<=b) xs ys
theorem QlQ{α β γ:Type}{r:β->γ->Prop}{f:α->β}{g:α->γ}:∀{xs:List α},(∀x∈xs,r (f x) (g x))->JI r (xs.map f) (xs.map g)|[],_=>trivial|x::xs,h=>⟨h x (by simp),QlQ λy hy=>h y (by simp[hy])⟩
theorem QrF{α β:Type}{r:α->β->Prop}:∀{as:List α}{bs:List β},JI r as bs->JI r as.tail bs.tail|[],[],_=>trivial|_::_,_::_,h=>h.2|[],_::_,h=>h.elim|_::_,[],h=>h.elim
theorem Qnz{af:Int}:∀{r1 r2:List Int},Y0 af r1->Y0 af r2->leL r1 r2->Qiw af r1 r2|[],[],_,_,_=>trivial|a::r1,b::r2,h1,h2,h=>⟨⟨(h1 a (by simp)).1,h.1,(h2 b (by simp)).2⟩,Qnz (λx hx=>h1 x (by simp[hx])) (λx hx=>h2 x (by simp[hx])) h.2⟩|[],_::_,_,_,h=>h.elim|_::_,[],_,_,h=>h.elim
theorem QwK(n:Int)(h:1<=n):1<=(YV (Str.ofString "w") n).length:=by rw[Qkm];omega
theorem QwI(ns:List Int):∀b∈Qo ns,BkW (dH ns) b:=by
 intro b hb;have ft:=Qg1 ns b hb;have hh:=Qe4 ns;have pl:=(Qcr ns b hb).2.2;unfold Qo at hb;rcases List.mem_append.mp hb with z|z
 ·unfold Z0 at z;split at z;·cases z
  ·simp only[mem_cons,not_mem_nil,or_false]at z;rcases z with q|q|q<;>subst q;·exact pl _ _ rfl
   ·refine⟨by simp;omega,by simp;omega⟩
   ·intro i hi;simp only[mem_cons,not_mem_nil,or_false]at hi;rcases hi with q|q|q<;>subst q
    ·refine QwK _ ?_;split<;>omega
    ·trivial
    ·trivial
 ·have hB:=Qhr ns b z;cases b with
  |chapter t l=>trivial|heading t k l=>exact⟨hB.2.1,by have:=ft.2;omega⟩|table rs l=>exact⟨hB.1.1,ft.1⟩|plates n l=>exact hB.1|para is=>intro i hi;have:=hB i hi;cases i with|word x n=>exact this.1.1|_=>trivial
theorem Qqx(ns r1 r2:List Int)(hr:r1.length=(rO (Qo ns)).length)(h1:Y0 (dR ns) r1)(h2:Y0 (dR ns) r2)(h:leL r1 r2):JI (JI Qaz) (QeY ns r1) (QeY ns r2):=by have hw:=QkG ns;have hh:=Qe4 ns;exact Ql4 (dW ns) (dH ns) (dR ns) (dO ns) (dLi ns) r1 r2 (Qo ns) (Qnz h1 h2 h) (by omega) (by omega) (Qg1 ns) (QwI ns) (by omega)
theorem Qrg(ns r1 r2:List Int)(hr:r1.length=(rO (Qo ns)).length)(h1:Y0 (dR ns) r1)(h2:Y0 (dR ns) r2)(h:leL r1 r2):leL (Z6 ns r1) (Z6 ns r2):=by refine QlQ λl hl=>?_;obtain⟨_,_,k1,_⟩:=Qe9 ns r1 hr;have:=Qjs (QnP (Qo ns) _ _ (QrF (Qqx ns r1 r2 hr h1 h2 h))) (l:=l) (show l∈(kvR ns r1).map (·.1)by rw[k1];exact Qfz ns l hl);have q:ZZ (kvR ns r1) l<=ZZ (kvR ns r2) l:=this;have:=Qrk (n:=(ZZ (kvR ns r1) l).toNat) (m:=(ZZ (kvR ns r2) l).toNat) (by omega);show(Yd (ZZ (kvR ns r1) l).toNat:Int)<=(Yd (ZZ (kvR ns r2) l).toNat:Int);omega
theorem QjA:∀{xs ys zs:List Int},leL xs ys->leL ys zs->leL xs zs|[],[],[],_,_=>trivial|_::_,_::_,_::_,h1,h2=>⟨Int.le_trans h1.1 h2.1,QjA h1.2 h2.2⟩|[],[],_::_,_,h=>h.elim|[],_::_,_,h,_=>h.elim|_::_,[],_,h,_=>h.elim|_::_,_::_,[],_,h=>h.elim
theorem QnM:∀{xs ys:List Int},leL xs ys->xs.sum<=ys.sum/\(xs≠ys->xs.sum<ys.sum)
 |[],[],_=>⟨Int.le_refl _,λh=>absurd rfl h⟩|x::xs,y::ys,h=>by
  have ih:=QnM h.2;have h1:x<=y:=h.1;rw[sum_cons,sum_cons];refine⟨by omega,λne=>?_⟩;by_cases e:xs=ys
  ·have:x≠y:=λq=>ne (by rw[q,e]);omega
  ·have:=ih.2 e;omega|[],_::_,h=>h.elim|_::_,[],h=>h.elim
theorem Qoa{af:Int}:∀{xs:List Int},Y0 af xs->(xs.length:Int)<=xs.sum/\xs.sum<=xs.length*af
 |[],_=>by simp|x::xs,h=>by
  have ih:=Qoa (af:=af) (xs:=xs) λy hy=>h y (by simp[hy]);have hx:=h x (by simp);rw[sum_cons,length_cons];have e:((xs.length+1:Nat):Int)*af=xs.length*af+af:=by rw[Int.natCast_add,Int.add_mul];simp
  rw[e];constructor;·have:=ih.1;omega
  ·have:=ih.2;omega
theorem Qk9{c:EvE}{b:EvS}{env:List Int->Qj}{F:List Int->List Int}{I:List Int->Prop}{m:List Int->Nat}(hs:∀rs,I rs->F rs=rs->c (env rs)=some (.bl false))(hg:∀rs,I rs->F rs≠rs->c (env rs)=some (.bl true)/\b (env rs)=some (.nx (env (F rs)))/\I (F rs)/\m (F rs)<m rs):∀(k:Nat)(rs:List Int),I rs->m rs<=k->∃r,Vd c b (k+1) (env rs)=some (.nx (env r))/\I r/\F r=r
 |k,rs,hI,hm=>by
  by_cases e:F rs=rs
  ·refine⟨rs,?_,hI,e⟩;show ifO (c (env rs)) _ _=_;rw[hs rs hI e];rfl
  ·obtain⟨h1,h2,h3,h4⟩:=hg rs hI e;cases k with|zero=>omega|succ k=>obtain⟨r,g1,g2,g3⟩:=Qk9 hs hg k (F rs) h3 (by omega);refine⟨r,?_,g2,g3⟩;show ifO (c (env rs)) (YX (b (env rs)) (Vd c b (k+1))) _=_;rw[h1,h2];exact g1
theorem QnZ:∀xs ys:List Int,D.eqL (xs.map .int) (ys.map .int)=some (decide (xs=ys))|[],[]=>by rw[map_nil,Jr];simp|x::xs,y::ys=>by rw[map_cons,map_cons,Jj,QC,QnZ xs ys,Q7];congr 1;by_cases a:x=y<;>by_cases b:xs=ys<;>simp[a,b]|[],y::ys=>by simp[D.eqL]|x::xs,[]=>by simp[D.eqL]
theorem QnH(xs ys:List Int):D.neO (.lst (xs.map .int)) (.lst (ys.map .int))=some (.bl (decide (xs≠ys))):=by unfold D.neO;rw[if_pos (by rw[Q6];have:=Y4 (f:=D.int) (n:=0) (λa=>by rw[Qr];exact le_refl _) xs;omega),JQ,QnZ];by_cases a:xs=ys<;>simp[a,D.cmpN]
theorem QpP{e:Qj}{a:D}{k:EvS}{r:Option Fl}{ns:List Int}(h0:e[0]?=some (some (bks (Qo ns))))(h1:e[1]?=some (some (S0 ns)))(hk:k e=r):sQ (J5 (eK QbF (lC (eV 0) (lC (eV 1) lN)))) k e=r:=by refine st (e1:=e) ?_ hk;have hR:eK QbF (lC (eV 0) (lC (eV 1) lN)) e=some .non:=ZX (show eV 0 e=_ by unfold eV;rw[h0];rfl) (show eV 1 e=_ by unfold eV;rw[h1];rfl) (Qxk ns);unfold J5;rw[hR];rfl
theorem Qut(ns rs:List Int)(hr:rs.length=(rO (Qo ns)).length):QhC [bks (Qo ns),S0 ns,.lst (rs.map .int)]=some (Jc (QeY ns rs)):=by have:=(Qe9 ns rs hr).1;unfold QhC QkX;refine stD rfl (QpP (a:=.non) rfl rfl (ret (ZH rfl rfl rfl this)))
theorem QlB(ns:List Int):(rO (Qo ns)).length<=200:=by
 have h1:=(Qao ns (dW ns) (dH ns) (dLi ns)).2;have h2:=(QdV ns).2;have h3:=QeA (Qo ns);have h4:((Qo ns).flatMap iO).length<=200:=by
  unfold Qo;rw[flatMap_append,length_append];omega
 omega
theorem Qsa(ns:List Int):((rO (Qo ns)).length:Int)*dR ns<=8400:=by have h1:=QlB ns;have h2:=Qcf ns;have:((rO (Qo ns)).length:Int)*dR ns<=200*42:=Int.mul_le_mul (by omega) h2.2 (by omega) (by omega);omega
def Box(ns rs:List Int):Prop:=rs.length=(rO (Qo ns)).length/\Y0 (dR ns) rs
theorem Box.fig{ns rs:List Int}(h:Box ns rs):Box ns (Z6 ns rs):=⟨QgX ns rs,QlA ns rs h.1⟩
theorem Box.mono{ns r1 r2:List Int}(h1:Box ns r1)(h2:Box ns r2)(h:leL r1 r2):leL (Z6 ns r1) (Z6 ns r2):=Qrg ns r1 r2 h1.1 h1.2 h2.2 h
theorem Box.sum{ns rs:List Int}(h:Box ns rs):0<=rs.sum/\rs.sum<=(rO (Qo ns)).length*dR ns:=by have:=Qoa h.2;rw[h.1]at this;omega
theorem Qwb{xs ys:List Int}(h:leL xs ys)(ne:ys≠xs):xs.sum<ys.sum:=(QnM h).2 λe=>ne e.symm
theorem QmF(ns first:List Int)(I:List Int->Prop)(m:List Int->Nat)(hI:∀rs,I rs->Box ns rs)(hg:∀rs,I rs->Z6 ns rs≠rs->I (Z6 ns rs)/\m (Z6 ns rs)<m rs)(hm:m first<=9000)(h0:I first):∃r,Qc5 [bks (Qo ns),S0 ns,.lst (first.map .int)]=some (.lst (r.map .int))/\I r/\Z6 ns r=r:=by obtain⟨r,h1,h2,h3⟩:=Qk9 (c:=eOp D.neO (eV 4) (eV 3)) (b:=sQ (Qc (eV 4) (gS 3)) (Qc (eK ZQ (lC (eV 0) (lC (eV 1) (lC (eV 3) lN)))) (gS 4))) (env:=λrs=>[some (bks (Qo ns)),some (S0 ns),some (.lst (first.map .int)),some (.lst (rs.map .int)),some (.lst ((Z6 ns rs).map .int))]) (F:=Z6 ns) (I:=I) (m:=m) (λrs h e=>opE rfl rfl (by rw[QnH];simp[e])) (λrs h e=>⟨opE rfl rfl (by rw[QnH];simp[e]),st (e1:=[some (bks (Qo ns)),some (S0 ns),some (.lst (first.map .int)),some (.lst ((Z6 ns rs).map .int)),some (.lst ((Z6 ns rs).map .int))]) rfl (asg (ZH rfl rfl rfl (QnW ns (Z6 ns rs) (QgX ns rs))) rfl),hg rs h e⟩) 9000 first h0 hm;refine⟨r,?_,h2,h3⟩;have fa:=QnW ns first (hI first h0).1;unfold Qc5 QfB;refine stD rfl ?_;refine st (e1:=[some (bks (Qo ns)),some (S0 ns),some (.lst (first.map .int)),some (.lst (first.map .int)),none]) rfl ?_;refine st (e1:=[some (bks (Qo ns)),some (S0 ns),some (.lst (first.map .int)),some (.lst (first.map .int)),some (.lst ((Z6 ns first).map .int))]) (asg (ZH rfl rfl rfl fa) rfl) ?_;refine st (e1:=[some (bks (Qo ns)),some (S0 ns),some (.lst (first.map .int)),some (.lst (r.map .int)),some (.lst ((Z6 ns r).map .int))]) ?_ (ret rfl);have h9:=Qgh _ _ (9000+1) 100000 (by omega) _ _ h1;exact h9
theorem Qui{xs:List D}{n:Int}(h:-1073741824<n/\n<1073741824/\xs.length*n.toNat<=lI):D.mulA (.lst xs) (.int n)=some (.lst (List.replicate n.toNat xs).flatten):=if_pos h
theorem Qw4(i:Int)(n:Nat)(h:n<=200):D.mulA (.lst [.int i]) (.int n)=some (.lst ((List.replicate n i).map .int)):=by
 have e:D.mulA (.lst [.int i]) (.int n)=some (.lst (List.replicate (n:Int).toNat [D.int i]).flatten):=Qui ⟨by omega,by omega,lB (by simp;omega)⟩;rw[e];have:(List.replicate (n:Int).toNat [D.int i]).flatten=(List.replicate n i).map D.int:=by simp
 rw[this]
theorem Quq(ns:List Int){e:Qj}(h0:e[0]?=some (some (bks (Qo ns)))):eUn D.len (eK Z4 (lC (eV 0) lN)) e=some (.int (rO (Qo ns)).length):=by have hR:eK Z4 (lC (eV 0) lN) e=some (QH (rO (Qo ns))):=QN (show eV 0 e=_ by unfold eV;rw[h0];rfl) (Qf7 (Qo ns) (Qap ns));refine unE hR ?_;show some (D.int ((rO (Qo ns)).map D.str).length)=_;rw[length_map]
theorem Qha{r:Int->Int->Prop}{x:Int}:∀{ys:List Int}{n:Nat},ys.length=n->(∀y∈ys,r x y)->JI r (List.replicate n x) ys|[],n,h,_=>by cases h;trivial|y::ys,n,h,hr=>by cases h;exact⟨hr y (by simp),Qha rfl λz hz=>hr z (by simp[hz])⟩
theorem Qob(ns:List Int)(x:Int)(h:1<=x/\x<=dR ns):Box ns (List.replicate (rO (Qo ns)).length x):=⟨by simp,λr hr=>by rw[List.eq_of_mem_replicate hr];exact h⟩
theorem QsE(ns:List Int):∃r,QdS [bks (Qo ns),S0 ns]=some (.lst (r.map .int))/\Box ns r/\Z6 ns r=r/\∀e,Box ns e->leL (Z6 ns e) e->leL r e:=by have rt:=Qsa ns;have rb:=Qcf ns;obtain⟨r,h1,⟨h2,h3,h4⟩,h5⟩:=QmF ns (List.replicate (rO (Qo ns)).length 1) (λrs=>Box ns rs/\leL rs (Z6 ns rs)/\∀e,Box ns e->leL (Z6 ns e) e->leL rs e) (λrs=>(((rO (Qo ns)).length:Int)*dR ns-rs.sum).toNat) (λrs h=>h.1) (λrs⟨a,b,c⟩ne=>⟨⟨a.fig,a.mono a.fig b,λe he hf=>QjA (a.mono he (c e he hf)) hf⟩,by have:=Qwb b ne;have:=a.fig.sum;omega⟩) (by have:=(Qob ns 1 ⟨by omega,by omega⟩).sum;omega) ⟨Qob ns 1 ⟨by omega,by omega⟩,Qha (QgX ns _) λy hy=>(QlA ns _ (by simp) y hy).1,λe he _=>Qha he.1 λy hy=>(he.2 y hy).1⟩;refine⟨r,?_,h2,h5,h4⟩;unfold QdS QiU;refine stD rfl (QpP (a:=.non) rfl rfl (ret (ZH rfl rfl ?_ h1)));exact opE (x:=.lst [.int 1]) rfl (Quq ns rfl) (Qw4 1 _ (QlB ns))
theorem ixT(X:List (List Plc))(i:Nat)(h:i<X.length):D.ix (Jc X) (.int (0+(i:Int)))=some (Qt (X.getD i [])):=by have:=Qd8 (f:=Qt) X (0+(i:Int)) [] (by omega) (by omega);unfold Jc;rw[this];congr 3;omega
theorem Qei{α:Type}{P:List α->Prop}(h0:P [])(hs:∀l x,P l->P (l++[x]))(l:List α):P l:=by
 have:∀(qs ps:List α),P ps->P (ps++qs):=λqs=>by induction qs with
  |nil=>intro ps h;simpa using h|cons x qs ih=>intro ps h;have:=ih (ps++[x]) (hs ps x h);simpa using this
 simpa using this l [] h0
noncomputable def pg(k:Str)(ps:List (Str×Int)):List Int:=(ps.filter λx=>decide (x.1=k)).map (·.2)
def ddp(l:List Int):List Int:=l.foldl addI []
noncomputable def fkS(ks:List Str)(x:Str×Int):List Str:=if x.1∈ks then ks else ks++[x.1]
def fk(ps:List (Str×Int)):List Str:=ps.foldl fkS []
def MM(ps:List (Str×Int)):KM:=ps.foldl (λm x=>Jl m x.1 x.2) []
noncomputable def mkM(g:Str->List Int)(ks:List Str):KM:=ks.map λk=>(k,g k)
theorem QlR(g:Str->List Int)(x:Str)(i:Int):∀ks:List Str,ks.Nodup->x∈ks->Jl (mkM g ks) x i=mkM (λk=>if k=x then addI (g k) i else g k) ks
 |[],_,h=>by simp at h|k::ks,hn,h=>by
  have eX:=List.nodup_cons.mp hn;show(if k=x then(k,addI (g k) i)::mkM g ks else(k,g k)::Jl (mkM g ks) x i)=(k,if k=x then addI (g k) i else g k)::mkM _ ks;by_cases e:k=x
  ·rw[if_pos e,if_pos e];congr 1;unfold mkM;refine map_congr_left λy hy=>?_;have:y≠x:=λz=>eX.1 (e▸z▸hy);dsimp only;rw[if_neg this]
  ·rw[if_neg e,if_neg e,QlR g x i ks eX.2 ((List.mem_cons.mp h).resolve_left (Ne.symm e))]
theorem Qc7(x:Str)(i:Int):∀m:KM,x∉m.map (·.1)->Jl m x i=m++[(x,[i])]
 |[],_=>rfl|(y,l)::m,h=>by
  have h':¬(x=y\/x∈m.map (·.1)):=by simpa using h
  show(if y=x then _ else(y,l)::Jl m x i)=_;rw[if_neg λz=>h' (.inl z.symm),Qc7 x i m λz=>h' (.inr z)];rfl
theorem QeO(x:Str)(i:Int)(l:List Int):∀m:KM,x∉m.map (·.1)->Jl (m++[(x,l)]) x i=m++[(x,addI l i)]
 |[],_=>by show(if x=x then _ else _)=_;rw[if_pos rfl];rfl|(y,k)::m,h=>by
  have h':¬(x=y\/x∈m.map (·.1)):=by simpa using h
  show(if y=x then _ else(y,k)::Jl (m++[(x,l)]) x i)=_;rw[if_neg λz=>h' (.inl z.symm),QeO x i l m λz=>h' (.inr z)];rfl
theorem Qlr(g:Str->List Int)(ks:List Str):(mkM g ks).map (·.1)=ks:=by unfold mkM;rw[map_map];exact List.map_id _
theorem QiF(k:Str)(ps:List (Str×Int))(x:Str×Int):pg k (ps++[x])=if x.1=k then pg k ps++[x.2]else pg k ps:=by
 unfold pg;rw[filter_append,map_append];by_cases e:x.1=k;·rw[if_pos e];simp[e]
 ·rw[if_neg e];simp[e]
theorem QgZ(l:List Int)(i:Int):ddp (l++[i])=addI (ddp l) i:=by unfold ddp;rw[foldl_append];rfl
theorem QtW(k:Str)(ps:List (Str×Int))(h:k∉ps.map (·.1)):pg k ps=[]:=by unfold pg;rw[List.map_eq_nil_iff,List.filter_eq_nil_iff];intro x hx e;exact h (by simp at e;rw[<-e];exact List.mem_map_of_mem hx)
theorem Qf1(ps:List (Str×Int)):MM ps=mkM (λk=>ddp (pg k ps)) (fk ps)/\(fk ps).Nodup/\∀k,k∈fk ps↔k∈ps.map (·.1):=by
 refine Qei (P:=λps=>MM ps=mkM (λk=>ddp (pg k ps)) (fk ps)/\(fk ps).Nodup/\∀k,k∈fk ps↔k∈ps.map (·.1)) ⟨rfl,nodup_nil,by simp[fk]⟩ (λps x⟨h1,h2,h3⟩=>?_) ps;have eM:MM (ps++[x])=Jl (MM ps) x.1 x.2:=by unfold MM;rw[foldl_append];rfl
 have eF:fk (ps++[x])=fkS (fk ps) x:=by unfold fk;rw[foldl_append];rfl
 have mem:∀k,k∈(ps++[x]).map (·.1)↔k∈ps.map (·.1)\/k=x.1:=λk=>by simp
 rw[eM,eF,h1];unfold fkS;by_cases e:x.1∈fk ps
 ·rw[if_pos e,QlR _ _ _ _ h2 e];refine⟨?_,h2,λk=>?_⟩
  ·unfold mkM;refine map_congr_left λk hk=>?_;dsimp only;rw[QiF];by_cases z:k=x.1;·rw[if_pos z,if_pos z.symm,QgZ]
   ·rw[if_neg z,if_neg (Ne.symm z)]
  ·rw[mem,h3];exact⟨.inl,λw=>w.elim id λw=>w▸(h3 x.1).mp e⟩
 ·rw[if_neg e,Qc7 _ _ _ (by rw[Qlr];exact e)];refine⟨?_,?_,λk=>?_⟩
  ·unfold mkM;rw[map_append];congr 1;·refine map_congr_left λk hk=>?_;dsimp only;rw[QiF,if_neg (λ(z:x.1=k)=>e (by rw[z];exact hk))]
   ·rw[List.map_singleton];dsimp only;rw[QiF,if_pos rfl,QtW _ _ (λz=>e ((h3 _).mpr z))];rfl
  ·rw[nodup_append];exact⟨h2,by simp,λy hy z hz w=>by rw[List.mem_singleton.mp hz]at w;exact e (w▸hy)⟩
  ·rw[mem,mem_append,List.mem_singleton,h3]
noncomputable def Yj(m:KM)(x:Str×Int):KM:=match m.getLast? with|some l=>if l.1=x.1 then(if l.2.getLast?=some x.2 then m else m.dropLast++[(l.1,l.2++[x.2])])else m++[(x.1,[x.2])]|none=>m++[(x.1,[x.2])]
def DF(ps:List (Str×Int)):KM:=ps.foldl Yj []
theorem Qnh(m:KM)(x:Str×Int)(h:x.1∉m.map (·.1)):Yj m x=Jl m x.1 x.2:=by
 rw[Qc7 _ _ _ h];unfold Yj;split
 ·rename_i l e;rw[if_neg];intro z;exact h (z▸List.mem_map_of_mem (List.mem_of_getLast? e))
 ·rfl
theorem Qmt(m:KM)(x:Str×Int)(l:List Int)(h:x.1∉m.map (·.1)):Yj (m++[(x.1,l)]) x=Jl (m++[(x.1,l)]) x.1 x.2:=by rw[QeO _ _ _ _ h];unfold Yj;rw[getLast?_concat];simp only[if_true,List.dropLast_concat];unfold addI;split<;>rfl
theorem YM{α:Type}(l:List α)(h:l≠[]):∃r x,l=r++[x]:=⟨l.dropLast,l.getLast h,(List.dropLast_concat_getLast h).symm⟩
theorem QgV{a b:Str×Int}(h:J2 b a=false):Wd.ltS b.1 a.1=false:=by cases e:Wd.ltS b.1 a.1 with|false=>rfl|true=>rw[(VF b a).mpr (.inl e)]at h;cases h
theorem Qxq(ps:List (Str×Int))(hp:ps.Pairwise (leG J2)):DF ps=MM ps:=by
 refine(Qei (P:=λps=>ps.Pairwise (leG J2)->DF ps=MM ps/\(MM ps).getLast?.map (·.1)=ps.getLast?.map (·.1)) (λ_=>⟨rfl,rfl⟩) (λps x ih h=>?_) ps hp).1;have h':=List.pairwise_append.mp h;obtain⟨i1,i2⟩:=ih h'.1;have eM:MM (ps++[x])=Jl (MM ps) x.1 x.2:=by unfold MM;rw[foldl_append];rfl
 have eD:DF (ps++[x])=Yj (DF ps) x:=by unfold DF;rw[foldl_append];rfl
 obtain⟨m1,m2,m3⟩:=Qf1 ps;have keys:(MM ps).map (·.1)=fk ps:=by rw[m1,Qlr]
 rw[eD,i1,eM,getLast?_concat];by_cases e:x.1∈fk ps
 ·have b8:ps≠[]:=λz=>by subst z;simp[fk]at e
  obtain⟨r,y,rfl⟩:=YM ps b8;rw[getLast?_concat]at i2;have hy:y.1=x.1:=by
   obtain⟨z,hz,ez⟩:=List.mem_map.mp ((m3 x.1).mp e);have a1:Wd.ltS x.1 y.1=false:=QgV (h'.2.2 y (by simp) x (by simp));have a2:Wd.ltS y.1 z.1=false:=by
    rcases List.mem_append.mp hz with w|w;·exact QgV ((List.pairwise_append.mp h'.1).2.2 z w y (by simp))
    ·rw[List.mem_singleton.mp w];exact Qhy _
   rw[ez]at a2;exact(QdR a1 a2).symm
  have kj:MM (r++[y])≠[]:=λz=>by rw[z]at i2;cases i2
  obtain⟨m',l,em⟩:=YM _ kj;rw[em,getLast?_concat]at i2;have hl:l.1=x.1:=by
   have:l.1=y.1:=by simpa using i2
   rw[this,hy]
  have nd:(m'++[l]).map (·.1)=fk (r++[y]):=by rw[<-em];exact keys
  have nn:x.1∉m'.map (·.1):=λw=>by
   rw[<-nd,map_append,nodup_append]at m2;exact m2.2.2 x.1 w l.1 (by simp) hl.symm
  rw[em];obtain⟨lx,ll⟩:=l;have dI:lx=x.1:=hl;subst dI;refine⟨Qmt m' x ll nn,?_⟩;rw[QeO _ _ _ _ nn,getLast?_concat];rfl
 ·have nn:x.1∉(MM ps).map (·.1):=by rw[keys];exact e
  refine⟨Qnh _ x nn,?_⟩;rw[Qc7 _ _ _ nn,getLast?_concat];rfl
theorem Qxc(ps:List (Str×Int))(hp:ps.Pairwise (leG J2)):(fk ps).Pairwise (leG Wd.ltS):=by
 refine Qei (P:=λps=>ps.Pairwise (leG J2)->(fk ps).Pairwise (leG Wd.ltS)) (λ_=>.nil) (λps x ih h=>?_) ps hp;have h':=List.pairwise_append.mp h;have eF:fk (ps++[x])=fkS (fk ps) x:=by unfold fk;rw[foldl_append];rfl
 rw[eF];unfold fkS;split;·exact ih h'.1
 ·rw[List.pairwise_append];refine⟨ih h'.1,by simp,λa ha b hb=>?_⟩;obtain⟨z,hz,ez⟩:=List.mem_map.mp (((Qf1 ps).2.2 a).mp ha);rw[List.mem_singleton.mp hb,<-ez];exact QgV (h'.2.2 z hz x (by simp))
theorem le_int{a b:List Int}(hp:a.Perm b)(ha:a.Pairwise (·<=·))(hb:b.Pairwise (·<=·)):a=b:=hp.eq_of_pairwise (λx y _ _ h1 h2=>le_antisymm h1 h2) ha hb
theorem Qpi(ps:List (Str×Int))(hm:ps.Pairwise λa b=>a.2<=b.2):DF (ZK J2 ps)=mkM (λk=>ddp (pg k ps)) (ZK Wd.ltS (fk ps)):=by
 have up:=Qf2 (f:=J2) (λ_ _=>QiJ) (λ_ b _=>QgU b) ps;have pm:=Yq (f:=J2) ps;rw[Qxq _ up];obtain⟨m1,m2,m3⟩:=Qf1 (ZK J2 ps);obtain⟨k1,k2,k3⟩:=Qf1 ps;have ek:fk (ZK J2 ps)=ZK Wd.ltS (fk ps):=by
  refine QhK (f:=Wd.ltS) (λ_ _=>QdR) ?_ (Qxc _ up) (Qf2 (λ_ _=>Qhz) (λ_ b _=>Qf9 b) _);refine List.Perm.trans ?_ (Yq (f:=Wd.ltS) (fk ps)).symm;refine(List.perm_ext_iff_of_nodup m2 k2).mpr λk=>?_;rw[m3,k3];exact(pm.map _).mem_iff
 rw[m1,ek];unfold mkM;refine map_congr_left λk _=>?_;dsimp only;have:pg k (ZK J2 ps)=pg k ps:=by
  refine le_int ((pm.filter _).map _) ?_ ?_
  ·unfold pg;rw[pairwise_map];refine(up.filter _).imp_of_mem λ{a b}ha hb h=>?_;have e1:a.1=k:=by simpa using(List.mem_filter.mp ha).2
   have e2:b.1=k:=by simpa using(List.mem_filter.mp hb).2
   refine Int.not_lt.mp λz=>?_;unfold leG at h;rw[show J2 b a=true from(VF b a).mpr (.inr ⟨e2.trans e1.symm,z⟩)]at h;cases h
  ·unfold pg;rw[pairwise_map];exact hm.filter _
 rw[this]
noncomputable def kP:List Plc->List It->List (Str×Int)|_,[]=>[]|pls,.key w::is=>(w,(pls.getD 0 ⟨0,0,0⟩).p)::kP pls is|pls,.mark _::is=>kP pls is|pls,.word _ _::is=>kP pls.tail is|pls,.ref _ _ _::is=>kP pls.tail is
noncomputable def kE(pls:List Plc)(n:Nat):It->List (Str×Int)|.key w=>[(w,(pls.getD n ⟨0,0,0⟩).p)]|_=>[]
theorem Qqv(pls:List Plc)(n:Nat)(d:Plc):pls.tail.getD n d=pls.getD (n+1) d:=by cases pls<;>simp
theorem QnQ(pls:List Plc)(n:Nat)(x:It):kE pls.tail n x=kE pls (n+1) x:=by cases x with|key w=>show[(w,(pls.tail.getD n _).p)]=_;rw[Qqv];rfl|_=>rfl
theorem Qcb:∀(is:List It)(pls:List Plc)(x:It),kP pls (is++[x])=kP pls is++kE pls (QS is) x|[],pls,x=>by cases x<;>rfl|i::is,pls,x=>by rw[List.cons_append,Yr];cases i with|key w=>show(w,_)::kP pls (is++[x])=(w,_)::kP pls is++_;rw[Qcb is pls x,show(if QD (It.key w)then 1 else 0)+QS is=QS is by simp[QD,J9,Jk]];rfl|mark w=>show kP pls (is++[x])=kP pls is++_;rw[Qcb is pls x,show(if QD (It.mark w)then 1 else 0)+QS is=QS is by simp[QD,J9,Jk]]|word w ns=>show kP pls.tail (is++[x])=kP pls.tail is++_;rw[Qcb is pls.tail x,QnQ,show(if QD (It.word w ns)then 1 else 0)+QS is=QS is+1 by simp[QD,J9,Jk];omega]|ref l a b=>show kP pls.tail (is++[x])=kP pls.tail is++_;rw[Qcb is pls.tail x,QnQ,show(if QD (It.ref l a b)then 1 else 0)+QS is=QS is+1 by simp[QD,J9,Jk];omega]
theorem Qjx(is:List It)(x:It):QS (is++[x])=QS is+if QD x then 1 else 0:=by unfold QS;rw[filter_append,length_append];congr 1;by_cases e:QD x=true<;>simp[e]
theorem Qcp:∀(is:List It)(pls:List Plc),(kP pls is).length<=is.length|[],_=>le_refl _|i::is,pls=>by cases i with|key w=>have:=Qcp is pls;simp only[kP,length_cons];omega|mark w=>have:=Qcp is pls;simp only[kP,length_cons];omega|word w ns=>have:=Qcp is pls.tail;simp only[kP,length_cons];omega|ref l a b=>have:=Qcp is pls.tail;simp only[kP,length_cons];omega
theorem Qq6(is:List It)(pls:List Plc)(hl:is.length<=100000)(hp:QS is<=pls.length)(ht:Zp is):J4 [.lst (is.map It.d),Qt pls,.str "key"]=some (.lst ((kP pls is).map prs)):=by
 unfold J4 QaW;refine stD rfl ?_;refine st (e1:=[some (.lst (is.map It.d)),some (Qt pls),some (.str "key"),some (.lst (([]:List (Str×Int)).map prs)),none,none]) rfl ?_;refine st (e1:=[some (.lst (is.map It.d)),some (Qt pls),some (.str "key"),some (.lst (([]:List (Str×Int)).map prs)),some (.int 0),none]) rfl ?_;refine QaC It.d is (λi e=>∃a,e=[some (.lst (is.map It.d)),some (Qt pls),some (.str "key"),some (.lst ((kP pls (is.take i)).map prs)),some (.int (QS (is.take i))),a]) rfl ⟨none,rfl⟩ ?_ ?_
 ·rintro i hi e⟨a,rfl⟩;have h1:=Qcp (is.take i) pls;rw[length_take]at h1;have hT:=ht i hi;rw[take_succ_eq_append_getElem hi,Qcb,Qjx];have bh:=QcF is[i];generalize is[i]=x at*;generalize kP pls (is.take i)=kv at*;generalize QS (is.take i)=k at*;have bA:kv.length<lI:=Zv (by omega);have ap:=λy=>V4 (f:=prs) (xs:=kv) y bA;generalize D.lst (is.map It.d)=IS at*;cases x with
  |key l=>
   have hk:k<pls.length:=by have:=hT rfl;omega
   have px:D.ix (Qt pls) (.int k)=some (pls.getD k ⟨0,0,0⟩).d:=Qd8 (f:=Plc.d) pls k ⟨0,0,0⟩ (by omega) (by omega);obtain⟨q,eq⟩:∃q,pls.getD k ⟨0,0,0⟩=q:=⟨_,rfl⟩;have e1:kE pls k (.key l)=[(l,q.p)]:=by rw[<-eq];rfl
   rw[eq]at px;rw[e1];refine⟨[some IS,some (Qt pls),some (.str "key"),some (.lst ((kv++[(l,q.p)]).map prs)),some (.int k),some (It.key l).d],.inl ?_,some (It.key l).d,rfl⟩
   ·refine bnd (e1:=[some IS,some (Qt pls),some (.str "key"),some (.lst (kv.map prs)),some (.int k),some (It.key l).d]) rfl ?_;refine ifF (QN rfl bh) ?_;refine ifT (opE (x:=.str "key") (opE (x:=(It.key l).d) rfl rfl rfl) rfl (by rw[eqS];simp)) ?_;refine Qal (d:=prs (l,q.p)) rfl ?_ (ap _);have hq:D.ix q.d (.int 0)=some (.int q.p):=rfl;have hA:eOp D.ix (eOp D.ix (eV 1) (eV 4)) (eC (.int 0)) [some IS,some (Qt pls),some (.str "key"),some (.lst (kv.map prs)),some (.int k),some (It.key l).d]=some (.int q.p):=opE (opE rfl rfl px) rfl hq;simp only[Qm,lC,lN,hA];rfl|mark l=>
   refine⟨_,.inl (bnd (e1:=[some IS,some (Qt pls),some (.str "key"),some (.lst (kv.map prs)),some (.int k),some (It.mark l).d]) rfl (ifF (QN rfl bh) (ifF (opE (x:=.str "mark") (opE (x:=(It.mark l).d) rfl rfl rfl) rfl (by rw[eqS];simp)) rfl))),some (It.mark l).d,?_⟩;simp[kE,QD,J9,Jk]|word x ns=>refine⟨_,.inl (bnd (e1:=[some IS,some (Qt pls),some (.str "key"),some (.lst (kv.map prs)),some (.int k),some (It.word x ns).d]) rfl (ifT (QN rfl bh) rfl)),some (It.word x ns).d,?_⟩;simp[kE,QD,J9,Jk]|ref l x y=>refine⟨_,.inl (bnd (e1:=[some IS,some (Qt pls),some (.str "key"),some (.lst (kv.map prs)),some (.int k),some (It.ref l x y).d]) rfl (ifT (QN rfl bh) rfl)),some (It.ref l x y).d,?_⟩;simp[kE,QD,J9,Jk]
 ·rintro e⟨a,rfl⟩;rw[take_length];exact ret rfl
def Q8(bs:List Bk)(rows:List (List Plc)):List (Str×Int):=(bs.zip rows).flatMap λq=>kP q.2 (iO q.1)
def UpP(xs:List Plc):Prop:=xs.Pairwise λa b=>a.p<=b.p
theorem QcE(w h:Int)(ae:List Int):∀(is:List It)(s:List Plc×Nat×Sta),UpP s.1->(∀x∈s.1,x.p<=s.2.2.p)->UpP (is.foldl (QU w h ae) s).1
 |[],s,h1,h2=>h1|i::is,s,h1,h2=>by
  have wd:∀n r,UpP (s.1++[(QB w h s.2.2 n r).1])/\∀x∈s.1++[(QB w h s.2.2 n r).1],x.p<=(QB w h s.2.2 n r).2.p:=λn r=>by
   obtain⟨a,b,c⟩:=Qc3 w h s.2.2 n r;refine⟨List.pairwise_append.mpr ⟨h1,by simp,λx hx y hy=>?_⟩,λx hx=>?_⟩;·rw[List.mem_singleton.mp hy];have:=h2 x hx;omega
   ·rcases List.mem_append.mp hx with z|z;·have:=h2 x z;omega
    ·rw[List.mem_singleton.mp z];omega
  rw[foldl_cons];cases i with|word x ns=>exact QcE w h ae is _ (wd _ _).1 (wd _ _).2|ref l x y=>exact QcE w h ae is _ (wd _ _).1 (wd _ _).2|mark l=>exact QcE w h ae is _ h1 h2|key l=>exact QcE w h ae is _ h1 h2
theorem Qoc(w h:Int)(o:Bool)(ae:List Int)(hh:1<=h):∀(bs:List Bk)(s:List (List Plc)×Sta×Nat),(∀b∈bs,Qaq b)->∃rows,(bs.foldl (Qu w h o ae) s).1=s.1++rows/\rows.length=bs.length/\UpP rows.flatten/\∀x∈rows.flatten,s.2.1.p<=x.p
 |[],s,_=>⟨[],by simp,rfl,.nil,by simp⟩|b::bs,s,hb=>by
  have iq:=hb b mem_cons_self;have key:∃row,(Qu w h o ae s b).1=s.1++[row]/\UpP row/\(∀x∈row,s.2.1.p<=x.p/\x.p<=(Qu w h o ae s b).2.1.p)/\s.2.1.p<=(Qu w h o ae s b).2.1.p:=by
   have other:Vf b=false->Qu w h o ae s b=(s.1++[[(QX h o s.2.1 b).1]],(QX h o s.2.1 b).2,s.2.2)->∃row,(Qu w h o ae s b).1=s.1++[row]/\UpP row/\(∀x∈row,s.2.1.p<=x.p/\x.p<=(Qu w h o ae s b).2.1.p)/\s.2.1.p<=(Qu w h o ae s b).2.1.p:=by
    intro hp e;obtain⟨a1,a2,a3⟩:=QhM h o s.2.1 b hh hp iq;rw[e];refine⟨[(QX h o s.2.1 b).1],rfl,by simp[UpP],λx hx=>?_,?_⟩;·rw[List.mem_singleton.mp hx];exact⟨a1,a2⟩
    ·show s.2.1.p<=(QX h o s.2.1 b).2.p;omega
   cases b with
   |para is=>
    obtain⟨a1,a2,a3,a4⟩:=QiK w h (ae.drop s.2.2) s.2.1.p is ([],0,s.2.1) (by simp) (Int.le_refl _);have e:=Qfy (Jt w h s.2.1 (ae.drop s.2.2) is).2.2;refine⟨(Jt w h s.2.1 (ae.drop s.2.2) is).1,rfl,QcE w h _ is _ .nil (by simp),λx hx=>?_,?_⟩;·show _/\x.p<=(endLine (Jt w h s.2.1 (ae.drop s.2.2) is).2.2).p;rw[e];exact a1 x hx
    ·show s.2.1.p<=(endLine (Jt w h s.2.1 (ae.drop s.2.2) is).2.2).p;rw[e];exact a2|chapter t l=>exact other rfl rfl|heading t k l=>exact other rfl rfl|table r l=>exact other rfl rfl|plates n l=>exact other rfl rfl
  obtain⟨row,k1,k2,k3,k4⟩:=key;obtain⟨rows,r1,r2,r3,r4⟩:=Qoc w h o ae hh bs (Qu w h o ae s b) λx hx=>hb x (mem_cons_of_mem _ hx);refine⟨row::rows,by rw[foldl_cons,r1,k1,append_assoc];rfl,by simp[r2],?_,λx hx=>?_⟩
  ·rw[flatten_cons];refine List.pairwise_append.mpr ⟨k2,r3,λx hx y hy=>?_⟩;have:=(k3 x hx).2;have:=r4 y hy;omega
  ·rw[flatten_cons]at hx;rcases List.mem_append.mp hx with z|z;·exact(k3 x z).1
   ·have:=r4 x z;omega
theorem QoU(i:It)(is:List It)(h:Zp (i::is)):Zp is:=λj hj e=>by have:=h (j+1) (by simp;omega) (by simpa using e);rw[List.take_succ_cons,Yr,Yr]at this;omega
theorem QoV(i:It)(is:List It)(h:Zp (i::is))(e:QD i=false):0<QS is:=by have:=h 0 (by simp) (by simpa using e);rw[Yr,e]at this;simpa[QS]using this
theorem Qkz:∀(is:List It)(pls:List Plc),Zp is->pls.length=QS is->UpP pls->((kP pls is).Pairwise λa b=>a.2<=b.2)/\∀x∈kP pls is,∃q∈pls,x.2=q.p
 |[],pls,_,_,_=>⟨.nil,by simp[kP]⟩|i::is,pls,ht,hl,hu=>by
  have tt:=QoU i is ht;rw[Yr]at hl;have down:∀(w:QD i=true),((kP pls.tail is).Pairwise λa b=>a.2<=b.2)/\∀x∈kP pls.tail is,∃q∈pls,x.2=q.p:=λw=>by
   rw[w]at hl;have l2:pls.tail.length=QS is:=by rw[List.length_tail];simp at hl;omega
   obtain⟨a,b⟩:=Qkz is pls.tail tt l2 (hu.sublist (List.tail_sublist _));exact⟨a,λx hx=>by obtain⟨q,h1,h2⟩:=b x hx;exact⟨q,List.mem_of_mem_tail h1,h2⟩⟩
  cases i with
  |word w ns=>exact down rfl|ref l a b=>exact down rfl|mark l=>exact Qkz is pls tt (by simpa[QD,J9,Jk]using hl) hu|key w=>
   have l2:pls.length=QS is:=by simpa[QD,J9,Jk]using hl
   obtain⟨a,b⟩:=Qkz is pls tt l2 hu;have pos:=QoV _ is ht rfl;match pls,l2,hu,a,b with
   |[],l2,_,_,_=>simp at l2;omega|q::r,l2,hu,a,b=>
    refine⟨List.pairwise_cons.mpr ⟨λx hx=>?_,a⟩,λx hx=>?_⟩
    ·obtain⟨z,h1,h2⟩:=b x hx;rw[h2];rcases List.mem_cons.mp h1 with y|y;·rw[y];exact Int.le_refl _
     ·exact(List.pairwise_cons.mp hu).1 z y
    ·rcases List.mem_cons.mp hx with y|y;·exact⟨q,mem_cons_self,by rw[y];rfl⟩
     ·exact b x y
theorem QnC:∀(bs:List Bk)(rows:List (List Plc)),(∀q∈bs.zip rows,q.2.length=nPl q.1/\Zp (iO q.1))->UpP rows.flatten->((Q8 bs rows).Pairwise λa b=>a.2<=b.2)/\∀x∈Q8 bs rows,∃q∈rows.flatten,x.2=q.p
 |[],rows,_,_=>⟨by simp[Q8],by simp[Q8]⟩|b::bs,[],_,_=>⟨by simp[Q8],by simp[Q8]⟩|b::bs,row::rows,h,hu=>by
  rw[flatten_cons]at hu;have ia:=List.pairwise_append.mp hu;obtain⟨a1,a2⟩:=QnC bs rows (λq hq=>h q (mem_cons_of_mem _ hq)) ia.2.1;obtain⟨b1,b2⟩:=h (b,row) mem_cons_self;have hk:((kP row (iO b)).Pairwise λa b=>a.2<=b.2)/\∀x∈kP row (iO b),∃q∈row,x.2=q.p:=by cases b with|para is=>exact Qkz is row b2 b1 ia.1|_=>exact⟨.nil,by simp[kP,iO]⟩
  have e:Q8 (b::bs) (row::rows)=kP row (iO b)++Q8 bs rows:=by unfold Q8;rw[zip_cons_cons,flatMap_cons]
  rw[e,flatten_cons];refine⟨List.pairwise_append.mpr ⟨hk.1,a1,λx hx y hy=>?_⟩,λx hx=>?_⟩
  ·obtain⟨q,h1,h2⟩:=hk.2 x hx;obtain⟨r,h3,h4⟩:=a2 y hy;rw[h2,h4];exact ia.2.2 q h1 r h3
  ·rcases List.mem_append.mp hx with z|z;·obtain⟨q,h1,h2⟩:=hk.2 x z;exact⟨q,mem_append_left _ h1,h2⟩
   ·obtain⟨q,h1,h2⟩:=a2 x z;exact⟨q,mem_append_right _ h1,h2⟩
theorem QgT:∀(bs:List Bk)(rows:List (List Plc)),(Q8 bs rows).length<=(bs.flatMap iO).length
 |[],rows=>by simp[Q8]|b::bs,[]=>by simp[Q8]|b::bs,row::rows=>by
  have e:Q8 (b::bs) (row::rows)=kP row (iO b)++Q8 bs rows:=by unfold Q8;rw[zip_cons_cons,flatMap_cons]
  rw[e,flatMap_cons,length_append,length_append];have:=Qcp (iO b) row;have:=QgT bs rows;omega
theorem QoX(w h:Int)(o li:Bool)(ae:List Int)(bs:List Bk)(hh:1<=h)(hp:∀b∈bs,Qaq b){c:List Plc}{rows:List (List Plc)}(e:(Qar w h o li ae bs).1=c::rows):UpP rows.flatten:=by
 obtain⟨dN,r1,r2,r3,r4⟩:=Qoc w h o ae hh bs ([(QP h o li bs).1],(QP h o li bs).2,0) hp;have e':(Qar w h o li ae bs).1=(QP h o li bs).1::dN:=r1;rw[e]at e';have:rows=dN:=by injection e'
 rw[this];exact r3
theorem Qvg(i j:Int):D.neO (.int i) (.int j)=some (.bl (!decide (i=j))):=by simp[D.neO,Qr,QC,D.cmpN]
theorem Qvl(i j:Int):D.eqO (.int i) (.int j)=some (.bl (decide (i=j))):=by simp[D.eqO,Qr,QC,D.cmp]
theorem QoJ{α:Type}{f:α->D}(xs:List α)(x:α):D.ix (.lst ((xs++[x]).map f)) (.int (-1))=some (f x):=by
 show(ixD ((xs++[x]).map f).length (-1)).bind (λk=>((xs++[x]).map f)[k]?)=_;unfold ixD;rw[if_neg (by decide),if_pos (by simp;omega)];show((xs++[x]).map f)[((-1:Int)+(((xs++[x]).map f).length:Int)).toNat]?=_;have e:((-1:Int)+(((xs++[x]).map f).length:Int)).toNat=xs.length:=by simp;omega
 rw[e,getElem?_map,List.getElem?_concat_length];rfl
theorem Qow(e:Qj):eUn D.neg (eC (.int 1)) e=some (.int (-1)):=rfl
theorem Qns(l:List Int)(n:Int)(h:l.length<1000):Qb5 [.lst (l.map .int),.int n]=some (.lst ((addI l n).map .int)):=by
 have hb:∀r,QaT [some (.lst (l.map .int)),some (.int n)]=some (.nx [some (.lst r),some (.int n)])->Qb5 [.lst (l.map .int),.int n]=some (.lst r):=λr hr=>by
  unfold Qb5 QrQ;rw[if_pos (show[D.lst (l.map .int),D.int n].length=2 from rfl)];show(match QaT [some (.lst (l.map .int)),some (.int n)]with|some (.nx e)=>(e[0]?).join|_=>none)=_;rw[hr];rfl
 apply hb;have bA:l.length<lI:=Zv (by omega);have ap:=V4 (f:=D.int) (xs:=l) n bA;have len0:eUn D.len (eV 0) [some (.lst (l.map .int)),some (.int n)]=some (.int l.length):=unE (x:=.lst (l.map .int)) rfl (by show some (D.int (l.map D.int).length)=_;rw[length_map]);unfold QaT;by_cases b8:l=[];·subst b8;refine ifT (orT (opE len0 rfl (Qvl _ _))) ?_;exact Qal (x:=.lst []) rfl rfl ap
 ·obtain⟨r,x,rfl⟩:=YM l b8;have c0:eOp D.eqO (eUn D.len (eV 0)) (eC (.int 0)) [some (.lst ((r++[x]).map .int)),some (.int n)]=some (.bl false):=opE len0 rfl (by rw[Qvl,decide_eq_false (by simp;omega)]);have c1:eOp D.neO (eOp D.ix (eV 0) (eUn D.neg (eC (.int 1)))) (eV 1) [some (.lst ((r++[x]).map .int)),some (.int n)]=some (.bl (!decide (x=n))):=opE (opE (x:=.lst ((r++[x]).map .int)) rfl (Qow _) (QoJ r x)) rfl (Qvg x n);unfold addI;rw[getLast?_concat];by_cases e:x=n
  ·rw[if_pos (by rw[e])];refine ifF (orF c0 (by rw[c1,decide_eq_true e];rfl)) rfl
  ·rw[if_neg (by simpa using e)];refine ifT (orF c0 (by rw[c1,decide_eq_false e];rfl)) ?_;exact Qal (x:=.lst ((r++[x]).map .int)) rfl rfl ap
theorem Qc8(x:Str)(i:Int):∀m:KM,(Jl m x i).length<=m.length+1
 |[]=>by simp[Jl]|(y,l)::m=>by
  unfold Jl;split;·simp
  ·have:=Qc8 x i m;simp only[length_cons];omega
theorem QlS(l:List Int)(i:Int):(addI l i).length<=l.length+1:=by unfold addI;split<;>simp
theorem QeN(x:Str)(i:Int)(N:Nat):∀m:KM,(∀l∈m,l.2.length<=N)->∀l∈Jl m x i,l.2.length<=N+1
 |[],_,l,hl=>by rw[show Jl [] x i=[(x,[i])]from rfl]at hl;rw[List.mem_singleton.mp hl];simp|(y,k)::m,h,l,hl=>by
  unfold Jl at hl;have hk:=h (y,k) mem_cons_self;split at hl
  ·rcases List.mem_cons.mp hl with z|z;·rw[z];have:=QlS k i;exact le_trans this (succ_le_succ hk)
   ·exact le_succ_of_le (h l (mem_cons_of_mem _ z))
  ·rcases List.mem_cons.mp hl with z|z;·rw[z];exact le_succ_of_le hk
   ·exact QeN x i N m (λl hl=>h l (mem_cons_of_mem _ hl)) l z
theorem Qtm(B S T x y:Option D):∀(ks:List (Str×Int))(u v:Option D)(m:KM)(N:Nat),m.length+ks.length<1000->(∀l∈m,l.2.length<=N)->N+ks.length<1000->∃u' v',Wd.loopR (Jp [gS 6,gS 7]) (Qbx 6 7) (ks.map prs) [B,S,T,none,x,y,u,v] m=some ([B,S,T,none,x,y,u',v'],ks.foldl (λm x=>Jl m x.1 x.2) m)
 |[],u,v,m,N,_,_,_=>⟨u,v,rfl⟩|k::ks,u,v,m,N,h1,h2,h3=>by
  rw[length_cons]at h1 h3;have l1:=Qc8 k.1 k.2 m;obtain⟨u',v',h⟩:=Qtm B S T x y ks (some (.str k.1)) (some (.int k.2)) (Jl m k.1 k.2) (N+1) (by omega) (QeN _ _ _ _ h2) (by omega);refine⟨u',v',?_⟩;rw[map_cons,foldl_cons];show((Jp [gS 6,gS 7] (prs k) [B,S,T,none,x,y,u,v]).bind λe1=>(Qbx 6 7 e1 m).bind λr=>Wd.loopR (Jp [gS 6,gS 7]) (Qbx 6 7) (ks.map prs) r.1 r.2)=_;have e1:Jp [gS 6,gS 7] (prs k) [B,S,T,none,x,y,u,v]=some [B,S,T,none,x,y,some (.str k.1),some (.int k.2)]:=rfl;have e2:Qbx 6 7 [B,S,T,none,x,y,some (.str k.1),some (.int k.2)] m=some ([B,S,T,none,x,y,some (.str k.1),some (.int k.2)],Jl m k.1 k.2):=by
   show(if _ then some _ else none)=_;rw[if_pos ⟨by simp,by omega,λl hl=>by have:=h2 l hl;omega⟩]
  rw[e1];show((Qbx 6 7 [B,S,T,none,x,y,some (.str k.1),some (.int k.2)] m).bind λr=>Wd.loopR (Jp [gS 6,gS 7]) (Qbx 6 7) (ks.map prs) r.1 r.2)=_;rw[e2];exact h
abbrev Qox:EvR KM:=Qac (QL (eK J4 (lC (eK JH (lC (eV 4) lN)) (lC (eV 5) (lC (eC (.str "key")) lN))))) (Jp [gS 6,gS 7]) (Qbx 6 7)
theorem Qp7(B S T:Option D):∀(qs:List (Bk×List Plc))(x y u v:Option D)(m:KM)(N:Nat),(∀q∈qs,(iO q.1).length<=100000/\q.2.length=nPl q.1/\Zp (iO q.1))->m.length+(qs.flatMap λq=>kP q.2 (iO q.1)).length<1000->(∀l∈m,l.2.length<=N)->N+(qs.flatMap λq=>kP q.2 (iO q.1)).length<1000->∃x' y' u' v',Wd.loopR (Jp [gS 4,gS 5]) Qox (qs.map λq=>D.tup [q.1.d,Qt q.2]) [B,S,T,none,x,y,u,v] m=some ([B,S,T,none,x',y',u',v'],(qs.flatMap λq=>kP q.2 (iO q.1)).foldl (λm x=>Jl m x.1 x.2) m)
 |[],x,y,u,v,m,N,_,_,_,_=>⟨x,y,u,v,rfl⟩|q::qs,x,y,u,v,m,N,h0,h1,h2,h3=>by
  rw[flatMap_cons,length_append]at h1 h3;obtain⟨a1,a2,a3⟩:=h0 q mem_cons_self;have io:=QaO q.1;have pw:J4 [.lst ((iO q.1).map It.d),Qt q.2,.str "key"]=some (.lst ((kP q.2 (iO q.1)).map prs)):=by
   refine Qq6 _ _ a1 ?_ a3;obtain⟨b,r⟩:=q;cases b with
   |para is=>exact le_of_eq a2.symm|_=>exact zero_le _
  obtain⟨u1,v1,hi⟩:=Qtm B S T (some q.1.d) (some (Qt q.2)) (kP q.2 (iO q.1)) u v m N (by omega) h2 (by omega);have fl:∀(ks:List (Str×Int))(m:KM)(N:Nat),(∀l∈m,l.2.length<=N)->(ks.foldl (λm x=>Jl m x.1 x.2) m).length<=m.length+ks.length/\∀l∈ks.foldl (λm x=>Jl m x.1 x.2) m,l.2.length<=N+ks.length:=λks=>by induction ks with|nil=>intro m N h;exact⟨by simp,by simpa using h⟩|cons k ks ih=>intro m N h;obtain⟨b1,b2⟩:=ih (Jl m k.1 k.2) (N+1) (QeN _ _ _ _ h);have:=Qc8 k.1 k.2 m;refine⟨by rw[foldl_cons,length_cons];omega,λl hl=>?_⟩;have:=b2 l hl;rw[length_cons];omega
  obtain⟨f1,f2⟩:=fl (kP q.2 (iO q.1)) m N h2;obtain⟨x',y',u',v',ho⟩:=Qp7 B S T qs (some q.1.d) (some (Qt q.2)) u1 v1 _ _ (λr hr=>h0 r (mem_cons_of_mem _ hr)) (by omega) f2 (by omega);refine⟨x',y',u',v',?_⟩;rw[map_cons,flatMap_cons,foldl_append];have e2:Qox [B,S,T,none,some q.1.d,some (Qt q.2),u,v] m=some ([B,S,T,none,some q.1.d,some (Qt q.2),u1,v1],(kP q.2 (iO q.1)).foldl (λm x=>Jl m x.1 x.2) m):=by
   unfold Qox Qac QL;rw[ZH (QN rfl io) rfl rfl pw];exact hi
  show((Qox [B,S,T,none,some q.1.d,some (Qt q.2),u,v] m).bind λr=>Wd.loopR _ _ (qs.map λq=>D.tup [q.1.d,Qt q.2]) r.1 r.2)=_;rw[e2];exact ho
theorem Qu8{a b:EvE}{e:Qj}{x y:D}(ha:a e=some x)(hb:b e=some y):Qm (lC a (lC b lN)) e=some (.tup [x,y]):=by unfold Qm lC lN;rw[ha,hb];rfl
theorem QuQ(g:Str->List Int)(k:Str):∀ks:List Str,k∈ks->D.dget (kmD (mkM g ks)) (.str k)=some (.lst ((g k).map .int)):=by intro ks h;show Qck ((mkM g ks).map λx=>.inr x.1) ((mkM g ks).map λx=>.lst (x.2.map .int)) (.inr k)=_;induction ks with|nil=>simp at h|cons y ks ih=>
  show(if(Sum.inr y:Kd)=.inr k then some (D.lst ((g y).map .int))else Qck _ _ _)=_;by_cases e:y=k;·rw[if_pos (by rw[e]),e]
  ·rw[if_neg (λz=>e (by cases z;rfl))];exact ih ((List.mem_cons.mp h).resolve_left (Ne.symm e))
theorem QsL(bs:List Bk)(S:D)(c:List Plc)(rows:List (List Plc))(hf:Few bs)(hq:∀q∈bs.zip rows,q.2.length=nPl q.1/\Zp (iO q.1))(hn:(Q8 bs rows).length<64)(sl:V7 [bks bs,S]=some (Jc (c::rows))):Qgc [bks bs,S]=some (kmL (mkM (λk=>ddp (pg k (Q8 bs rows))) (ZK Wd.ltS (fk (Q8 bs rows))))):=by
 obtain⟨m1,m2,m3⟩:=Qf1 (Q8 bs rows);have fl:(fk (Q8 bs rows)).length<64:=by
  have:(fk (Q8 bs rows)).length=(MM (Q8 bs rows)).length:=by rw[m1];unfold mkM;rw[length_map]
  have l:∀(ks:List (Str×Int))(m:KM),(ks.foldl (λm x=>Jl m x.1 x.2) m).length<=m.length+ks.length:=λks=>by induction ks with
   |nil=>intro m;simp|cons k ks ih=>intro m;have:=ih (Jl m k.1 k.2);have:=Qc8 k.1 k.2 m;rw[foldl_cons,length_cons];omega
  have:=l (Q8 bs rows) [];have e:MM (Q8 bs rows)=(Q8 bs rows).foldl (λm x=>Jl m x.1 x.2) []:=rfl;rw[<-e]at this;simp at this;omega
 unfold Qgc QiV;refine stD rfl ?_;refine st (e1:=[some (bks bs),some S,some (Jc (c::rows)),none,none,none,none,none]) (asg (ZX rfl rfl sl) rfl) ?_;refine st (e1:=[some (bks bs),some S,some (Jc (c::rows)),some (.dic [] []),none,none,none,none]) rfl ?_;obtain⟨x',y',u',v',ho⟩:=Qp7 (some (bks bs)) (some S) (some (Jc (c::rows))) (bs.zip rows) none none none none [] 0 (λq dG=>⟨(Qgb hf q.1 (of_mem_zip dG).1).2|>λh=>by simpa using h,hq q dG⟩) (by show 0+(Q8 bs rows).length<1000;omega) (by simp) (by show 0+(Q8 bs rows).length<1000;omega);refine st (e1:=[some (bks bs),some S,some (Jc (c::rows)),some (kmD (MM (Q8 bs rows))),x',y',u',v']) ?_ ?_
 ·unfold Qkr;show(if _ then((Qac _ _ _ [some (bks bs),some S,some (Jc (c::rows)),none,none,none,none,none] []).bind λr=>_)else none)=_;rw[if_pos (by simp)];have it:QgE (eV 0) (JF (eV 2) (oAt (eC (.int 1))) oNo) [some (bks bs),some S,some (Jc (c::rows)),none,none,none,none,none]=some ((bs.zip rows).map λq=>D.tup [q.1.d,Qt q.2]):=by
   have hc:JF (eV 2) (oAt (eC (.int 1))) oNo [some (bks bs),some S,some (Jc (c::rows)),none,none,none,none,none]=some (Jc rows):=QlI c rows;unfold QgE;rw[hc];show some (Qai (bs.map Bk.d) (rows.map Qt))=_;rw[QgG]
  have e:∀b:EvR KM,Qac (QgE (eV 0) (JF (eV 2) (oAt (eC (.int 1))) oNo)) (Jp [gS 4,gS 5]) b [some (bks bs),some S,some (Jc (c::rows)),none,none,none,none,none] []=Wd.loopR (Jp [gS 4,gS 5]) b ((bs.zip rows).map λq=>D.tup [q.1.d,Qt q.2]) [some (bks bs),some S,some (Jc (c::rows)),none,none,none,none,none] []:=λb=>by
   unfold Qac;rw[it];rfl
  rw[e,ho];rfl
 ·rw[m1];generalize(λk=>ddp (pg k (Q8 bs rows)))=g at*;generalize fk (Q8 bs rows)=ks at*;have hs:D.sortK (kmD (mkM g ks))=some (.lst ((ZK Wd.ltS ks).map .str)):=by
   show(QdC ((mkM g ks).map λx=>.inr x.1)).bind _=_;have:((mkM g ks).map λx=>(Sum.inr x.1:Kd))=ks.map .inr:=by unfold mkM;rw[map_map];rfl
   rw[this,QhJ];exact if_pos fl
  refine ret (Eq.trans (Zh D.str (ZK Wd.ltS ks) (λe=>∃a,e=[a,some (kmD (mkM g ks))]) (λ_=>true) (λk=>prL (k,g k)) ?_ ?_ ⟨none,rfl⟩ ?_) ?_)
  ·unfold QL;rw[unE (x:=kmD (mkM g ks)) rfl hs];rfl
  ·have:=(Yq (f:=Wd.ltS) ks).length_eq;have h2:ks.length<lI:=Zv (by omega);omega
  ·rintro k hk e⟨a,rfl⟩;refine⟨[some (.str k),some (kmD (mkM g ks))],rfl,⟨_,rfl⟩,rfl,λ_=>?_⟩;have cM:k∈ks:=(Yq (f:=Wd.ltS) ks).mem_iff.mp hk;exact Qu8 rfl (opE (x:=kmD (mkM g ks)) rfl rfl (QuQ g k ks cM))
  ·rw[List.filter_eq_self.mpr (by simp)];unfold kmL mkM;rw[map_map];rfl
theorem Qtl{e:Qj}{a:EvE}(x:Bk)(h:a e=some x.d):eOp D.eqO (eOp D.ix a (eC (.int 0))) (eC (.str "para")) e=some (.bl (Vf x)):=by cases x<;>simp[eOp,eC,h,D.ix,ixD,eqS,Vf]
abbrev prB:EvS:=sQ (sIf (eOp D.eqO (eOp D.ix (eV 5) (eC (.int 0))) (eC (.str "key"))) (sP 2 (Qm (lC (eOp D.ix (eV 5) (eC (.int 1))) (lC (eOp D.ix (eOp D.ix (eOp D.ix (eV 1) (eOp D.add (eV 3) (eC (.int 1)))) (eV 4)) (eC (.int 0))) lN)))) sNx) (sIf (eOr (eOp D.eqO (eOp D.ix (eV 5) (eC (.int 0))) (eC (.str "word"))) (eOp D.eqO (eOp D.ix (eV 5) (eC (.int 0))) (eC (.str "ref")))) (Qc (eOp D.add (eV 4) (eC (.int 1))) (gS 4)) sNx)
theorem Qt2(B T:Option D)(x:D)(is:List It)(k:Int)(pls:List Plc)(hl:is.length<=100000)(hp:QS is<=pls.length)(ht:Zp is)(kv:List (Str×Int))(hk:kv.length<=100000)(TT:D)(hT:T=some TT)(cn:D.ix TT (.int (k+1))=some (Qt pls))(a b:Option D):∃a' b',Yn (gS 5) (prB) (is.map It.d) [B,T,some (.lst (kv.map prs)),some (.int k),some (.int 0),b]=some (.nx [B,T,some (.lst ((kv++kP pls is).map prs)),some (.int k),a',b']):=by
 obtain⟨e',h1,w1,w2,rfl,_⟩:=Qbu (g:=gS 5) (b:=prB) It.d is (λi e=>∃a b,e=[B,T,some (.lst ((kv++kP pls (is.take i)).map prs)),some (.int k),some a,b]/\a=.int (QS (is.take i))) (by
   rintro i hi e⟨a,b,rfl,rfl⟩;have h1:=Qcp (is.take i) pls;rw[length_take]at h1;have lJ:=ht i hi;rw[take_succ_eq_append_getElem hi,Qcb,Qjx,<-append_assoc];generalize is[i]=x at*;have bA:(kv++kP pls (is.take i)).length<lI:=Zv (by rw[length_append];omega);generalize kv++kP pls (is.take i)=kw at*;have nb:QS (is.take i)<=100000:=by unfold QS;have:=length_filter_le QD (is.take i);rw[length_take]at this;omega
   generalize QS (is.take i)=n at*;have ap:=λy=>V4 (f:=prs) (xs:=kw) y bA;subst hT;have f9:eOp D.add (eV 4) (eC (.int 1)) [B,some TT,some (.lst (kw.map prs)),some (.int k),some (.int n),some x.d]=some (.int ((n:Int)+1)):=opE (x:=.int n) (y:=.int 1) rfl rfl rfl;cases x with
   |key l=>
    have cM:n<pls.length:=by have:=lJ rfl;omega
    have px:D.ix (Qt pls) (.int n)=some (pls.getD n ⟨0,0,0⟩).d:=Qd8 (f:=Plc.d) pls n ⟨0,0,0⟩ (by omega) (by omega);obtain⟨q,eq⟩:∃q,pls.getD n ⟨0,0,0⟩=q:=⟨_,rfl⟩;have e1:kE pls n (.key l)=[(l,q.p)]:=by rw[<-eq];rfl
    rw[eq]at px;rw[e1];refine⟨[B,some TT,some (.lst ((kw++[(l,q.p)]).map prs)),some (.int k),some (.int n),some (It.key l).d],.inl ?_,.int n,some (It.key l).d,rfl,by simp[QD,J9,Jk]⟩;refine bnd (e1:=[B,some TT,some (.lst (kw.map prs)),some (.int k),some (.int n),some (It.key l).d]) rfl ?_;refine st (e1:=[B,some TT,some (.lst ((kw++[(l,q.p)]).map prs)),some (.int k),some (.int n),some (It.key l).d]) ?_ ?_
    ·refine ifT (opE (x:=.str "key") (opE (x:=(It.key l).d) rfl rfl rfl) rfl (by rw[eqS];simp)) ?_;refine Qal (d:=prs (l,q.p)) rfl ?_ (ap _);have hq:D.ix q.d (.int 0)=some (.int q.p):=rfl;exact Qu8 rfl (opE (opE (opE (x:=TT) (y:=.int (k+1)) rfl (opE (x:=.int k) (y:=.int 1) rfl rfl rfl) cn) rfl px) rfl hq)
    ·exact ifF (orF (opE (x:=.str "key") (opE (x:=(It.key l).d) rfl rfl rfl) rfl (by rw[eqS];simp)) (opE (x:=.str "key") (opE (x:=(It.key l).d) rfl rfl rfl) rfl (by rw[eqS];simp))) rfl|mark l=>refine⟨[B,some TT,some (.lst (kw.map prs)),some (.int k),some (.int n),some (It.mark l).d],.inl ?_,.int n,some (It.mark l).d,by simp[kE],by simp[QD,J9,Jk]⟩;refine bnd (e1:=[B,some TT,some (.lst (kw.map prs)),some (.int k),some (.int n),some (It.mark l).d]) rfl ?_;refine st (e1:=[B,some TT,some (.lst (kw.map prs)),some (.int k),some (.int n),some (It.mark l).d]) (ifF (opE (x:=.str "mark") (opE (x:=(It.mark l).d) rfl rfl rfl) rfl (by rw[eqS];simp)) rfl) ?_;exact ifF (orF (opE (x:=.str "mark") (opE (x:=(It.mark l).d) rfl rfl rfl) rfl (by rw[eqS];simp)) (opE (x:=.str "mark") (opE (x:=(It.mark l).d) rfl rfl rfl) rfl (by rw[eqS];simp))) rfl|word y ns=>refine⟨[B,some TT,some (.lst (kw.map prs)),some (.int k),some (.int ((n:Int)+1)),some (It.word y ns).d],.inl ?_,.int ((n:Int)+1),some (It.word y ns).d,by simp[kE],by simp[QD,J9,Jk]⟩;refine bnd (e1:=[B,some TT,some (.lst (kw.map prs)),some (.int k),some (.int n),some (It.word y ns).d]) rfl ?_;refine st (e1:=[B,some TT,some (.lst (kw.map prs)),some (.int k),some (.int n),some (It.word y ns).d]) (ifF (opE (x:=.str "word") (opE (x:=(It.word y ns).d) rfl rfl rfl) rfl (by rw[eqS];simp)) rfl) ?_;exact ifT (orT (opE (x:=.str "word") (opE (x:=(It.word y ns).d) rfl rfl rfl) rfl (by rw[eqS];simp))) (asg f9 rfl)|ref l y z=>refine⟨[B,some TT,some (.lst (kw.map prs)),some (.int k),some (.int ((n:Int)+1)),some (It.ref l y z).d],.inl ?_,.int ((n:Int)+1),some (It.ref l y z).d,by simp[kE],by simp[QD,J9,Jk]⟩;refine bnd (e1:=[B,some TT,some (.lst (kw.map prs)),some (.int k),some (.int n),some (It.ref l y z).d]) rfl ?_;refine st (e1:=[B,some TT,some (.lst (kw.map prs)),some (.int k),some (.int n),some (It.ref l y z).d]) (ifF (opE (x:=.str "ref") (opE (x:=(It.ref l y z).d) rfl rfl rfl) rfl (by rw[eqS];simp)) rfl) ?_;exact ifT (orF (opE (x:=.str "ref") (opE (x:=(It.ref l y z).d) rfl rfl rfl) rfl (by rw[eqS];simp)) (opE (x:=.str "ref") (opE (x:=(It.ref l y z).d) rfl rfl rfl) rfl (by rw[eqS];simp))) (asg f9 rfl)) [B,T,some (.lst (kv.map prs)),some (.int k),some (.int 0),b] ⟨.int 0,b,by simp[kP],by simp[QS]⟩;rw[take_length]at h1;exact⟨_,_,h1⟩
theorem Qxl(bs:List Bk)(i:Nat)(h:i<bs.length):D.ix (bks bs) (.int (0+(i:Int)))=some bs[i].d:=by
 have:=Qd8 (f:=Bk.d) bs (0+(i:Int)) (.para []) (by omega) (by omega);unfold bks;rw[this];have e:(0+(i:Int)).toNat=i:=by omega
 rw[e,getD_eq_getElem?_getD,getElem?_eq_getElem h];rfl
theorem Qnb(bs:List Bk)(c:List Plc)(rows:List (List Plc))(hf:Few bs)(hr:rows.length=bs.length)(hs:∀q∈bs.zip rows,q.2.length=nPl q.1/\Zp (iO q.1)):Qel [bks bs,Jc (c::rows)]=some (.lst ((Q8 bs rows).map prs)):=by
 unfold Qel Qg7;refine stD rfl ?_;refine st (e1:=[some (bks bs),some (Jc (c::rows)),some (.lst (([]:List (Str×Int)).map prs)),none,none,none]) rfl ?_;have hz:(bs.zip rows).length=bs.length:=by rw[length_zip];omega
 have hf1:=hf.1;have tot:∀i,(((bs.zip rows).take i).flatMap λq=>kP q.2 (iO q.1)).length<=100000:=λi=>by
  have e:((bs.zip rows).take i)=(bs.take i).zip (rows.take i):=by simp[List.zip,List.take_zipWith]
  rw[e];have h1:=QgT (bs.take i) (rows.take i);have h2:((bs.take i).flatMap iO).length<=(bs.flatMap iO).length:=by
   conv=>rhs;rw[<-take_append_drop i bs,flatMap_append,length_append]
   omega
  have:=hf.2;exact le_trans h1 (by omega)
 refine QoD bs.length (λi e=>∃a b c',e=[some (bks bs),some (Jc (c::rows)),some (.lst ((((bs.zip rows).take i).flatMap λq=>kP q.2 (iO q.1)).map prs)),a,b,c']) ?_ ⟨none,none,none,rfl⟩ ?_ ?_;·have lt:eUn D.len (eV 0) [some (bks bs),some (Jc (c::rows)),some (.lst (([]:List (Str×Int)).map prs)),none,none,none]=some (.int bs.length):=unE (x:=bks bs) rfl (by show some (D.int (bs.map Bk.d).length)=_;rw[length_map]);unfold Vs;rw[lt];exact if_pos (show(bs.length:Int).natAbs<4611686018427387904 by omega)
 ·rintro i hi e⟨a,b,c',rfl⟩;have bY:i<(bs.zip rows).length:=by omega
  have jD:i<rows.length:=by omega
  have ti:=tot i;rw[fT _ _ _ bY];have hq:=hs (bs.zip rows)[i] (getElem_mem bY);have hx:=Qxl bs i hi;have il:(iO bs[i]).length<=100000:=(Qgb hf bs[i] (getElem_mem hi)).2|>λh=>by simpa using h
  have hT:D.ix (Jc (c::rows)) (.int (0+(i:Int)+1))=some (Qt rows[i]):=by
   have:=ixT (c::rows) (i+1) (by simp;omega);rw[show(0+((i+1:Nat):Int))=0+(i:Int)+1 by omega]at this;rw[this,List.getD_cons_succ,getD_eq_getElem?_getD,getElem?_eq_getElem jD];rfl
  rw[List.getElem_zip]at hq⊢;simp only[]at hq;generalize bs[i]=x at*;generalize rows[i]=pls at*;generalize((bs.zip rows).take i).flatMap (λq=>kP q.2 (iO q.1))=kv at*;generalize bks bs=BS at*;generalize Jc (c::rows)=TT at*;have hv:eOp D.ix (eV 0) (eV 3) [some BS,some TT,some (.lst (kv.map prs)),some (.int (0+(i:Int))),b,c']=some x.d:=opE rfl rfl hx;cases q:Vf x with
  |true=>cases x with
   |para is=>
    have hZ:eOp D.ix (eV 0) (eV 3) [some BS,some TT,some (.lst (kv.map prs)),some (.int (0+(i:Int))),some (.int 0),c']=some (Bk.para is).d:=opE rfl rfl hx;obtain⟨a',b',hl⟩:=Qt2 (some BS) (some TT) .non is (0+(i:Int)) pls il (le_of_eq hq.1.symm) hq.2 kv ti TT rfl hT none c';refine⟨[some BS,some TT,some (.lst ((kv++kP pls is).map prs)),some (.int (0+(i:Int))),a',b'],.inl ?_,_,_,_,rfl⟩;refine bnd (e1:=[some BS,some TT,some (.lst (kv.map prs)),some (.int (0+(i:Int))),b,c']) rfl ?_;refine ifT (by rw[Qtl _ hv];rfl) ?_;refine st (e1:=[some BS,some TT,some (.lst (kv.map prs)),some (.int (0+(i:Int))),some (.int 0),c']) rfl ?_;unfold Jg;have it:QL (eOp D.ix (eOp D.ix (eV 0) (eV 3)) (eC (.int 1))) [some BS,some TT,some (.lst (kv.map prs)),some (.int (0+(i:Int))),some (.int 0),c']=some (is.map It.d):=by unfold QL;rw[opE (y:=.int 1) hZ rfl (show D.ix (Bk.para is).d (.int 1)=some (.lst (is.map It.d))from rfl)];rfl
    rw[it];exact hl|_=>cases q
  |false=>
   have e0:kP pls (iO x)=[]:=by cases x<;>first|rfl|cases q
   refine⟨[some BS,some TT,some (.lst (kv.map prs)),some (.int (0+(i:Int))),b,c'],.inl ?_,_,_,_,by rw[e0,append_nil]⟩;refine bnd (e1:=[some BS,some TT,some (.lst (kv.map prs)),some (.int (0+(i:Int))),b,c']) rfl ?_;refine ifF (by rw[Qtl x hv,q]) ?_;rfl
 ·rintro e⟨a,b,c',rfl⟩;rw[<-hz,take_length];exact ret rfl
theorem QnD(x:Str×List Int):(prL x).dep<=3:=by have h:D.depL (x.2.map .int)<=0:=Y4 (f:=D.int) (n:=0) (λa=>by rw[Qr];exact le_refl _) x.2;simp only[prL,Q9,Q6,QV,Q5,Qw];omega
abbrev Qvn:EvE:=QM (eOp D.neO (eV 1) (Qg lN)) (eOp D.eqO (eOp D.ix (eOp D.ix (eV 1) (eUn D.neg (eC (.int 1)))) (eC (.int 0))) (eOp D.ix (eV 2) (eC (.int 0))))
abbrev Qvm:EvE:=eOp D.neO (eOp D.ix (eOp D.ix (eOp D.ix (eV 1) (eUn D.neg (eC (.int 1)))) (eC (.int 1))) (eUn D.neg (eC (.int 1)))) (eOp D.ix (eV 2) (eC (.int 1)))
abbrev QrP:EvR KM:=Qe6 1 Qvn (Qe6 1 Qvm (QkH (eOp D.ix (eV 2) (eC (.int 1)))) λe m=>some (e,m)) (Qiv (eOp D.ix (eV 2) (eC (.int 0))) (eOp D.ix (eV 2) (eC (.int 1))))
theorem Qn1(P:D):∀(qs:List (Str×Int))(z:Option D)(m:KM)(N:Nat),m.length+qs.length<1000->(∀l∈m,l.2≠[]/\l.2.length<=N)->N+qs.length<999->∃z',Wd.loopR (gS 2) QrP (qs.map prD) [some P,none,z] m=some ([some P,none,z'],qs.foldl Yj m)
 |[],z,m,N,_,_,_=>⟨z,rfl⟩|q::qs,z,m,N,h1,h2,h3=>by
  rw[length_cons]at h1 h3;have key:∃m',Yj m q=m'/\m'.length<=m.length+1/\(∀l∈m',l.2≠[]/\l.2.length<=N+1)/\QrP [some P,none,some (prD q)] m=some ([some P,none,some (prD q)],m'):=by
   have jo:eOp D.neO (eV 1) (Qg lN) [some P,some (kmL m),some (prD q)]=some (.bl (!m.isEmpty)):=opE (x:=kmL m) (y:=.lst []) rfl rfl (Qkx (f:=prL) QnD (by decide) m);have go:∀(cv:EvE)(ba bb:EvR KM)(v:Bool)(r:Option (Qj×KM)),cv [some P,some (kmL m),some (prD q)]=some (.bl v)->(v=true->ba [some P,none,some (prD q)] m=r)->(v=false->bb [some P,none,some (prD q)] m=r)->Qe6 1 cv ba bb [some P,none,some (prD q)] m=r:=λcv ba bb v r hc ht hf=>by unfold Qe6;rw[if_pos (by simp)];show(match cv [some P,some (kmL m),some (prD q)]with|some (.bl true)=>ba [some P,none,some (prD q)] m|some (.bl false)=>bb [some P,none,some (prD q)] m|_=>none)=r;rw[hc];cases v with
    |true=>exact ht rfl|false=>exact hf rfl
   have fU:Qiv (eOp D.ix (eV 2) (eC (.int 0))) (eOp D.ix (eV 2) (eC (.int 1))) [some P,none,some (prD q)] m=some ([some P,none,some (prD q)],m++[(q.1,[q.2])]):=by unfold Qiv;show(if _ then some _ else none)=_;rw[if_pos ⟨by simp,by omega⟩]
   have dh:(m++[(q.1,[q.2])]).length<=m.length+1/\∀l∈m++[(q.1,[q.2])],l.2≠[]/\l.2.length<=N+1:=by
    refine⟨by simp,λl hl=>?_⟩;rcases List.mem_append.mp hl with w|w;·exact⟨(h2 l w).1,le_succ_of_le (h2 l w).2⟩
    ·rw[List.mem_singleton.mp w];simp
   by_cases hm:m=[];·subst hm;exact⟨_,rfl,dh.1,dh.2,go _ _ _ false _ (YW (by rw[jo];rfl)) (λw=>by cases w) λ_=>fU⟩
   ·obtain⟨r,l,rfl⟩:=YM m hm;have jL:=h2 l (by simp);have nz:(r++[l]).isEmpty=false:=by simp
    have eR:D.ix (kmL (r++[l])) (.int (-1))=some (prL l):=QoJ (f:=prL) r l;have c1:Qvn [some P,some (kmL (r++[l])),some (prD q)]=some (.bl (decide (l.1=q.1))):=YB (by rw[jo,nz];rfl) (opE (opE (opE (x:=kmL (r++[l])) rfl (Qow _) eR) rfl (show D.ix (prL l) (.int 0)=some (.str l.1)from rfl)) (opE (x:=prD q) rfl rfl (show D.ix (prD q) (.int 0)=some (.str q.1)from rfl)) (eqS _ _));have gl:(r++[l]).getLast?=some l:=getLast?_concat;by_cases e:l.1=q.1
    ·obtain⟨lr,lx,el⟩:=YM l.2 jL.1;have c2:Qvm [some P,some (kmL (r++[l])),some (prD q)]=some (.bl (!decide (lx=q.2))):=opE (opE (opE (opE (x:=kmL (r++[l])) rfl (Qow _) eR) rfl (show D.ix (prL l) (.int 1)=some (.lst ((lr++[lx]).map .int))by rw[<-el];rfl)) (Qow _) (QoJ (f:=D.int) lr lx)) (opE (x:=prD q) rfl rfl (show D.ix (prD q) (.int 1)=some (.int q.2)from rfl)) (Qvg _ _);have lO:l.2.getLast?=some lx:=by rw[el];exact getLast?_concat
     have ds:Yj (r++[l]) q=if lx=q.2 then r++[l]else r++[(l.1,l.2++[q.2])]:=by
      unfold Yj;rw[gl];simp only[e,if_true,lO,List.dropLast_concat,Option.some.injEq]
     by_cases e2:lx=q.2
     ·refine⟨r++[l],by rw[ds,if_pos e2],by omega,λk hk=>⟨(h2 k hk).1,le_succ_of_le (h2 k hk).2⟩,?_⟩;exact go _ _ _ true _ (by rw[c1,decide_eq_true e]) (λ_=>go _ _ _ false _ (by rw[c2,decide_eq_true e2];rfl) (λw=>by cases w) λ_=>rfl) λw=>by cases w
     ·refine⟨r++[(l.1,l.2++[q.2])],by rw[ds,if_neg e2],by simp,λk hk=>?_,?_⟩
      ·rcases List.mem_append.mp hk with w|w;·have:=h2 k (mem_append_left _ w);exact⟨this.1,le_succ_of_le this.2⟩
       ·rw[List.mem_singleton.mp w];have:=jL.2;simp;omega
      ·refine go _ _ _ true _ (by rw[c1,decide_eq_true e]) (λ_=>go _ _ _ true _ (by rw[c2,decide_eq_false e2];rfl) (λ_=>?_) λw=>by cases w) λw=>by cases w
       unfold QkH;show(if h:_ then some _ else none)=_;have eB:∀k∈r++[l],k.2.length<1000:=λk hk=>by have:=(h2 k hk).2;omega
       rw[dif_pos ⟨by simp,by omega,eB,by simp⟩];simp
    ·have ds:Yj (r++[l]) q=(r++[l])++[(q.1,[q.2])]:=by
      unfold Yj;rw[gl];simp only[e,if_false]
     exact⟨_,ds,dh.1,dh.2,go _ _ _ false _ (by rw[c1,decide_eq_false e]) (λw=>by cases w) λ_=>fU⟩
  obtain⟨m',k1,k2,k3,k4⟩:=key;obtain⟨z',h⟩:=Qn1 P qs (some (prD q)) m' (N+1) (by omega) k3 (by omega);refine⟨z',?_⟩;rw[map_cons,foldl_cons,k1];show((QrP [some P,none,some (prD q)] m).bind λr=>Wd.loopR (gS 2) _ (qs.map prD) r.1 r.2)=_;rw[k4];exact h
theorem Qwv(ps:List (Str×Int))(hn:ps.length<64):QhD [.lst (ps.map prs)]=some (kmL (DF (ZK J2 ps))):=by
 have sp:D.sortP (.lst (ps.map prs))=some (.lst ((ZK J2 ps).map prD)):=by
  show(QfU (ps.map prD)).bind _=_;rw[Qjq];exact if_pos hn
 have pl:=(Yq (f:=J2) ps).length_eq;obtain⟨z',hl⟩:=Qn1 (.lst (ps.map prs)) (ZK J2 ps) none [] 0 (by simp;omega) (by simp) (by omega);unfold QhD Qk0;refine stD rfl ?_;refine st (e1:=[some (.lst (ps.map prs)),some (.lst []),none]) rfl ?_;refine st (e1:=[some (.lst (ps.map prs)),some (kmL (DF (ZK J2 ps))),z']) ?_ (ret rfl);unfold Qhv;show(if _ then((Qac _ _ _ [some (.lst (ps.map prs)),none,none] []).bind λr=>_)else none)=_;rw[if_pos (by simp)];have e:∀b:EvR KM,Qac (QL (eUn D.sortP (eV 0))) (gS 2) b [some (.lst (ps.map prs)),none,none] []=Wd.loopR (gS 2) b ((ZK J2 ps).map prD) [some (.lst (ps.map prs)),none,none] []:=λb=>by
  unfold Qac QL;rw[unE (x:=.lst (ps.map prs)) rfl sp];rfl
 rw[e,hl];rfl
theorem Qej{α:Type}{f:α->D}(h:∀a,NoI (f a)):∀xs:List α,NoIs (xs.map f)|[]=>.nil|x::xs=>.cons (h x) (Qej h xs)
theorem Qlp(xs:List Str):NoI (QH xs):=.lst (Qej (λa=>.str a) xs) (by cases xs<;>rfl)
theorem Qv6(i:It):NoI i.d:=by cases i with|word w ns=>exact .tup (.cons (.str _) (.cons (.str _) (.cons (Qlp ns) .nil)))|ref l a b=>exact .tup (.cons (.str _) (.cons (.str _) (.cons (.str _) (.cons (.str _) .nil))))|mark l=>exact .tup (.cons (.str _) (.cons (.str _) .nil))|key l=>exact .tup (.cons (.str _) (.cons (.str _) .nil))
theorem Quf(is:List It):NoI (.lst (is.map It.d)):=.lst (Qej Qv6 is) (by cases is with|nil=>rfl|cons i _=>cases i<;>rfl)
theorem Qv7(b:Bk):NoI b.d:=by cases b with|chapter t l=>exact .tup (.cons (.str _) (.cons (.str _) (.cons (.str _) .nil)))|heading t k l=>exact .tup (.cons (.str _) (.cons (.str _) (.cons (.int _) (.cons (.str _) .nil))))|para is=>exact .tup (.cons (.str _) (.cons (Quf is) .nil))|table r l=>exact .tup (.cons (.str _) (.cons (Qlp r) (.cons (.str _) .nil)))|plates n l=>exact .tup (.cons (.str _) (.cons (.int _) (.cons (.str _) .nil)))
theorem Qug(bs:List Bk):NoI (bks bs):=.lst (Qej Qv7 bs) (by cases bs with|nil=>rfl|cons b _=>cases b<;>rfl)
theorem Que(w h:Int)(o li:Bool):NoI (sty w h o li):=.tup (.cons (.int _) (.cons (.int _) (.cons (.bl _) (.cons (.bl _) .nil))))
theorem Qqs(i:Int):Qek [.int i]=some (.bl true):=by unfold Qek Qg5;exact stD rfl (ret (YB (QfX (t:="int") (x:=.int i) rfl rfl) (Qci (b:=false) (QfX (t:="bool") (x:=.int i) rfl rfl))))
theorem QvM(x:Str×List Int):D.eq (prL x) (prL x)=some true:=by
 unfold prL;rw[Ji];refine Z2 _ λy hy=>?_;simp only[mem_cons,not_mem_nil,or_false]at hy;rcases hy with z|z<;>subst z;·exact Yg _
 ·exact QcI QgY _
theorem Qwf(m:KM):D.neO (kmL m) (kmL m)=some (.bl false):=by unfold D.neO kmL;rw[if_pos (by rw[Q6];have:=Y4 QnD m;omega),QcI QvM m];rfl
theorem QwB(l:List Int)(h:l≠[]):ddp l≠[]:=by
 obtain⟨r,x,rfl⟩:=YM l h;rw[QgZ];unfold addI;split;·rename_i z;intro w;rw[w]at z;cases z
 ·simp
theorem QuT(l:List Int):(ddp l).length<=l.length:=by refine Qei (P:=λl=>(ddp l).length<=l.length) (le_refl _) (λl x h=>?_) l;rw[QgZ];have:=QlS (ddp l) x;simp;omega
theorem QuA(ns:List Int):((Qo ns).flatMap iO).length<=61:=by unfold Qo;rw[flatMap_append,length_append];have h1:=(Qao ns (dW ns) (dH ns) (dLi ns)).2;have h2:=(QjL (JS ns) (YU ns)).2;unfold dBk;omega
theorem Qul{i j:Nat}{f:List D->Option D}{l:EvL}{c c1 c2:EvE}{e:Qj}{ds:List D}{T:D}(hl:l e=some ds)(hf:f ds=some T)(h:Qqp i j c c1 c2 ds T e):Qks i j f l c c1 c2 e=some (.nx ((e.set i none).set j none)):=by unfold Qks;rw[hl,bind_some,hf,bind_some,if_pos h]
theorem QsF(ns:List Int):QfY [.scr ns]=some (.bl true):=by
 have dr:QcH [.scr ns]=some (.tup [bks (Qo ns),S0 ns,.int (dR ns)]):=QsY ns;have fw:=Qap ns;have cp:=Qu3 (Qo ns) fw;have nb:=Quh (Qo ns);obtain⟨lo,la,b4,fx,mn⟩:=QsE ns;have jy:=Qut ns lo b4.1;have sb:=(Qe9 ns lo b4.1).1;have hh:=Qe4 ns;obtain⟨c,rows,e1,e2,e3⟩:=Qjp (dW ns) (dH ns) (dO ns) (dLi ns) lo (Qo ns) (by omega) (λb hb=>(Qcr ns b hb).2.2);have gN:QeY ns lo=c::rows:=e1;have up:=QoX (dW ns) (dH ns) (dO ns) (dLi ns) lo (Qo ns) (by omega) (λb hb=>(Qcr ns b hb).2.2) e1;rw[gN]at jy sb;have hq:∀q∈(Qo ns).zip rows,q.2.length=nPl q.1/\Zp (iO q.1):=λq hq=>⟨(e3 q hq).1,Qb8 ns q.1 (of_mem_zip hq).1⟩;have mono:=(QnC (Qo ns) rows hq up).1;have fR:(Q8 (Qo ns) rows).length<64:=by have:=QgT (Qo ns) rows;have:=QuA ns;omega
 have lp:=Qnb (Qo ns) c rows fw e2 hq;have sl:V7 [bks (Qo ns),S0 ns]=some (Jc (c::rows)):=by
  unfold V7 Qdr;exact stD rfl (ret (ZH rfl rfl (ZX rfl rfl la) sb))
 have kd:=QsL (Qo ns) (S0 ns) c rows fw hq fR sl;have du:=Qwv (Q8 (Qo ns) rows) fR;rw[Qpi _ mono]at du;obtain⟨m1,m2,m3⟩:=Qf1 (Q8 (Qo ns) rows);have mo:∀l∈mkM (λk=>ddp (pg k (Q8 (Qo ns) rows))) (ZK Wd.ltS (fk (Q8 (Qo ns) rows))),l.2≠[]/\l.2.length<=500:=λl hl=>by
  obtain⟨k,hk,rfl⟩:=List.mem_map.mp hl;have cM:=(m3 k).mp ((Yq (f:=Wd.ltS) _).mem_iff.mp hk);have pn:pg k (Q8 (Qo ns) rows)≠[]:=by
   obtain⟨x,hx,ex⟩:=List.mem_map.mp cM;unfold pg;rw[Ne,List.map_eq_nil_iff,List.filter_eq_nil_iff];intro h;exact h x hx (by simpa using ex)
  refine⟨QwB _ pn,?_⟩;have h1:=QuT (pg k (Q8 (Qo ns) rows));have h2:(pg k (Q8 (Qo ns) rows)).length<=(Q8 (Qo ns) rows).length:=by unfold pg;rw[length_map];exact length_filter_le _ _
  show(ddp (pg k (Q8 (Qo ns) rows))).length<=500;omega
 have ml:(mkM (λk=>ddp (pg k (Q8 (Qo ns) rows))) (ZK Wd.ltS (fk (Q8 (Qo ns) rows)))).length<=400:=by
  have h1:(mkM (λk=>ddp (pg k (Q8 (Qo ns) rows))) (ZK Wd.ltS (fk (Q8 (Qo ns) rows)))).length=(fk (Q8 (Qo ns) rows)).length:=by unfold mkM;rw[length_map];exact(Yq _).length_eq
  have l:∀(ks:List (Str×Int))(m:List Str),(ks.foldl fkS m).length<=m.length+ks.length:=λks=>by induction ks with|nil=>intro m;simp|cons k ks ih=>
    intro m;have:=ih (fkS m k);have h:(fkS m k).length<=m.length+1:=by unfold fkS;split<;>simp
    rw[foldl_cons,length_cons];omega
  have h2:=l (Q8 (Qo ns) rows) [];have h3:fk (Q8 (Qo ns) rows)=(Q8 (Qo ns) rows).foldl fkS []:=rfl;rw[<-h3]at h2;simp at h2;omega
 have ni:NoIs [bks (Qo ns),S0 ns]:=.cons (Qug _) (.cons (Que _ _ _ _) .nil);clear mono up e3 hq m1 m2 m3 sb mn;generalize mkM (λk=>ddp (pg k (Q8 (Qo ns) rows))) (ZK Wd.ltS (fk (Q8 (Qo ns) rows)))=m at*;have ne:=Qwf m;generalize D.lst ((Q8 (Qo ns) rows).map prs)=PS at*;generalize Jc (c::rows)=TT at*;generalize S0 ns=S at*;generalize bks (Qo ns)=B at*;generalize D.lst (lo.map .int)=LO at*;unfold QfY QoO;refine stD rfl ?_;refine st (e1:=[some (.scr ns),some B,some S,some (.int (dR ns)),none,none,none,none,none]) (asg (QN rfl dr) rfl) ?_;refine st (e1:=[some (.scr ns),some B,some S,some (.int (dR ns)),some (kmL m),none,none,none,none]) (asg (QN (ZX rfl (ZH rfl rfl (ZX rfl rfl la) jy) lp) du) rfl) ?_;refine st (e1:=[some (.scr ns),some B,some S,some (.int (dR ns)),some (kmL m),some B,none,none,none]) (asg (QN rfl cp) rfl) ?_;refine QoD 2 (λ_ e=>∃a b v,e=[some (.scr ns),some B,some S,some (.int (dR ns)),some (kmL m),some B,a,b,v]) rfl ⟨none,none,none,rfl⟩ ?_ ?_
 ·rintro k hk e⟨a,b,v,rfl⟩;refine⟨[some (.scr ns),some B,some S,some (.int (dR ns)),some (kmL m),some B,some (.int (0+(k:Int))),none,none],.inl ?_,_,_,_,rfl⟩;refine bnd (e1:=[some (.scr ns),some B,some S,some (.int (dR ns)),some (kmL m),some B,some (.int (0+(k:Int))),b,v]) rfl ?_;refine Qul (ds:=[B,S]) rfl kd ?_
  ·refine⟨ni,⟨m,rfl,ml,mo⟩,by simp,by simp,?_,λx is hl=>⟨?_,?_⟩⟩;·exact orF (Qci (b:=true) (QfX (x:=kmL m) rfl rfl)) (orF (opE (x:=kmL m) (y:=kmL m) rfl rfl ne) (opE (x:=B) (y:=B) rfl rfl nb))
   ·exact orF (Qci (b:=true) (QfX (x:=prL (x,is)) rfl rfl)) (orF (Qci (b:=true) (QfX (x:=.str x) (opE (x:=prL (x,is)) rfl rfl rfl) rfl)) (Qci (b:=true) (QfX (x:=.lst (is.map .int)) (opE (x:=prL (x,is)) rfl rfl rfl) rfl)))
   ·refine opE (x:=.lst []) (y:=.lst []) ?_ rfl (Qkx (f:=D.int) (n:=0) (λa=>by rw[Qr];exact le_refl _) (by decide) []);refine Eq.trans (Zh D.int is (λe=>∃a,e=[a]) (λ_=>false) D.int ?_ (le_of_lt (Zv (by omega))) ⟨none,rfl⟩ ?_) ?_
    ·unfold QL;rw[opE (x:=prL (x,is)) (y:=.int 1) rfl rfl (show D.ix (prL (x,is)) (.int 1)=some (.lst (is.map .int))from rfl)];rfl
    ·rintro i hi e⟨a,rfl⟩;exact⟨[some (.int i)],rfl,⟨_,rfl⟩,Qci (b:=true) (QN rfl (Qqs i)),λh=>by cases h⟩
    ·rw[List.filter_eq_nil_iff.mpr (by simp)];rfl
 ·rintro e⟨a,b,v,rfl⟩;exact ret rfl
end
section
open PySem PySem.Spec PyProof.Rows L2 Wd
noncomputable def top(i:Nat):Stmt:=PySem.Challenge.pw_leastbook_k26_keys_and_pages.main.body.getD i (.Pass ⟨0,0,0,0⟩)
abbrev Qfr:Stmt:=top 17
abbrev QkL:Stmt:=top 18
abbrev QcP:Stmt:=top 19
abbrev Qdo:Stmt:=top 20
abbrev Qfp:Stmt:=top 21
abbrev Qeq:Stmt:=top 22
abbrev Qev:Stmt:=top 23
abbrev Qdm:Stmt:=top 24
abbrev Qer:Stmt:=top 25
abbrev QbQ:Stmt:=top 26
abbrev QcN:Stmt:=top 27
abbrev Qeu:Stmt:=top 29
abbrev Qdn:Stmt:=top 30
abbrev QgM:Stmt:=top 31
abbrev Qes:Stmt:=top 32
abbrev Qet:Stmt:=top 33
abbrev Qhu:Stmt:=top 34
abbrev Qby:Stmt:=top 35
abbrev Vx:Stmt:=top 36
abbrev Qbf:Stmt:=top 37
abbrev QaU:Stmt:=top 38
abbrev QaY:Stmt:=top 39
abbrev Qbi:Stmt:=top 40
abbrev QaZ:Stmt:=top 41
abbrev Qbj:Stmt:=top 42
abbrev Qdp:Stmt:=top 43
abbrev QaX:Stmt:=top 44
abbrev Qbh:Stmt:=top 45
abbrev Vy:Stmt:=top 46
abbrev Qbg:Stmt:=top 47
abbrev QkJ:Stmt:=top 48
abbrev Qbe:Stmt:=top 50
abbrev Qdk:Stmt:=top 51
abbrev Qdl:Stmt:=top 52
abbrev Qep:Stmt:=top 53
abbrev QcO:Stmt:=top 54
abbrev QbR:Stmt:=top 55
abbrev QkK:Stmt:=top 56
abbrev VW:Stmt:=top 58
abbrev Qfq:Stmt:=top 59
abbrev QiA:Stmt:=top 60
abbrev Qdj:Stmt:=top 61
abbrev Qew:Stmt:=top 63
abbrev Qf3:Stmt:=top 64
abbrev Qez:Stmt:=top 66
abbrev QgN:Stmt:=top 67
abbrev QkM:Stmt:=top 68
abbrev QgQ:Stmt:=top 69
abbrev Qfs:Stmt:=top 70
abbrev QgO:Stmt:=top 71
abbrev QdH:Stmt:=top 72
abbrev Qex:Stmt:=top 73
abbrev Qey:Stmt:=top 74
abbrev Qf5:Stmt:=top 75
abbrev YZ:Stmt:=top 76
abbrev Qf4:Stmt:=top 77
abbrev Qcu:Stmt:=top 78
abbrev QiB:Stmt:=top 79
abbrev QgP:Stmt:=top 80
abbrev QkN:Stmt:=top 81
abbrev Qhn:Stmt:=top 82
structure Txt(K:Fg)(mg:Str->Option Value):Prop where
 g_FOOT:∃t,mg "FOOT"=some (.int 3 t)g_HEIGHT:∃t,mg "HEIGHT"=some (.int 1 t)g_LINE:∃t,mg "LINE"=some (.int 1 t)g_LISTED:∃t,mg "LISTED"=some (.int 3 t)g_ODD:∃t,mg "ODD"=some (.int 2 t)g_PAGE:∃t,mg "PAGE"=some (.int 0 t)g_USED:∃t,mg "USED"=some (.int 2 t)g_WIDTH:∃t,mg "WIDTH"=some (.int 0 t)b_any:mg "any"=none
 b_bool:mg "bool"=none
 b_enumerate:mg "enumerate"=none
 b_int:mg "int"=none
 b_isinstance:mg "isinstance"=none
 b_len:mg "len"=none
 b_list:mg "list"=none
 b_max:mg "max"=none
 b_range:mg "range"=none
 b_sorted:mg "sorted"=none
 b_str:mg "str"=none
 b_sum:mg "sum"=none
 b_tuple:mg "tuple"=none
 b_zip:mg "zip"=none
 z:True
section
variable{P:Program}{w:World}{K:Fg}{mg:Str->Option Value}{ab:Heap}
abbrev VJ:List Str:=["number"]
abbrev Qcm:List Str:=["page"]
noncomputable abbrev Yh:List Str:=["style","state","lines"]
noncomputable abbrev YG:List Str:=["style","state","size"]
noncomputable abbrev VI:List Str:=["page","line","column","size","foot"]
noncomputable abbrev QaJ:List Str:=["style","state","size","rows"]
noncomputable abbrev Qh2:List Str:=["style","state","size","rows","page","line","used","foot","column"]
abbrev Y9:List Str:=["state"]
noncomputable abbrev V6:List Str:=["style","state","rows","keep"]
abbrev Qgt:List Str:=["style","state","rows","keep","start","place"]
abbrev Y5:List Str:=["state"]
abbrev Vi:List Str:=["style","state"]
abbrev QeU:List Str:=["style","state","start"]
abbrev VL:List Str:=["state","many"]
noncomputable abbrev QfQ:List Str:=["state","many","page"]
abbrev Y8:List Str:=["style"]
abbrev YF:List Str:=["block"]
abbrev Qam:List Str:=["item"]
abbrev Y6:List Str:=["block"]
abbrev Y7:List Str:=["block"]
abbrev Qfc:List Str:=["book"]
noncomputable abbrev Qk6:List Str:=["book","labels","block"]
abbrev Z9:List Str:=["block","style"]
abbrev Zb:List Str:=["book","style"]
abbrev ZM:List Str:=["book","style"]
abbrev ZT:List Str:=["texts","width"]
noncomputable abbrev Yx:List Str:=["block","style","room"]
noncomputable abbrev Qda:List Str:=["block","style","room","beside"]
noncomputable abbrev ZO:List Str:=["item","style","room"]
abbrev Zz:List Str:=["block","style"]
abbrev ZP:List Str:=["item","style"]
noncomputable abbrev YH:List Str:=["label","number","known"]
noncomputable abbrev Zy:List Str:=["block","number","style","room","known"]
noncomputable abbrev ZN:List Str:=["item","number","style","room","known"]
noncomputable abbrev Yw:List Str:=["items","number","style","room","known"]
noncomputable abbrev Qa5:List Str:=["items","number","style","room","known","words_left","item"]
abbrev YQ:List Str:=["book","known"]
noncomputable abbrev QdZ:List Str:=["book","known","number","block","label"]
abbrev Qfd:List Str:=["book","style"]
noncomputable abbrev Qqm:List Str:=["book","style","room","known","number","block"]
abbrev YO:List Str:=["book","style"]
abbrev QdY:List Str:=["book","style","places","state","block","put"]
noncomputable abbrev V5:List Str:=["items","style","state","rooms"]
abbrev Qgs:List Str:=["items","style","state","rooms","places","refs_set","item","size","put"]
noncomputable abbrev YE:List Str:=["block","style","state"]
noncomputable abbrev QaI:List Str:=["book","style","rooms"]
abbrev Qh1:List Str:=["book","style","rooms","put","told","state","refs_set","block"]
noncomputable abbrev VM:List Str:=["items","places","kind"]
noncomputable abbrev QfR:List Str:=["items","places","kind","found","words_set","item"]
abbrev Vj:List Str:=["book","told"]
noncomputable abbrev QeV:List Str:=["book","told","pages","block","places","label","page"]
noncomputable abbrev Qcl:List Str:=["book","style","rooms"]
noncomputable abbrev YR:List Str:=["book","style","rooms"]
noncomputable abbrev Qbs:List Str:=["book","style","rooms","pages"]
noncomputable abbrev QbH:List Str:=["book","style","first"]
noncomputable abbrev QjZ:List Str:=["book","style","first","rooms","wanted"]
abbrev Qa8:List Str:=["book","style"]
abbrev YD:List Str:=["book","style"]
abbrev QaK:List Str:=["pages","page"]
abbrev QdK:List Str:=["book","style"]
noncomputable abbrev Qi2:List Str:=["book","style","told","found","block","places","key","page"]
noncomputable abbrev Va:List Str:=["_law_script","_law_k"]
abbrev Qan:List Str:=["_law_found"]
noncomputable abbrev Qfe:List Str:=["_law_cell","_law_turn"]
noncomputable abbrev Qqn:List Str:=["_law_cell","_law_turn","_law_number"]
abbrev Qcz:List Str:=["_law_k"]
noncomputable abbrev QlV:List Str:=["_law_k","_law_some"]
noncomputable abbrev QbI:List Str:=["_law_cell","_law_number"]
noncomputable abbrev Qj0:List Str:=["_law_cell","_law_number","_law_ten","_law_k"]
noncomputable abbrev Qcw:List Str:=["_law_number","_law_size","_law_gaps"]
noncomputable abbrev QlT:List Str:=["_law_number","_law_size","_law_gaps","_law_some","_law_found","_law_k","_law_at","_law_sign"]
noncomputable abbrev QdO:List Str:=["_law_cell","_law_k"]
noncomputable abbrev Qgg:List Str:=["_law_cell","_law_k","_law_number","_law_kind","_law_size","_law_many","_law_text","_law_word","_law_label_here","_law_name"]
noncomputable abbrev QaL:List Str:=["_law_atoms","_law_cells"]
noncomputable abbrev Qh3:List Str:=["_law_atoms","_law_cells","_law_labels","_law_atom_here","_law_found","_law_k","_law_label_here"]
abbrev QaM:List Str:=["_law_atoms"]
noncomputable abbrev Qh4:List Str:=["_law_atoms","_law_book","_law_row","_law_atom_here"]
noncomputable abbrev QdM:List Str:=["_law_script","_law_style"]
noncomputable abbrev Qi4:List Str:=["_law_script","_law_style","_law_many","_law_ten","_law_k","_law_row"]
noncomputable abbrev Qcy:List Str:=["_law_book","_law_room"]
noncomputable abbrev VH:List Str:=["_law_book","_law_room","_law_wide","_law_high","_law_block","_law_notes","_law_rows"]
noncomputable abbrev QdL:List Str:=["_law_book","_law_listed"]
noncomputable abbrev Qi3:List Str:=["_law_book","_law_listed","_law_most_here","_law_block"]
abbrev QcA:List Str:=["_law_script"]
noncomputable abbrev Qen:List Str:=["_law_script","_law_every","_law_cells","_law_book","_law_listed","_law_edge_here","_law_room","_law_wide","_law_high","_law_width","_law_height","_law_style"]
abbrev QdN:List Str:=["_law_book"]
noncomputable abbrev Qog:List Str:=["_law_book","_law_found","_law_block","_law_row","_law_item"]
noncomputable abbrev Qcx:List Str:=["_law_book","_law_places"]
noncomputable abbrev QlU:List Str:=["_law_book","_law_places","_law_found","_law_k","_law_many","_law_item"]
noncomputable abbrev Qff:List Str:=["_law_pairs_here"]
noncomputable abbrev Qqo:List Str:=["_law_pairs_here","_law_found","_law_pair"]
abbrev Qtj:List Str:=["_law_script"]
noncomputable abbrev QoR:List Str:=["_law_script","_law_book","_law_style","_law_room","_law_due_here","_law_handed","_law_k","_law_found","_law_one"]
section
variable(P:Program)(w:World)(K:Fg)(mg:Str->Option Value)(ab:Heap)
abbrev QfF:=Cal P w K mg ab 1 "figures" VJ (spD K Qax)
abbrev QdG:=Cal P w K mg ab 1 "bare" Qcm (spD K QaF)
abbrev QcV:=Cal P w K mg ab 1 "has_height" Yh (spD K YN)
abbrev Qgy:=Cal P w K mg ab 1 "has_width" YG (spD K QbA)
abbrev Qj1:=Cal P w K mg ab 1 "word_at" VI (spD K Qaw)
abbrev Qh6:=Cal P w K mg ab 2 "put_word" QaJ (spD K QaP)
abbrev QeR:=Cal P w K mg ab 1 "end_line" Y9 (spD K QaR)
abbrev QdA:=Cal P w K mg ab 2 "put_block" V6 (spD K YI)
abbrev QeP:=Cal P w K mg ab 2 "new_page" Y5 (spD K QaQ)
abbrev QbV:=Cal P w K mg ab 3 "new_chapter" Vi (spD K Vk)
abbrev QfS:=Cal P w K mg ab 3 "put_plates" VL (spD K QaV)
abbrev Qh7:=Cal P w K mg ab 1 "is_style" Y8 (spD K Qb4)
abbrev QbC:=Cal P w K mg ab 1 "is_titled" YF (spD K Vq)
abbrev QcM:=Cal P w K mg ab 1 "is_set" Qam (spD K Ye)
abbrev QeQ:=Cal P w K mg ab 1 "label_of" Y6 (spD K Yv)
abbrev VV:=Cal P w K mg ab 1 "items_of" Y7 (spD K JH)
abbrev Qfl:=Cal P w K mg ab 2 "refs" Qfc (spD K Z4)
abbrev Qgx:=Cal P w K mg ab 2 "pages_for" Z9 (spD K Vp)
abbrev Qdb:=Cal P w K mg ab 3 "pages_at_most" Zb (spD K Vz)
abbrev Qd1:=Cal P w K mg ab 4 "room_at_most" ZM (spD K VY)
abbrev QcW:=Cal P w K mg ab 1 "any_longer" ZT (spD K VN)
abbrev Qde:=Cal P w K mg ab 2 "is_wide_block" Yx (spD K Zc)
abbrev Qd4:=Cal P w K mg ab 2 "is_wide_item" ZO (spD K VZ)
abbrev Qdf:=Cal P w K mg ab 1 "is_high_block" Zz (spD K VA)
abbrev Qd5:=Cal P w K mg ab 1 "is_high_item" ZP (spD K V0)
abbrev QdB:=Cal P w K mg ab 1 "add_label" YH (spM K Qaa)
abbrev Qdd:=Cal P w K mg ab 3 "look_at_block" Zy (spM K Yz)
abbrev Qd3:=Cal P w K mg ab 3 "look_at_item" ZN (spM K YT)
abbrev Qdc:=Cal P w K mg ab 4 "look_at_items" Yw (spM K Yy)
abbrev Qd2:=Cal P w K mg ab 3 "look_at_refs" YQ (spD K YS)
abbrev Qk7:=Cal P w K mg ab 5 "look" Qfd (spD K QbF)
abbrev Qd0:=Cal P w K mg ab 4 "set_contents" YO (spD K VX)
abbrev Qgv:=Cal P w K mg ab 3 "set_items" V5 (spD K V8)
abbrev Qgw:=Cal P w K mg ab 4 "set_block" YE (spD K V9)
abbrev Qb9:=Cal P w K mg ab 5 "set_book" QaI (spD K Yu)
abbrev QcU:=Cal P w K mg ab 2 "pages_with" VM (spD K J4)
abbrev QeW:=Cal P w K mg ab 3 "label_pages" Vj (spD K Yl)
abbrev Qqq:=Cal P w K mg ab 6 "laid" Qcl (spD K QhC)
abbrev Qd6:=Cal P w K mg ab 6 "figures_told" YR (spD K ZQ)
abbrev Qj2:=Cal P w K mg ab 7 "settled" QbH (spD K Qc5)
abbrev Qi5:=Cal P w K mg ab 8 "least" Qa8 (spD K QdS)
abbrev Qgu:=Cal P w K mg ab 9 "set_least" YD (spD K V7)
abbrev Qoh:=Cal P w K mg ab 10 "keyed" QdK (spO K Qgc)
abbrev QeS:=Cal P w K mg ab 1 "_law_cell_at" Va (spD K Jm)
abbrev QlW:=Cal P w K mg ab 1 "_law_whole" Qan (spD K Qek)
abbrev Qfm:=Cal P w K mg ab 1 "_law_mix" Qfe (spD K YL)
abbrev Ql0:=Cal P w K mg ab 1 "_law_label" Qcz (spD K Qbc)
abbrev Qj3:=Cal P w K mg ab 1 "_law_plates" QbI (spD K Qc6)
abbrev QlX:=Cal P w K mg ab 1 "_law_signs" Qcw (spD K Y3)
abbrev Qol:=Cal P w K mg ab 2 "_law_atom" QdO (spD K Qat)
abbrev Qh8:=Cal P w K mg ab 2 "_law_pointed" QaL (spD K Qb6)
abbrev Qh9:=Cal P w K mg ab 1 "_law_grouped" QaM (spD K Vb)
abbrev Qoj:=Cal P w K mg ab 2 "_law_edge" QdM (spD K QdU)
abbrev QlZ:=Cal P w K mg ab 1 "_law_needs" Qcy (spD K QcG)
abbrev Qoi:=Cal P w K mg ab 1 "_law_most" QdL (spD K QdT)
abbrev Ql1:=Cal P w K mg ab 3 "_law_drawn" QcA (spD K QcH)
abbrev Qok:=Cal P w K mg ab 1 "_law_copy" QdN (spD K Qgd)
abbrev QlY:=Cal P w K mg ab 1 "_law_pairs" Qcx (spD K Qel)
abbrev Qqr:=Cal P w K mg ab 1 "_law_due" Qff (spD K QhD)
end
section
variable(P:Program)(w:World)(K:Fg)(mg:Str->Option Value)(ab:Heap)
abbrev Qh5:=Cal P w K mg ab 1 "add_page" QaK (spA K Qb5)
end
theorem Qo2:FnScope VJ VJ (Qa Qfr):=by constructor<;>first|rfl|decide+kernel
theorem Qpc(h:Df K mg "figures" Qfr VJ)(T:Txt K mg):QfF P w K mg ab:=okD VJ VJ QfC 0 h Qo2 λnd=>λhr=>So (Ql (Jb QI rfl T.b_len boot_len (dr (QhG QjP rfl T.b_str boot_str (dv 0)))))
theorem QtH:FnScope Qcm Qcm (Qa QkL):=by constructor<;>first|rfl|decide+kernel
theorem Qua(h:Df K mg "bare" QkL Qcm)(T:Txt K mg):QdG P w K mg ab:=okD Qcm Qcm QkY 0 h QtH λnd=>λhr=>So (Ql (QR (dn 0 (Dk QA (Dk QA (Dk QA Dz)))) lz4))
theorem Qj8:FnScope Yh Yh (Qa QcP):=by constructor<;>first|rfl|decide+kernel
theorem Qkf(h:Df K mg "has_height" QcP Yh)(T:Txt K mg):QcV P w K mg ab:=okD Yh Yh QcS 0 h Qj8 λnd=>λhr=>So (Ql (Zx (QdD hr.units0) (dr (Qb Qe (dr (Qb Qe (dr (Qz (dv 1) (dr (QO T.g_LINE rfl)))) (dr (Qz (dv 1) (dr (QO T.g_FOOT rfl)))))) (dv 2))) (dr (Qz (dv 0) (dr (QO T.g_HEIGHT rfl)))) (JJ _)))
theorem Qmb:FnScope YG YG (Qa Qdo):=by constructor<;>first|rfl|decide+kernel
theorem Qml(h:Df K mg "has_width" Qdo YG)(T:Txt K mg):Qgy P w K mg ab:=okD YG YG Qdx 0 h Qmb λnd=>λhr=>So (Ql (Qxi (dr (Zx (V1 hr.units) (dr (Qz (dv 1) (dr (QO T.g_USED rfl)))) dq (JJ _))) (Qcq (Zx (QdD hr.units0) (dr (Qb Qe (dr (Qb Qe (dr (Qz (dv 1) (dr (QO T.g_USED rfl)))) dq)) (dv 2))) (dr (Qz (dv 0) (dr (QO T.g_WIDTH rfl)))) (JJ _)))))
theorem Qo0:FnScope VI VI (Qa Qfp):=by constructor<;>first|rfl|decide+kernel
theorem Qpa(h:Df K mg "word_at" Qfp VI)(T:Txt K mg):Qj1 P w K mg ab:=okD VI VI QfA 0 h Qo0 λnd=>λhr=>So (Ql (QR (Dt (QR (dn 0 (dn 1 (dn 2 Dz))) lz3) (Dt (QR (dn 0 (dn 1 (Db (Qb Qe (dv 2) (dv 3)) (dn 4 Dz)))) lz4) Dz)) lz2))
theorem QmL:FnScope Qh2 QaJ (Qa Qeq):=by constructor<;>first|rfl|decide+kernel
theorem QmX(h:Df K mg "put_word" Qeq QaJ)(T:Txt K mg)(av:QcV P w K mg ab)(bw:Qgy P w K mg ab)(bf:Qj1 P w K mg ab):Qh6 P w K mg ab:=okD Qh2 QaJ QeE 1 h QmL (λnd=>λhr=>(by refine Ss (O1:=[]) ?_ ?_;exact(Qf 4 nd (Qz (dv 1) (dr (QO T.g_PAGE rfl))));refine Ss (O1:=[]) ?_ ?_;exact(Qf 5 nd (Qz (dv 1) (dr (QO T.g_LINE rfl))));refine Ss (O1:=[]) ?_ ?_;exact(Qf 6 nd (Qz (dv 1) (dr (QO T.g_USED rfl))));refine Ss (O1:=[]) ?_ ?_;exact(Qf 7 nd (Qb Qe (dr (Qz (dv 1) (dr (QO T.g_FOOT rfl)))) (dv 3)));refine Ss (O1:=[]) ?_ ?_;exact(Qy (PW.pt (V2 (Jy (dr (dc bw hr (dn 0 (dn 1 (dn 2 Dz)))))) (Zw (Jy (dr (dc av hr (dn 0 (dn 1 (Db (Qb Qe dq (dv 3)) Dz))))))))) (Ss (O1:=[]) (Qf 8 nd (QkD (dE hr (dv 6) dq) QA (Qb Qe (dv 6) dq))) (So (Ql (dc bf hr (dn 4 (dn 5 (dn 8 (dn 2 (dn 7 Dz))))))))) Sn);refine Ss (O1:=[]) ?_ ?_;exact(Qy (PW.pt (V2 (Vg QbE (dv 6) dq (JJ _)) (Zw (Jy (dr (dc av hr (dn 0 (dn 1 (Db (Qb Qe dq (dv 3)) Dz))))))))) (So (Ql (dc bf hr (dn 4 (Db (Qb Qe (dv 5) dq) (Dk QA (dn 2 (dn 7 Dz)))))))) Sn);exact(So (Ql (dc bf hr (Db (Qb Qe (dv 4) dq) (Dk QA (Dk QA (dn 2 (dn 3 Dz))))))))))
theorem QmQ:FnScope Y9 Y9 (Qa Qev):=by constructor<;>first|rfl|decide+kernel
theorem Qm2(h:Df K mg "end_line" Qev Y9)(T:Txt K mg):QeR P w K mg ab:=okD Y9 Y9 QeJ 0 h QmQ λnd=>λhr=>Ss (O1:=[]) (Qy (dE hr (dr (Qz (dv 0) (dr (QO T.g_USED rfl)))) dq) (So (Ql (Qs 0))) Sn) (So (Ql (QR (Du (Qz (dv 0) (dr (QO T.g_PAGE rfl))) (Db (Qb Qe (dr (Qz (dv 0) (dr (QO T.g_LINE rfl)))) dq) (Dk QA (Du (Qz (dv 0) (dr (QO T.g_FOOT rfl))) Dz)))) lz4)))
theorem Ql8:FnScope Qgt V6 (Qa Qdm):=by constructor<;>first|rfl|decide+kernel
theorem Qmi(h:Df K mg "put_block" Qdm V6)(T:Txt K mg)(aD:QdG P w K mg ab)(aJ:QeR P w K mg ab)(av:QcV P w K mg ab):QdA P w K mg ab:=okD Qgt V6 Qdu 1 h Ql8 λnd=>λhr=>by refine Ss (O1:=[]) ? _ ? _;exact Qf 4 nd (dc aJ hr (dn 1 Dz));refine Ss (O1:=[]) ? _ ? _;exact Qy (QbG (Jy (dr (dc av hr (dn 0 (dn 4 (Db (Qb Qe (dv 2) (dv 3)) Dz))))))) (So (Qf 4 nd (dc aD hr (Db (Qb Qe (dr (Qz (dv 4) (dr (QO T.g_PAGE rfl)))) dq) Dz)))) Sn;exact Ss (O1:=[]) (Qf 5 nd (QR (Du (Qz (dv 4) (dr (QO T.g_PAGE rfl))) (Du (Qz (dv 4) (dr (QO T.g_LINE rfl))) (Dk QA Dz))) lz3)) (So (Ql (QR (dn 5 (Dt (QR (Du (Qz (dv 4) (dr (QO T.g_PAGE rfl))) (Db (Qb Qe (dr (Qz (dv 4) (dr (QO T.g_LINE rfl)))) (dv 2)) (Dk QA (Du (Qz (dv 4) (dr (QO T.g_FOOT rfl))) Dz)))) lz4) Dz)) lz2)))
theorem QmM:FnScope Y5 Y5 (Qa Qer):=by constructor<;>first|rfl|decide+kernel
theorem QmY(h:Df K mg "new_page" Qer Y5)(T:Txt K mg)(aD:QdG P w K mg ab):QeP P w K mg ab:=okD Y5 Y5 QeF 1 h QmM λnd=>λhr=>Ss (O1:=[]) (Qy (dE hr (dv 0) (dr (dc aD hr (Du (Qz (dv 0) (dr (QO T.g_PAGE rfl))) Dz)))) (So (Ql (Qs 0))) Sn) (So (Ql (dc aD hr (Db (Qb Qe (dr (Qz (dv 0) (dr (QO T.g_PAGE rfl)))) dq) Dz))))
theorem Qi8:FnScope QeU Vi (Qa QbQ):=by constructor<;>first|rfl|decide+kernel
theorem Qjb(h:Df K mg "new_chapter" QbQ Vi)(T:Txt K mg)(aD:QdG P w K mg ab)(aI:QeP P w K mg ab):QbV P w K mg ab:=okD QeU Vi QbT 2 h Qi8 λnd=>λhr=>by refine Ss (O1:=[]) ? _ ? _;exact Qf 2 nd (dc aI hr (dn 1 Dz));refine Ss (O1:=[]) ? _ ? _;exact Qy (PW.pt (V2 (Jy (dr (Qz (dv 0) (dr (QO T.g_ODD rfl))))) (Zw (dE hr (dr (Qb Q0 (dr (Qz (dv 2) (dr (QO T.g_PAGE rfl)))) dq)) dq)))) (So (Ql (dc aD hr (Db (Qb Qe (dr (Qz (dv 2) (dr (QO T.g_PAGE rfl)))) dq) Dz)))) Sn;exact So (Ql (Qs 2))
theorem Qj6:FnScope QfQ VL (Qa QcN):=by constructor<;>first|rfl|decide+kernel
theorem Qkd(h:Df K mg "put_plates" QcN VL)(T:Txt K mg)(aD:QdG P w K mg ab)(aI:QeP P w K mg ab):QfS P w K mg ab:=okD QfQ VL QcR 2 h Qj6 λnd=>λhr=>Ss (O1:=[]) (Qf 2 nd (Qz (dr (dc aI hr (dn 0 Dz))) (dr (QO T.g_PAGE rfl)))) (So (Ql (QR (Dt (QR (dn 2 (Dk QA (Dk QA Dz))) lz3) (Dl (dc aD hr (Db (Qb Qe (dv 2) (dv 1)) Dz)) Dz)) lz2)))
theorem QmP:FnScope Y8 Y8 (Qa Qeu):=by constructor<;>first|rfl|decide+kernel
theorem Qm1(h:Df K mg "is_style" Qeu Y8)(T:Txt K mg):Qh7 P w K mg ab:=okD Y8 Y8 QeI 0 h QmP λnd=>λhr=>So (Ql (QdF (dr (QlH (QdD hr.units0) (QdD hr.units0) dq (dr (Qz (dv 0) (dr (QO T.g_WIDTH rfl)))) dq)) (Qcq (QlH (QdD hr.units0) (QdD hr.units0) dq (dr (Qz (dv 0) (dr (QO T.g_HEIGHT rfl)))) dq))))
theorem Qma:FnScope YF YF (Qa Qdn):=by constructor<;>first|rfl|decide+kernel
theorem Qmk(h:Df K mg "is_titled" Qdn YF)(T:Txt K mg):QbC P w K mg ab:=okD YF YF Qdw 0 h Qma λnd=>λhr=>So (Ql (Zx Qhx (dx 0) (dr (QR (Dk Qd (Dk Qd Dz)) lz2)) (by with_unfolding_all rfl)))
theorem Qqz:FnScope Qam Qam (Qa QgM):=by constructor<;>first|rfl|decide+kernel
theorem QqP(h:Df K mg "is_set" QgM Qam)(T:Txt K mg):QcM P w K mg ab:=okD Qam Qam Qg4 0 h Qqz λnd=>λhr=>So (Ql (Zx Qhx (dx 0) (dr (QR (Dk Qd (Dk Qd Dz)) lz2)) (by with_unfolding_all rfl)))
theorem QmN:FnScope Y6 Y6 (Qa Qes):=by constructor<;>first|rfl|decide+kernel
theorem QmZ(h:Df K mg "label_of" Qes Y6)(T:Txt K mg):QeQ P w K mg ab:=okD Y6 Y6 QeG 0 h QmN λnd=>λhr=>So (Ql (QkD (dE hr (dx 0) (dr Qd)) Qd (Qz (dv 0) (dr (QaH dq)))))
theorem QmO:FnScope Y7 Y7 (Qa Qet):=by constructor<;>first|rfl|decide+kernel
theorem Qm0(h:Df K mg "items_of" Qet Y7)(T:Txt K mg):VV P w K mg ab:=okD Y7 Y7 QeH 0 h QmO λnd=>λhr=>So (Ql (QkD (dE hr (dx 0) (dr Qd)) (dy 0) (Jd Dz lz0)))
theorem QtE:FnScope Qk6 Qfc (Qa Qhu):=by constructor<;>first|rfl|decide+kernel
theorem Qt7(h:Df K mg "refs" Qhu Qfc)(T:Txt K mg)(aj:VV P w K mg ab):Qfl P w K mg ab:=okD Qk6 Qfc QkV 1 h QtE (λnd=>λhr=>(by refine Ss (O1:=[1]) ?_ ?_;exact(Zs 1 nd (Yp Dz lz0));refine Ss (O1:=[1]) ?_ ?_;refine JL rfl PassesOwn.never ?_ ?_ ?_;exact(Jf (Qs 0));exact Qq 2 nd;refine So ?_;refine Qwx 1 (by decide) ?_;refine dr ?_;refine Zm ?_;refine Zg rfl rfl (Jo (show J7 (Qa Qhu) Qk6 _ 1 ["item"] []=true by decide+kernel)) (by decide) ?_ ?_ ?_ ?_;exact(dih (Jf (dc aj hr (dn 2 Dz))));exact λ_ _ _ _ _ _=>Qq 0 (show List.Nodup (["item"]:List Str)by decide+kernel);exact λ_ _ _ _ _ _=>(Qau (dE hr (dx 0) (dr Qd)));exact λ_ _ _ _ _ _=>(dy 0);exact(Ze 1 (So (Ql (Qs 1))))))
theorem Ql9:FnScope Z9 Z9 (Qa Qby):=by constructor<;>first|rfl|decide+kernel
theorem Qmj(h:Df K mg "pages_for" Qby Z9)(T:Txt K mg)(aq:QcM P w K mg ab)(ao:QbC P w K mg ab)(aj:VV P w K mg ab):Qgx P w K mg ab:=okD Z9 Z9 Qdv 1 h Ql9 (λnd=>λhr=>(by refine Ss (O1:=[]) ?_ ?_;exact(Qy (dE hr (dx 0) (dr Qd)) (So (Ql (Qb Qe dq (dx 0)))) Sn);refine Ss (O1:=[]) ?_ ?_;exact(Qy (PW.pt (V2 (Jy (dr (dc ao hr (dn 0 Dz)))) (Zw (Jy (dr (Qz (dv 1) (dr (QO T.g_LISTED rfl)))))))) (So (Ql QA)) Sn);refine So ?_;refine Ql ?_;refine Qb Qe ?_ ?_;exact dq;refine dr ?_;refine Qb ZA ?_ ?_;exact dq;refine dr ?_;refine Jb QI rfl T.b_len boot_len ?_;refine dr ?_;refine Zm ?_;refine Zg rfl rfl (Jo (show J7 (Qa Qby) Z9 _ 1 ["item"] []=true by decide+kernel)) (by decide) ?_ ?_ ?_ ?_;exact(dih (Jf (dc aj hr (dn 0 Dz))));exact λ_ _ _ _ _ _=>Qq 0 (show List.Nodup (["item"]:List Str)by decide+kernel);exact λ_ _ _ _ _ _=>(Qau (Jy (dr (dc aq hr (dn 0 Dz)))));exact λ_ _ _ _ _ _=>Qs 0))
theorem Qhf:FnScope Zb Zb (Qa Vx):=by constructor<;>first|rfl|decide+kernel
theorem Qhi(h:Df K mg "pages_at_most" Vx Zb)(T:Txt K mg)(bu:Qgx P w K mg ab):Qdb P w K mg ab:=okD Zb Zb Qa2 2 h Qhf (λnd=>λhr=>(by refine So ?_;refine Ql ?_;refine Qb Qe ?_ ?_;exact dq;refine dr ?_;refine Jb (Qry rfl) rfl T.b_sum boot_sum ?_;refine dr ?_;refine Zm ?_;refine Zg rfl rfl (Jo (show J7 (Qa Vx) Zb _ 1 ["block","style"] [1]=true by decide+kernel)) (by decide) ?_ ?_ ?_ ?_;exact(dih (Jf (Qs 0)));exact λ_ _ _ _ _ _=>Qq 0 (show List.Nodup (["block","style"]:List Str)by decide+kernel);exact λ_ _ _ _ _ _=>Z3;exact λ_ _ _ _ _ _=>(dc bu hr (dn 0 (dn 1 Dz)))))
theorem Qib:FnScope ZM ZM (Qa Qbf):=by constructor<;>first|rfl|decide+kernel
theorem Qih(h:Df K mg "room_at_most" Qbf ZM)(T:Txt K mg)(aQ:QfF P w K mg ab)(aL:Qdb P w K mg ab):Qd1 P w K mg ab:=okD ZM ZM Qbm 3 h Qib λnd=>λhr=>So (Ql (dc aQ hr (Dl (dc aL hr (dn 0 (dn 1 Dz))) Dz)))
theorem Qj9:FnScope ZT ZT (Qa QaU):=by constructor<;>first|rfl|decide+kernel
theorem Qkg(h:Df K mg "any_longer" QaU ZT)(T:Txt K mg):QcW P w K mg ab:=okD ZT ZT QcT 0 h Qj9 (λnd=>λhr=>(by refine So ?_;refine Ql ?_;refine Jb (QrD rfl) rfl T.b_any boot_any ?_;refine dr ?_;refine Zm ?_;refine Zg rfl rfl (Jo (show J7 (Qa QaU) ZT _ 1 ["text","width"] [1]=true by decide+kernel)) (by decide) ?_ ?_ ?_ ?_;exact(dih (Jf (Qs 0)));exact λ_ _ _ _ _ _=>Qq 0 (show List.Nodup (["text","width"]:List Str)by decide+kernel);exact λ_ _ _ _ _ _=>Z3;exact λ_ _ _ _ _ _=>(Zx QbE (dr (Jb QI rfl T.b_len boot_len (dv 0))) (dv 1) (JJ _))))
theorem Qhg:FnScope Qda Yx (Qa QaY):=by constructor<;>first|rfl|decide+kernel
theorem Qhl(h:Df K mg "is_wide_block" QaY Yx)(T:Txt K mg)(aC:QcW P w K mg ab)(ao:QbC P w K mg ab):Qde P w K mg ab:=okD Qda Yx ZY 1 h Qhg λnd=>λhr=>by refine Ss (O1:=[]) ? _ ? _;exact Qy (Jy (dr (dc ao hr (dn 0 Dz)))) (Ss (O1:=[]) (Qf 3 nd (QkD (Jy (dr (Qz (dv 1) (dr (QO T.g_LISTED rfl))))) (Qb Qe dq (dv 2)) QA)) (So (Ql (Zx QbE (dr (Qb Qe (dr (Jb QI rfl T.b_len boot_len (dx 0))) (dv 3))) (dr (Qz (dv 1) (dr (QO T.g_WIDTH rfl)))) (JJ _))))) Sn;exact So (Ql (QdF (dr (Zx (V1 hr.units) (dx 0) (dr Qd) (JJ _))) (Qcq (dc aC hr (Du (dy 0) (Du (Qz (dv 1) (dr (QO T.g_WIDTH rfl))) Dz))))))
theorem Qid:FnScope ZO ZO (Qa Qbi):=by constructor<;>first|rfl|decide+kernel
theorem Qik(h:Df K mg "is_wide_item" Qbi ZO)(T:Txt K mg)(aC:QcW P w K mg ab):Qd4 P w K mg ab:=okD ZO ZO Qbp 1 h Qid λnd=>λhr=>by refine Ss (O1:=[]) ? _ ? _;exact Qy (dE hr (dx 0) (dr Qd)) (So (Ql (dc aC hr (Db (Qb Qe (dr (Jd (Du (dy 0) Dz) lz1)) (dx 0)) (Du (Qz (dv 1) (dr (QO T.g_WIDTH rfl))) Dz))))) Sn;refine So ? _;refine Ql ? _;exact QdF (dr (Zx (V1 hr.units) (dx 0) (dr Qd) (JJ _))) (Qcq (Zx QbE (dr (Qb Qe (dr (Qb Qe (dr (Jb QI rfl T.b_len boot_len (dx 0))) (dv 2))) (dr (Jb QI rfl T.b_len boot_len (dx 0))))) (dr (Qz (dv 1) (dr (QO T.g_WIDTH rfl)))) (JJ _)))
theorem Qhh:FnScope Zz Zz (Qa QaZ):=by constructor<;>first|rfl|decide+kernel
theorem Qhm(h:Df K mg "is_high_block" QaZ Zz)(T:Txt K mg):Qdf P w K mg ab:=okD Zz Zz Qa4 0 h Qhh λnd=>λhr=>Ss (O1:=[]) (Qy (dE hr (dx 0) (dr Qd)) (So (Ql (Zx QbE (dr (Qb Qe (dx 0) dq)) (dr (Qz (dv 1) (dr (QO T.g_HEIGHT rfl)))) (JJ _)))) Sn) (So (Ql (QdF (dr (Zx (V1 hr.units) (dx 0) (dr Qd) (JJ _))) (Qcq (Zx QbE (dr (Jb QI rfl T.b_len boot_len (dx 0))) (dr (Qz (dv 1) (dr (QO T.g_HEIGHT rfl)))) (JJ _))))))
theorem Qie:FnScope ZP ZP (Qa Qbj):=by constructor<;>first|rfl|decide+kernel
theorem Qil(h:Df K mg "is_high_item" Qbj ZP)(T:Txt K mg):Qd5 P w K mg ab:=okD ZP ZP Qbq 0 h Qie λnd=>λhr=>So (Ql (QdF (dr (Zx (V1 hr.units) (dx 0) (dr Qd) (JJ _))) (Qcq (Zx QbE (dr (Qb Qe (dr (Jb QI rfl T.b_len boot_len (dx 0))) dq)) (dr (Qz (dv 1) (dr (QO T.g_HEIGHT rfl)))) (JJ _)))))
theorem QfH:FnScope YH YH (Qa Qdp):=by constructor<;>first|rfl|decide+kernel
theorem Qmm(h:Df K mg "add_label" Qdp YH)(T:Txt K mg):QdB P w K mg ab:=have nd:=(QfH).nd
 Qov (b:=Qdy) (k:=0) (N:=YH) (ps:=YH) (O':=[2,1002]) (OL:=[]) h QfH (by decide) (by decide) (by decide) (by decide) (by decide) λf ax A ag s H E hr=>Ss (O1:=[2,1002]) (Qy (Qww hr.units1 (dv 0) (ZS 2)) (So VG) Sn) (So (QiQ 2 (by decide) hr.units1 (dv 0) QoM))
theorem QcY:FnScope Zy Zy (Qa QaX):=by constructor<;>first|rfl|decide+kernel
theorem Qhk(h:Df K mg "look_at_block" QaX Zy)(T:Txt K mg)(aF:QdB P w K mg ab)(aP:Qdf P w K mg ab)(aO:Qde P w K mg ab)(aA:QeQ P w K mg ab):Qdd P w K mg ab:=have nd:=(QcY).nd
 Qov (b:=Qa3) (k:=2) (N:=Zy) (ps:=Zy) (O':=[4,1004]) (OL:=[]) h QcY (by decide) (by decide) (by decide) (by decide) (by decide) (λf ax A ag s H E hr=>(by refine Ss (O1:=[4,1004]) ?_ ?_;exact(Qy (Jy (dr (dc aO hr (dn 0 (dn 2 (dn 3 Dz)))))) (So VG) Sn);refine Ss (O1:=[4,1004]) ?_ ?_;exact(Qy (Jy (dr (dc aP hr (dn 0 (dn 2 Dz))))) (So VG) Sn);refine So ?_;refine Qy ?_ ?_ ?_;exact(dF hr (dr (dc aA hr (dn 0 Dz))) (dr Qd));refine So ?_;refine QcK 4 (by decide) aF (hr.mono (by decide)) rfl ?_;refine Za ?_ ?_ ?_;exact(dc aA hr (dn 0 Dz));refine Za ?_ ?_ ?_;exact Qs 1;exact(Qfk 4);exact ZL;exact Qiz;exact Sn))
theorem Qc9:FnScope ZN ZN (Qa Qbh):=by constructor<;>first|rfl|decide+kernel
theorem Qij(h:Df K mg "look_at_item" Qbh ZN)(T:Txt K mg)(aF:QdB P w K mg ab)(aX:Qd5 P w K mg ab)(aW:Qd4 P w K mg ab):Qd3 P w K mg ab:=have nd:=(Qc9).nd
 Qov (b:=Qbo) (k:=2) (N:=ZN) (ps:=ZN) (O':=[4,1004]) (OL:=[]) h Qc9 (by decide) (by decide) (by decide) (by decide) (by decide) (λf ax A ag s H E hr=>(by refine Ss (O1:=[4,1004]) ?_ ?_;exact(Qy (Jy (dr (dc aW hr (dn 0 (dn 2 (dn 3 Dz)))))) (So VG) Sn);refine Ss (O1:=[4,1004]) ?_ ?_;exact(Qy (Jy (dr (dc aX hr (dn 0 (dn 2 Dz))))) (So VG) Sn);refine So ?_;refine Qy ?_ ?_ ?_;exact(dE hr (dx 0) (dr Qd));refine So ?_;refine QcK 4 (by decide) aF (hr.mono (by decide)) rfl ?_;refine Za ?_ ?_ ?_;exact(dy 0);refine Za ?_ ?_ ?_;exact Qs 1;exact(Qfk 4);exact ZL;exact QfG;exact Sn))
theorem QcX:FnScope Qa5 Yw (Qa Vy):=by constructor<;>first|rfl|decide+kernel
theorem Qhj(h:Df K mg "look_at_items" Vy Yw)(T:Txt K mg)(aq:QcM P w K mg ab)(aV:Qd3 P w K mg ab):Qdc P w K mg ab:=have nd:=(QcX).nd
 Qov (b:=VB) (k:=3) (N:=Qa5) (ps:=Yw) (O':=[4,1004]) (OL:=[]) h QcX (by decide) (by decide) (by decide) (by decide) (by decide) (λf ax A ag s H E hr=>(by refine Ss (O1:=[4,1004]) ?_ ?_;refine Qf 5 nd ?_;refine Jb QI rfl T.b_len boot_len ?_;refine dr ?_;refine Zm ?_;refine Zg rfl rfl (Jo (show J7 (Qa Vy) Qa5 _ 1 ["item"] []=true by decide+kernel)) (by decide) ?_ ?_ ?_ ?_;exact(dih (Jf (Qs 0)));exact λ_ _ _ _ _ _=>Qq 0 (show List.Nodup (["item"]:List Str)by decide+kernel);exact λ_ _ _ _ _ _=>(Qau (Jy (dr (dc aq hr (dn 0 Dz)))));exact λ_ _ _ _ _ _=>Qs 0;refine So ?_;refine JL rfl PassesOwn.never ?_ ?_ ?_;exact(Jf (Qs 0));exact Qq 6 nd;refine Ss (O1:=[4,1004]) ?_ ?_;refine QcK 4 (by decide) aV (hr.mono (by decide)) rfl ?_;refine Za ?_ ?_ ?_;exact Qs 6;refine Za ?_ ?_ ?_;exact Qs 1;refine Za ?_ ?_ ?_;exact Qs 2;refine Za ?_ ?_ ?_;exact Qs 3;exact(Qfk 4);exact ZL;exact ZL;exact ZL;exact ZL;exact(So (Qy (Jy (dr (dc aq hr (dn 6 Dz)))) (So (QhE 5 nd (by decide) dq QuB)) (So (Qy (dE hr (dv 5) dq) (So VG) Sn))))))
theorem Qic:FnScope QdZ YQ (Qa Qbg):=by constructor<;>first|rfl|decide+kernel
theorem Qii(h:Df K mg "look_at_refs" Qbg YQ)(T:Txt K mg)(aK:Qfl P w K mg ab):Qd2 P w K mg ab:=okD QdZ YQ Qbn 2 h Qic λnd=>λhr=>by refine So ? _;exact JL rfl PassesOwn.never (Qge rfl T.b_enumerate (Qs 0)) (V3 rfl (Ju (O1:=[]) (Qq 2 nd) (Ju (O1:=[]) (Qq 3 nd) Vn)) rfl) (So (JL rfl PassesOwn.never (Jf (dc aK hr (Qce (Jd (dn 3 Dz) lz1) Dz))) (Qq 4 nd) (So (Qy (Qrj hr.units1 (dv 4) (dv 1)) (So VG) Sn))))
theorem QtF:FnScope Qqm Qfd (Qa QkJ):=by constructor<;>first|rfl|decide+kernel
theorem Qt8(h:Df K mg "look" QkJ Qfd)(T:Txt K mg)(bB:Qh7 P w K mg ab)(aj:VV P w K mg ab)(aN:Qdd P w K mg ab)(aM:Qdc P w K mg ab)(aU:Qd2 P w K mg ab)(aS:Qd1 P w K mg ab):Qk7 P w K mg ab:=okD Qqm Qfd QkW 4 h QtF (λnd=>λhr=>(by refine Ss (O1:=[]) ?_ ?_;exact(Qy (QbG (Jy (dr (dc bB hr (dn 1 Dz))))) (So VG) Sn);refine Ss (O1:=[]) ?_ ?_;exact(Qf 2 nd (dc aS hr (dn 0 (dn 1 Dz))));refine Ss (O1:=[3]) ?_ ?_;exact(Zs 3 nd QiS);refine Ss (O1:=[3]) ?_ ?_;refine JL rfl PassesOwn.never ?_ ?_ ?_;exact(Qge rfl T.b_enumerate (Qs 0));exact(V3 rfl (Ju (O1:=[3]) (Qq 4 nd) (Ju (O1:=[3]) (Qq 5 nd) Vn)) rfl);refine Ss (O1:=[3]) ?_ ?_;refine QcK 3 (by decide) aN (hr.mono (by decide)) rfl ?_;refine Za ?_ ?_ ?_;exact Qs 5;refine Za ?_ ?_ ?_;exact Qs 4;refine Za ?_ ?_ ?_;exact Qs 1;refine Za ?_ ?_ ?_;exact Qs 2;exact(Qfk 3);exact ZL;exact ZL;exact ZL;exact ZL;refine So ?_;refine QcK 3 (by decide) aM (hr.mono (by decide)) rfl ?_;refine Za ?_ ?_ ?_;exact(dc aj hr (dn 5 Dz));refine Za ?_ ?_ ?_;exact Qs 4;refine Za ?_ ?_ ?_;exact Qs 1;refine Za ?_ ?_ ?_;exact Qs 2;exact(Qfk 3);exact ZL;exact ZL;exact ZL;exact Qiz;exact(Ze 3 (So (QiP (dc aU hr (dn 0 (dn 3 Dz))))))))
theorem Qia:FnScope QdY YO (Qa Qbe):=by constructor<;>first|rfl|decide+kernel
theorem Qig(h:Df K mg "set_contents" Qbe YO)(T:Txt K mg)(aD:QdG P w K mg ab)(ao:QbC P w K mg ab)(aw:QbV P w K mg ab)(ar:QdA P w K mg ab):Qd0 P w K mg ab:=okD QdY YO Qbl 3 h Qia (λnd=>λhr=>(by refine Ss (O1:=[2]) ?_ ?_;exact(Zs 2 nd (Yp Dz lz0));refine Ss (O1:=[2]) ?_ ?_;exact(Qf 3 nd (dc aD hr (Dk QA Dz)));refine Ss (O1:=[2]) ?_ ?_;exact(Qy (QbG (Jy (dr (Qz (dv 1) (dr (QO T.g_LISTED rfl)))))) (Ze 2 (So (Ql (QR (dn 2 (dn 3 Dz)) lz2)))) Sn);refine Ss (O1:=[2]) ?_ ?_;refine JL rfl PassesOwn.never ?_ ?_ ?_;exact(Jf (Qs 0));exact Qq 4 nd;refine So ?_;exact(Qy (Jy (dr (dc ao hr (dn 4 Dz)))) (Ss (O1:=[2]) (Qf 5 nd (dc ar hr (dn 1 (dn 3 (Dk QA (Dk QA Dz)))))) (Ss (O1:=[2]) (Zk 2 (by decide) (dy 5)) (So (Qf 3 nd (dy 5))))) Sn);exact(Ss (O1:=[2]) (Qy (Vg QbE (dr (Jb QI rfl T.b_len boot_len (ZS 2))) dq (JJ _)) (So (Qf 3 nd (dc aw hr (dn 1 (dn 3 Dz))))) Sn) (Ze 2 (So (Ql (QR (dn 2 (dn 3 Dz)) lz2)))))))
theorem Ql6:FnScope Qgs V5 (Qa Qdk):=by constructor<;>first|rfl|decide+kernel
theorem Qmg(h:Df K mg "set_items" Qdk V5)(T:Txt K mg)(aJ:QeR P w K mg ab)(aq:QcM P w K mg ab)(bj:Qh6 P w K mg ab):Qgv P w K mg ab:=okD Qgs V5 Qds 2 h Ql6 (λnd=>λhr=>(by refine Ss (O1:=[4]) ?_ ?_;exact(Zs 4 nd (Yp Dz lz0));refine Ss (O1:=[4]) ?_ ?_;exact(Qf 5 nd QA);refine Ss (O1:=[4]) ?_ ?_;refine JL rfl PassesOwn.never ?_ ?_ ?_;exact(Jf (Qs 0));exact Qq 6 nd;refine So ?_;refine Qy ?_ ?_ ?_;exact(Jy (dr (dc aq hr (dn 6 Dz))));refine Ss (O1:=[4]) ?_ ?_;refine Qy ?_ ?_ ?_;exact(dE hr (dx 6) (dr Qd));exact(Ss (O1:=[4]) (Qf 7 nd (Qb Qe (dr (Qb Qe (dr (Jb QI rfl T.b_len boot_len (dx 6))) (dr (Qz (dv 3) (dv 5))))) (dr (Jb QI rfl T.b_len boot_len (dx 6))))) (Ss (O1:=[4]) (Qf 8 nd (dc bj hr (dn 1 (dn 2 (dn 7 (Dk QA Dz)))))) (So (QhE 5 nd (by decide) dq QiL))));exact(So (Qf 8 nd (dc bj hr (dn 1 (dn 2 (Dl (Jb QI rfl T.b_len boot_len (dx 6)) (Dl (Jb QI rfl T.b_len boot_len (dx 6)) Dz)))))));exact(Ss (O1:=[4]) (Zk 4 (by decide) (dy 8)) (So (Qf 2 nd (dy 8))));exact Sn;exact(Ze 4 (So (Ql (QR (dn 4 (Dl (dc aJ hr (dn 2 Dz)) Dz)) lz2))))))
theorem Ql7:FnScope YE YE (Qa Qdl):=by constructor<;>first|rfl|decide+kernel
theorem Qmh(h:Df K mg "set_block" Qdl YE)(T:Txt K mg)(aw:QbV P w K mg ab)(ar:QdA P w K mg ab)(bo:QfS P w K mg ab):Qgw P w K mg ab:=okD YE YE Qdt 3 h Ql7 λnd=>λhr=>by refine Ss (O1:=[]) ? _ ? _;exact Qy (dE hr (dx 0) (dr Qd)) (So (Ql (dc bo hr (dn 2 (Du (dy 0) Dz))))) Sn;refine Ss (O1:=[]) ? _ ? _;exact Qy (dE hr (dx 0) (dr Qd)) (So (Ql (dc ar hr (dn 1 (dn 2 (Dl (Jb QI rfl T.b_len boot_len (dx 0)) (Dk QA Dz))))))) Sn;exact Ss (O1:=[]) (Qy (dE hr (dx 0) (dr Qd)) (So (Ql (dc ar hr (dn 1 (dn 2 (Dk QA (Du (dy 0) Dz))))))) Sn) (So (Ql (dc ar hr (dn 1 (Dl (dc aw hr (dn 1 (dn 2 Dz))) (Dk QA (Dk QA Dz)))))))
theorem QmK:FnScope Qh1 QaI (Qa Qep):=by constructor<;>first|rfl|decide+kernel
theorem QmW(h:Df K mg "set_book" Qep QaI)(T:Txt K mg)(aK:Qfl P w K mg ab)(bt:Qgw P w K mg ab)(aR:Qd0 P w K mg ab)(br:Qgv P w K mg ab):Qb9 P w K mg ab:=okD Qh1 QaI QeD 4 h QmK (λnd=>λhr=>(by refine Ss (O1:=[]) ?_ ?_;exact(Qf 3 nd (dc aR hr (dn 0 (dn 1 Dz))));refine Ss (O1:=[4]) ?_ ?_;exact(Zs 4 nd (Yp (Du (dy 3) Dz) lz1));refine Ss (O1:=[4]) ?_ ?_;exact(Qf 5 nd (dy 3));refine Ss (O1:=[4]) ?_ ?_;exact(Qf 6 nd QA);refine Ss (O1:=[4]) ?_ ?_;refine JL rfl PassesOwn.never ?_ ?_ ?_;exact(Jf (Qs 0));exact Qq 7 nd;refine Ss (O1:=[4]) ?_ ?_;refine Qy ?_ ?_ ?_;exact(dE hr (dx 7) (dr Qd));exact(Ss (O1:=[4]) (Qf 3 nd (dc br hr (Du (dy 7) (dn 1 (dn 5 (Du (Vo (dv 2) (Vl (dv 6)) Vm) Dz)))))) (Ss (O1:=[4]) (Zk 4 (by decide) (dy 3)) (So (QhE 6 nd (by decide) (dr (Jb QI rfl T.b_len boot_len (dr (dc aK hr (Qce (Jd (dn 7 Dz) lz1) Dz))))) QiL))));exact(Ss (O1:=[4]) (Qf 3 nd (dc bt hr (dn 7 (dn 1 (dn 5 Dz))))) (So (Zk 4 (by decide) (Jd (Du (dy 3) Dz) lz1))));exact(So (Qf 5 nd (dy 3)));exact(Ze 4 (So (Ql (Qs 4))))))
theorem Qj7:FnScope QfR VM (Qa QcO):=by constructor<;>first|rfl|decide+kernel
theorem Qke(h:Df K mg "pages_with" QcO VM)(T:Txt K mg)(aq:QcM P w K mg ab):QcU P w K mg ab:=okD QfR VM QaW 1 h Qj7 (λnd=>λhr=>(by refine Ss (O1:=[3]) ?_ ?_;exact(Zs 3 nd (Yp Dz lz0));refine Ss (O1:=[3]) ?_ ?_;exact(Qf 4 nd QA);refine Ss (O1:=[3]) ?_ ?_;refine JL rfl PassesOwn.never ?_ ?_ ?_;exact(Jf (Qs 0));exact Qq 5 nd;refine So ?_;exact(Qy (Jy (dr (dc aq hr (dn 5 Dz)))) (So (QhE 4 nd (by decide) dq QiL)) (So (Qy (dE hr (dx 5) (dv 2)) (So (Zk 3 (by decide) (QR (Du (dy 5) (Du (Qz (dr (Qz (dv 1) (dv 4))) (dr (QO T.g_PAGE rfl))) Dz)) lz2))) Sn)));exact(Ze 3 (So (Ql (Qs 3))))))
theorem Qi9:FnScope QeV Vj (Qa QbR):=by constructor<;>first|rfl|decide+kernel
theorem Qjc(h:Df K mg "label_pages" QbR Vj)(T:Txt K mg)(aj:VV P w K mg ab)(aA:QeQ P w K mg ab)(aB:QcU P w K mg ab):QeW P w K mg ab:=okD QeV Vj QbU 2 h Qi9 λnd=>λhr=>by refine Ss (O1:=[2]) ? _ ? _;exact Zs 2 nd QiS;refine Ss (O1:=[2]) ? _ ? _;refine JL rfl PassesOwn.never ? _ ? _ ? _;exact Qqg rfl T.b_zip (Qs 0) (Vo (dv 1) (Vl dq) Vm);exact V3 rfl (Ju (O1:=[2]) (Qq 3 nd) (Ju (O1:=[2]) (Qq 4 nd) Vn)) rfl;refine Ss (O1:=[2]) ? _ ? _;exact Qy (dF hr (dr (dc aA hr (dn 3 Dz))) (dr Qd)) (So (QiQ 2 (by decide) hr.units1 (dr (dc aA hr (dn 3 Dz))) (Qz (dx 4) (dr (QO T.g_PAGE rfl))))) Sn;exact So (JL rfl PassesOwn.never (Jf (dc aB hr (Dl (dc aj hr (dn 3 Dz)) (dn 4 (Dk Qd Dz))))) (V3 rfl (Ju (O1:=[2]) (Qq 5 nd) (Ju (O1:=[2]) (Qq 6 nd) Vn)) rfl) (So (QiQ 2 (by decide) hr.units1 (dv 5) (Qs 6))));exact Ze 2 (So (Ql (Qs 2)))
theorem QtG:FnScope Qcl Qcl (Qa QkK):=by constructor<;>first|rfl|decide+kernel
theorem Qt9(h:Df K mg "laid" QkK Qcl)(T:Txt K mg)(bL:Qk7 P w K mg ab)(au:Qb9 P w K mg ab):Qqq P w K mg ab:=okD Qcl Qcl QkX 5 h QtG λnd=>λhr=>Ss (O1:=[]) (QiP (dc bL hr (dn 0 (dn 1 Dz)))) (So (Ql (dc au hr (dn 0 (dn 1 (dn 2 Dz))))))
theorem Qif:FnScope Qbs YR (Qa VW):=by constructor<;>first|rfl|decide+kernel
theorem Qim(h:Df K mg "figures_told" VW YR)(T:Txt K mg)(aQ:QfF P w K mg ab)(bc:QeW P w K mg ab)(aK:Qfl P w K mg ab)(au:Qb9 P w K mg ab):Qd6 P w K mg ab:=okD Qbs YR Qbr 5 h Qif (λnd=>λhr=>(by refine Ss (O1:=[]) ?_ ?_;exact(Qf 3 nd (dc bc hr (dn 0 (Dl (dc au hr (dn 0 (dn 1 (dn 2 Dz)))) Dz))));refine So ?_;refine Ql ?_;refine Zm ?_;refine Zg rfl rfl (Jo (show J7 (Qa VW) Qbs _ 1 ["label","pages"] [3]=true by decide+kernel)) (by decide) ?_ ?_ ?_ ?_;exact(dih (Jf (dc aK hr (dn 0 Dz))));exact λ_ _ _ _ _ _=>Qq 0 (show List.Nodup (["label","pages"]:List Str)by decide+kernel);exact λ_ _ _ _ _ _=>Z3;exact λ_ _ _ _ _ _=>(dc aQ hr (Du (Qn4 hr.units1 (dv 1) (dv 0)) Dz))))
theorem Qo1:FnScope QjZ QbH (Qa Qfq):=by constructor<;>first|rfl|decide+kernel
theorem Qpb(h:Df K mg "settled" Qfq QbH)(T:Txt K mg)(aG:Qd6 P w K mg ab):Qj2 P w K mg ab:=okD QjZ QbH QfB 6 h Qo1 λnd=>λhr=>by refine Ss (O1:=[]) ? _ ? _;exact Qf 3 nd (Qs 2);exact Ss (O1:=[]) (Qf 4 nd (dc aG hr (dn 0 (dn 1 (dn 3 Dz))))) (Ss (O1:=[]) (QsW PassesOwn.never (dF hr (dv 4) (dv 3)) (Ss (O1:=[]) (Qf 3 nd (Qs 4)) (So (Qf 4 nd (dc aG hr (dn 0 (dn 1 (dn 3 Dz)))))))) (So (Ql (Qs 3))))
theorem Qr5:FnScope Qa8 Qa8 (Qa QiA):=by constructor<;>first|rfl|decide+kernel
theorem Qso(h:Df K mg "least" QiA Qa8)(T:Txt K mg)(bL:Qk7 P w K mg ab)(aK:Qfl P w K mg ab)(bM:Qj2 P w K mg ab):Qi5 P w K mg ab:=okD Qa8 Qa8 QiU 7 h Qr5 λnd=>λhr=>Ss (O1:=[]) (QiP (dc bL hr (dn 0 (dn 1 Dz)))) (So (Ql (dc bM hr (dn 0 (dn 1 (Db (Qb ZA (dr (Jd (Dk QA Dz) lz1)) (dr (Jb QI rfl T.b_len boot_len (dr (dc aK hr (dn 0 Dz)))))) Dz))))))
theorem Ql5:FnScope YD YD (Qa Qdj):=by constructor<;>first|rfl|decide+kernel
theorem Qmf(h:Df K mg "set_least" Qdj YD)(T:Txt K mg)(bx:Qi5 P w K mg ab)(au:Qb9 P w K mg ab):Qgu P w K mg ab:=okD YD YD Qdr 8 h Ql5 λnd=>λhr=>So (Ql (dc au hr (dn 0 (dn 1 (Dl (dc bx hr (dn 0 (dn 1 Dz))) Dz)))))
theorem Qgi:FnScope QaK QaK (Qa Qew):=by constructor<;>first|rfl|decide+kernel
theorem Qm3(h:Df K mg "add_page" Qew QaK)(T:Txt K mg):Qh5 P w K mg ab:=have nd:=(Qgi).nd
 QxL (b:=QaT) (k:=0) (O':=[0,1000]) (OL:=[]) h Qgi (by decide) (by decide) λf ax A ag s H E hr=>So (Qy (PW.pt (QaD (dE hr (dr (Jb QI rfl T.b_len boot_len (ZS 0))) dq) (Zw (dF hr (dr (Qz (ZS 0) (dr (QaH dq)))) (dv 1))))) (So (Zk 0 (by decide) (Qs 1))) Sn)
theorem Qlg:FnScope Qi2 QdK (Qa Qf3):=by constructor<;>first|rfl|decide+kernel
theorem Qsp(h:Df K mg "keyed" Qf3 QdK)(T:Txt K mg)(bC:Qh5 P w K mg ab)(aj:VV P w K mg ab)(aB:QcU P w K mg ab)(bq:Qgu P w K mg ab):Qoh P w K mg ab:=have nd:=(Qlg).nd
 QxK (b:=QiV) (k:=9) (N:=Qi2) (ps:=QdK) (O':=[]) (OL:=[]) h Qlg (λf ax A ag s H E hr=>(by refine Ss (O1:=[]) ?_ ?_;exact(Qf 2 nd (dc bq hr (dn 0 (dn 1 Dz))));refine Ss (O1:=[3]) ?_ ?_;exact(Zs 3 nd QiS);refine Ss (O1:=[3]) ?_ ?_;refine QuK ?_;refine QiO KRes.gr rfl PassesOwn.never ?_ ?_ ?_;exact(Qqg rfl T.b_zip (Qs 0) (Vo (dv 2) (Vl dq) Vm));exact(V3 rfl (Ju (O1:=[1003]) (Qq 4 nd) (Ju (O1:=[1003]) (Qq 5 nd) Vn)) rfl);exact(Qbd (by refine QiO KRes.gr rfl PassesOwn.never ?_ ?_ ?_;exact(Jf (dc aB hr (Dl (dc aj hr (dn 4 Dz)) (dn 5 (Dk Qd Dz)))));exact(V3 rfl (Ju (O1:=[1003]) (Qq 6 nd) (Ju (O1:=[1003]) (Qq 7 nd) Vn)) rfl);exact(Qbd (by refine QuO (i:=3) (a:=6) (b:=7) Qns (VR (Qll bC (hr.mono (by decide)) rfl (Jw (Qee PySem.F.plainAttrs_dict PySem.F.slot_dict_setdefault PySem.F.type_dict_setdefault Qq1 (Yo rfl (by first|exact Or.inl rfl|exact Or.inr (Or.inl rfl)|exact Or.inr (Or.inr rfl))) (Jw (Yo rfl (by first|exact Or.inl rfl|exact Or.inr (Or.inl rfl)|exact Or.inr (Or.inr rfl))) (Jw (Qfb ZI) ZI))) (Jw (Yo rfl (by first|exact Or.inl rfl|exact Or.inr (Or.inl rfl)|exact Or.inr (Or.inr rfl))) ZI))))))));refine Ze 3 ?_;refine So ?_;refine QuJ ?_;refine Zg rfl rfl (Jo (show J7 (Qa Qf3) Qi2 _ 1 ["key","found"] [3]=true by decide+kernel)) (by decide) ?_ ?_ ?_ ?_;exact(dih (Jf (Zm (Qs9 rfl rfl T.b_sorted boot_sorted (dv 3)))));exact λ_ _ _ _ _ _=>Qq 0 (show List.Nodup (["key","found"]:List Str)by decide+kernel);exact λ_ _ _ _ _ _=>Z3;exact λ_ _ _ _ _ _=>(QR (dn 0 (Du (Qn4 hr.units1 (dv 1) (dv 0)) Dz)) lz2))) (λds=>(QiC (QiC (QiC (QtK)))) _)
theorem QmT:FnScope Va Va (Qa Qez):=by constructor<;>first|rfl|decide+kernel
theorem Qm6(h:Df K mg "_law_cell_at" Qez Va)(T:Txt K mg):QeS P w K mg ab:=okD Va Va QeM 0 h QmT λnd=>λhr=>Ss (O1:=[]) (Qy (Vg QkR (dv 1) (dr (Jb QI rfl T.b_len boot_len (dv 0))) (JJ _)) (So (Ql (Qz (dv 0) (dv 1)))) Sn) (So (Ql QA))
theorem QqA:FnScope Qan Qan (Qa QgN):=by constructor<;>first|rfl|decide+kernel
theorem QqQ(h:Df K mg "_law_whole" QgN Qan)(T:Txt K mg):QlW P w K mg ab:=okD Qan Qan Qg5 0 h QqA λnd=>λhr=>So (Ql (QdF (dr (Qcd (Quy _) rfl T.b_isinstance boot_isinstance rfl T.b_int boot_int (dv 0))) (Qcq (Qwz (dr (Qcd (QsK _) rfl T.b_isinstance boot_isinstance rfl T.b_bool boot_bool (dv 0)))))))
theorem QtI:FnScope Qqn Qfe (Qa QkM):=by constructor<;>first|rfl|decide+kernel
theorem Qub(h:Df K mg "_law_mix" QkM Qfe)(T:Txt K mg):Qfm P w K mg ab:=okD Qqn Qfe QkZ 0 h QtI λnd=>λhr=>Ss (O1:=[]) (Qf 2 nd (Qb Q0 (dr (Qb ZA (dr (Qb Qe (dr (Qb Qe (dr (Qb Q0 (dv 0) dq)) (dr (Qb ZA (dr (Qb ZA (dv 1) (dv 1))) dq)))) dq)) dq)) dq)) (So (Ql (Qb Q0 (dr (Qb Qe (dr (Qb ZA (dv 2) (dv 2))) (dr (Qb ZA dq (dv 1))))) dq)))
theorem QqE:FnScope QlV Qcz (Qa QgQ):=by constructor<;>first|rfl|decide+kernel
theorem QqU(h:Df K mg "_law_label" QgQ Qcz)(T:Txt K mg):Ql0 P w K mg ab:=okD QlV Qcz QlO 0 h QqE λnd=>λhr=>by refine Ss (O1:=[]) ? _ ? _;exact Qf 1 nd Qd;refine So ? _;refine Ql ? _;exact Qb Qe (dr (Qb Qe (dr (Qb Qe (dr (Vo (dr Qd) Vm (Vl (dr (Qb Q0 (dr (Qb ZA (dv 0) dq)) dq))))) (dr (Qz (dv 1) (dr (Qb Q0 (dr (Qb JG (dv 0) dq)) dq)))))) (dr (Qz (dv 1) (dr (Qb Q0 (dv 0) dq)))))) (dr (Vo (dr Qd) Vm (Vl (dr (Qb Q0 (dr (Qb ZA (dv 0) dq)) dq)))))
theorem Qo3:FnScope Qj0 QbI (Qa Qfs):=by constructor<;>first|rfl|decide+kernel
theorem Qpd(h:Df K mg "_law_plates" Qfs QbI)(T:Txt K mg):Qj3 P w K mg ab:=okD Qj0 QbI QfD 0 h Qo3 (λnd=>λhr=>(by refine Ss (O1:=[]) ?_ ?_;exact(Qf 2 nd QA);refine Ss (O1:=[]) ?_ ?_;exact(JL rfl PassesOwn.never (QaG rfl T.b_range (dr (Qb Q0 (dr (Qb JG (dv 1) dq)) dq))) (Qq 3 nd) (So (Qf 2 nd (Qb ZA (dv 2) dq))));refine Ss (O1:=[]) ?_ ?_;exact(Qy (dE hr (dr (Qb Q0 (dr (Qb JG (dv 1) dq)) dq)) dq) (So (Qf 2 nd (Qb QnG dq dq))) Sn);refine So ?_;refine Ql ?_;refine Qz ?_ ?_;refine dr ?_;refine Jd ?_ ?_;exact(Db (Qb Qe dq (dr (Qb Q0 (dr (Qb JG (dv 1) dq)) dq))) (Db (Qb VS (dr (Qb VS (dv 2) dq)) (dr (Qb Q0 (dr (Qb JG (dv 1) dq)) dq))) (Db (Qb Qe dq (dr (Qb Q0 (dv 0) (dr (Qb QnG dq dq))))) Dz)));exact lz3;exact(dr (Qb Q0 (dr (Qb JG (dv 1) dq)) dq))))
theorem QqB:FnScope QlT Qcw (Qa QgO):=by constructor<;>first|rfl|decide+kernel
theorem QqR(h:Df K mg "_law_signs" QgO Qcw)(T:Txt K mg):QlX P w K mg ab:=okD QlT Qcw Qg6 0 h QqB (λnd=>λhr=>(by refine Ss (O1:=[]) ?_ ?_;exact(Qf 3 nd Qd);refine Ss (O1:=[]) ?_ ?_;exact(Qf 3 nd (Qb Qe (dv 3) (dr Qd)));refine Ss (O1:=[]) ?_ ?_;exact(Qf 4 nd Qd);refine Ss (O1:=[]) ?_ ?_;refine JL rfl PassesOwn.never ?_ ?_ ?_;exact(QaG rfl T.b_range (dv 1));exact Qq 5 nd;refine Ss (O1:=[]) ?_ ?_;exact(Qf 6 nd (Qb Qe (dr (Qb Qe (dr (Qb JG (dv 0) dq)) (dr (Qb ZA (dv 5) (dr (Qb Qe dq (dr (Qb Q0 (dv 0) dq)))))))) (dr (Qb ZA (dv 5) (dv 5)))));refine Ss (O1:=[]) ?_ ?_;exact(Qf 7 nd (Qz (dv 3) (dr (Qb Q0 (dv 6) (dr (Qb Qe (dr (Qb VS (dr (Jb QI rfl T.b_len boot_len (dv 3))) dq)) (dv 2)))))));exact(Ss (O1:=[]) (Qy (PW.pt (V2 (dE hr (dv 2) dq) (Zw (dE hr (dr (Qb Q0 (dr (Qb Qe (dr (Qb JG (dv 0) dq)) (dv 5))) dq)) dq)))) (So (Qf 7 nd Qd)) Sn) (So (Qf 4 nd (Qb Qe (dv 4) (dv 7)))));exact(So (Ql (Qs 4)))))
theorem Qr9:FnScope Qgg QdO (Qa QdH):=by constructor<;>first|rfl|decide+kernel
theorem Qst(h:Df K mg "_law_atom" QdH QdO)(T:Txt K mg)(bU:Ql0 P w K mg ab)(aE:Qfm P w K mg ab)(bN:Qj3 P w K mg ab)(bp:QlX P w K mg ab):Qol P w K mg ab:=okD Qgg QdO QiZ 1 h Qr9 (λnd=>λhr=>(by refine Ss (O1:=[]) ?_ ?_;exact(Qf 2 nd (dc aE hr (dn 0 (Db (Qb Qe (dv 1) dq) Dz))));refine Ss (O1:=[]) ?_ ?_;exact(Qf 3 nd (Qb Q0 (dv 2) dq));refine Ss (O1:=[]) ?_ ?_;exact(Qf 4 nd (Qb Qe dq (dr (Qb Q0 (dr (Qb JG (dv 2) dq)) (dr (Qz (dr (Jd (Dk QA (Dk QA Dz)) lz2)) (dr (QhG QjQ rfl T.b_int boot_int (dr (Zx (V1 hr.units) (dr (Qb Q0 (dr (Qb JG (dv 2) dq)) dq)) dq (JJ _)))))))))));refine Ss (O1:=[]) ?_ ?_;exact(Qf 5 nd (Qb Qe dq (dr (Qb Q0 (dr (Qb JG (dv 2) dq)) (dr (Qz (dr (Jd (Dk QA (Dk QA Dz)) lz2)) (dr (QhG QjQ rfl T.b_int boot_int (dr (Zx (V1 hr.units) (dr (Qb Q0 (dr (Qb JG (dv 2) dq)) dq)) dq (JJ _)))))))))));refine Ss (O1:=[]) ?_ ?_;exact(Qf 6 nd (dc bp hr (Db (Qb JG (dv 2) dq) (dn 4 (Dk QA Dz)))));refine Ss (O1:=[]) ?_ ?_;exact(Qf 7 nd (dc bp hr (Db (Qb JG (dv 2) dq) (dn 4 (Dk QA Dz)))));refine Ss (O1:=[]) ?_ ?_;exact(Qf 8 nd (dc bU hr (dn 1 Dz)));refine Ss (O1:=[]) ?_ ?_;exact(Qf 9 nd (Qs 8));refine Ss (O1:=[]) ?_ ?_;exact(Qy (dE hr (dr (Qb Q0 (dr (Qb JG (dv 2) dq)) dq)) dq) (So (Qf 9 nd Qd)) Sn);refine Ss (O1:=[]) ?_ ?_;exact(Qy (dE hr (dv 3) dq) (So (Ql (QR (Dk Qd (Db (Qb Qe (dx 7) (dr (QlG (dv 6)))) (dn 9 Dz))) lz3))) Sn);refine Ss (O1:=[]) ?_ ?_;exact(Qy (dE hr (dv 3) dq) (So (Ql (QR (Dk Qd (Db (Qb Qe (dx 7) (dr (QlG (dv 6)))) (Db (Qb VS (dv 5) dq) (dn 9 Dz)))) lz4))) Sn);refine Ss (O1:=[]) ?_ ?_;refine Qy ?_ ?_ ?_;exact(dE hr (dv 3) dq);refine So ?_;refine Ql ?_;refine QR ?_ ?_;refine Dk ?_ ?_;exact Qd;refine QbB ?_ ?_;refine Zm ?_;refine Zg rfl rfl (Jo (show J7 (Qa QdH) Qgg _ 1 ["_law_j","_law_text","_law_size"] [6,4]=true by decide+kernel)) (by decide) ?_ ?_ ?_ ?_;exact(dih (QaG rfl T.b_range (dv 5)));exact λ_ _ _ _ _ _=>Qq 0 (show List.Nodup (["_law_j","_law_text","_law_size"]:List Str)by decide+kernel);exact λ_ _ _ _ _ _=>Z3;exact λ_ _ _ _ _ _=>(Vo (dv 1) Vm (Vl (dr (QbW (Yt rfl) rfl T.b_max boot_max dq (dr (Qb VS (dv 2) (dv 0)))))));exact(dn 9 Dz);exact lz3;exact Sn;refine Ss (O1:=[]) ?_ ?_;exact(Qy (dE hr (dv 3) dq) (So (Ql (QR (Dk Qd (Dl (dc bN hr (dn 0 (dn 2 Dz))) (dn 9 Dz))) lz3))) Sn);refine Ss (O1:=[]) ?_ ?_;exact(Qy (dE hr (dv 3) dq) (So (Ql (QR (Dk Qd (Dk Qd (Dk Qd Dz))) lz3))) Sn);refine Ss (O1:=[]) ?_ ?_;exact(Qy (Vg QkR (dv 3) dq (JJ _)) (So (Ql (QR (Dk Qd (dn 8 Dz)) lz2))) Sn);refine Ss (O1:=[]) ?_ ?_;exact(Qy (dE hr (dv 3) dq) (So (Ql (QR (Dk Qd (Du (Vo (dr (Qb ZA (dv 7) dq)) Vm (Vl (dr (Qb Qe dq (dr (Qb Q0 (dr (Qb JG (dv 2) dq)) dq)))))) Dz)) lz2))) Sn);refine Ss (O1:=[]) ?_ ?_;refine Qy ?_ ?_ ?_;exact(Vg QkR (dv 3) dq (JJ _));refine So ?_;refine Ql ?_;refine QR ?_ ?_;refine Dk ?_ ?_;exact Qd;exact(Dk Qd (Du (Vo (dv 7) Vm (Vl (dr (Qb Q0 (dr (Qb JG (dv 2) dq)) dq)))) (Dl (dc bp hr (Db (Qb JG (dv 2) dq) (Db (Qb Q0 (dr (Qb JG (dv 2) dq)) dq) (Dk QA Dz)))) Dz)));exact lz4;exact Sn;refine Ss (O1:=[]) ?_ ?_;refine Qy ?_ ?_ ?_;exact(dE hr (dv 3) dq);refine So ?_;refine Ql ?_;refine QR ?_ ?_;refine Dk ?_ ?_;exact Qd;refine Qn5 ?_ ?_;exact Qs 7;refine QbB ?_ ?_;refine Zm ?_;refine Zg rfl rfl (Jo (show J7 (Qa QdH) Qgg _ 1 ["_law_j","_law_text"] [6]=true by decide+kernel)) (by decide) ?_ ?_ ?_ ?_;exact(dih (QaG rfl T.b_range (dv 5)));exact λ_ _ _ _ _ _=>Qq 0 (show List.Nodup (["_law_j","_law_text"]:List Str)by decide+kernel);exact λ_ _ _ _ _ _=>Z3;exact λ_ _ _ _ _ _=>(Vo (dv 1) (Vl (dv 0)) Vm);exact Dz;exact lz3;exact Sn;exact(So (Ql (QR (Dk Qd (dn 7 (Qce (Jd Dz lz0) Dz))) lz3)))))
theorem QmR:FnScope Qh3 QaL (Qa Qex):=by constructor<;>first|rfl|decide+kernel
theorem Qm4(h:Df K mg "_law_pointed" Qex QaL)(T:Txt K mg)(aE:Qfm P w K mg ab):Qh8 P w K mg ab:=okD Qh3 QaL QeK 1 h QmR (λnd=>λhr=>(by refine Ss (O1:=[2]) ?_ ?_;exact(Zs 2 nd (Yp Dz lz0));refine Ss (O1:=[2]) ?_ ?_;refine JL rfl PassesOwn.never ?_ ?_ ?_;exact(Jf (Qs 0));exact Qq 3 nd;refine So ?_;refine Qy ?_ ?_ ?_;exact(dE hr (dx 3) (dr Qd));exact(So (Zk 2 (by decide) (dy 3)));refine So ?_;exact(Qy (PW.pt (V2 (Vg Qju (dx 3) (dr (Jd (Dk Qd (Dk Qd (Dk Qd (Dk Qd Dz)))) lz4)) (by with_unfolding_all rfl)) (Zw (dF hr (dr (Qz (dv 3) (dr (QaH dq)))) (dr Qd))))) (So (Zk 2 (by decide) (Qz (dv 3) (dr (QaH dq))))) Sn);refine Ss (O1:=[2,4]) ?_ ?_;exact(Zs 4 nd (Yp Dz lz0));refine Ss (O1:=[2,4]) ?_ ?_;refine JL rfl PassesOwn.never ?_ ?_ ?_;exact(Qge rfl T.b_enumerate (Qs 0));exact(V3 rfl (Ju (O1:=[2,4]) (Qq 5 nd) (Ju (O1:=[2,4]) (Qq 3 nd) Vn)) rfl);refine So ?_;refine Qy ?_ ?_ ?_;exact(PW.pt (V2 (dE hr (dx 3) (dr Qd)) (Zw (dE hr (ZS 2) (dr (Jd Dz lz0))))));exact(So (Zk 4 (by decide) (QR (Dk Qd (Dk Qd (Qce (Jd Dz lz0) Dz))) lz3)));refine So ?_;refine Qy ?_ ?_ ?_;exact(dE hr (dx 3) (dr Qd));exact(Ss (O1:=[2,4]) (Qf 6 nd (Qz (ZS 2) (dr (Qb Q0 (dr (dc aE hr (Du (Qz (dv 1) (dv 5)) (Db (Qb Qe (dv 5) dq) Dz)))) (dr (Jb QI rfl T.b_len boot_len (ZS 2))))))) (So (Zk 4 (by decide) (QR (Dk Qd (dn 6 (Du (dy 3) (Du (dy 3) Dz)))) lz4))));exact(So (Zk 4 (by decide) (Qs 3)));exact(Ze 4 (So (Ql (Qs 4))))))
theorem QmS:FnScope Qh4 QaM (Qa Qey):=by constructor<;>first|rfl|decide+kernel
theorem Qm5(h:Df K mg "_law_grouped" Qey QaM)(T:Txt K mg):Qh9 P w K mg ab:=okD Qh4 QaM QeL 0 h QmS (λnd=>λhr=>(by refine Ss (O1:=[1]) ?_ ?_;exact(Zs 1 nd (Yp Dz lz0));refine Ss (O1:=[1,2]) ?_ ?_;exact(Zs 2 nd (Yp Dz lz0));refine Ss (O1:=[1,2]) ?_ ?_;refine JL rfl PassesOwn.never ?_ ?_ ?_;exact(Jf (Qb Qe (dv 0) (dr (Jd (Dt (QR (Dk Qd (Dk Qd (Dk Qd Dz))) lz3) Dz) lz1))));exact Qq 3 nd;refine Ss (O1:=[1,2]) ?_ ?_;exact(Qy (Vg Qhx (dx 3) (dr (Jd (Dk Qd (Dk Qd (Dk Qd (Dk Qd Dz)))) lz4)) (by with_unfolding_all rfl)) (Ss (O1:=[1,2]) (Zk 2 (by decide) (Qs 3)) (So QuL)) Sn);refine Ss (O1:=[1,2]) ?_ ?_;exact(Qy (PW.pt (V2 (dF hr (ZS 2) (dr (Jd Dz lz0))) (Zw (Vg Qhx (dr (Qz (dr (Qz (ZS 2) (dr (QaH dq)))) dq)) (dr (Jd (Dk Qd (Dk Qd Dz)) lz2)) (by with_unfolding_all rfl))))) (So (Zk 2 (by decide) (QR (Dk Qd (Dk Qd (Qce (Jd Dz lz0) Dz))) lz3))) Sn);exact(Ss (O1:=[1]) (Qy (PW.pt (QaD (dF hr (ZS 2) (dr (Jd Dz lz0))) (Zw (dE hr (dx 3) (dr Qd))))) (Ze 2 (So (Zk 1 (by decide) (QR (Dk Qd (dn 2 Dz)) lz2)))) (QsT 2 [1,2] Sn)) (Ss (O1:=[1,2]) (Zs 2 nd (Yp Dz lz0)) (So (Qy (Vg Qju (dx 3) (dr (Jd (Dk Qd (Dk Qd Dz)) lz2)) (by with_unfolding_all rfl)) (So (Zk 1 (by decide) (Qs 3))) Sn))));exact(Ze 1 (So (Ql (Qs 1))))))
theorem Qr7:FnScope Qi4 QdM (Qa Qf5):=by constructor<;>first|rfl|decide+kernel
theorem Qsr(h:Df K mg "_law_edge" Qf5 QdM)(T:Txt K mg)(ak:QeS P w K mg ab)(aE:Qfm P w K mg ab):Qoj P w K mg ab:=okD Qi4 QdM QiX 1 h Qr7 (λnd=>λhr=>(by refine Ss (O1:=[]) ?_ ?_;exact(Qy (PW.pt (QaD (Jy (dx 1)) (Zw (dF hr (dr (Qb Q0 (dr (dc ak hr (dn 0 (Dk QA Dz)))) dq)) dq)))) (So (Ql (Jd Dz lz0))) Sn);refine Ss (O1:=[]) ?_ ?_;exact(Qf 2 nd (Qb Qe dq (dr (Qb Q0 (dr (dc aE hr (Dl (dc ak hr (dn 0 (Dk QA Dz))) (Dk QA Dz)))) dq))));refine Ss (O1:=[]) ?_ ?_;exact(Qf 3 nd QA);refine Ss (O1:=[]) ?_ ?_;exact(JL rfl PassesOwn.never (QaG rfl T.b_range (dv 2)) (Qq 4 nd) (So (Qf 3 nd (Qb ZA (dv 3) dq))));refine Ss (O1:=[]) ?_ ?_;refine Qf 5 nd ?_;refine Jd ?_ ?_;exact(Dt (QR (Dk Qd (Db (Qb ZA (dr Qd) (dr (QbW (Yt rfl) rfl T.b_max boot_max dq (dr (Qb VS (dr (Qb VS (dx 1) dq)) (dv 2)))))) (Qce (Jd Dz lz0) Dz))) lz3) (Dt (QR (Dk Qd (Dk Qd Dz)) lz2) (Dt (QR (Dk Qd (Dk Qd (Dk Qd (Dk Qd Dz)))) lz4) Dz)));exact lz3;refine So ?_;refine Ql ?_;refine Jd ?_ ?_;refine Dt ?_ ?_;exact(QR (Dk Qd (Db (Qb VS (dv 3) dq) (Dk Qd Dz))) lz3);refine Dt ?_ ?_;refine QR ?_ ?_;refine Dk ?_ ?_;exact Qd;refine QbB ?_ ?_;refine Zm ?_;refine Zg rfl rfl (Jo (show J7 (Qa Qf5) Qi4 _ 1 ["_law_k"] []=true by decide+kernel)) (by decide) ?_ ?_ ?_ ?_;exact(dih (QaG rfl T.b_range (dr (Qb VS (dx 1) dq))));exact λ_ _ _ _ _ _=>Qq 0 (show List.Nodup (["_law_k"]:List Str)by decide+kernel);exact λ_ _ _ _ _ _=>Z3;exact λ_ _ _ _ _ _=>Qd;exact(Dk Qd Dz);exact lz3;exact(Dt (QR (Dk Qd (dn 5 Dz)) lz2) Dz);exact lz3))
theorem QqD:FnScope VH Qcy (Qa YZ):=by constructor<;>first|rfl|decide+kernel
theorem QqT(h:Df K mg "_law_needs" YZ Qcy)(T:Txt K mg):QlZ P w K mg ab:=okD VH Qcy Qg8 0 h QqD (λnd=>λhr=>(by refine Ss (O1:=[]) ?_ ?_;exact(Qf 2 nd QA);refine Ss (O1:=[]) ?_ ?_;exact(Qf 3 nd QA);refine Ss (O1:=[]) ?_ ?_;refine JL rfl PassesOwn.never ?_ ?_ ?_;exact(Jf (Qs 0));exact Qq 4 nd;refine Ss (O1:=[]) ?_ ?_;exact(Qy (PW.pt (QaD (dE hr (dx 4) (dr Qd)) (Zw (dE hr (dx 4) (dr Qd))))) (So (Qf 2 nd (QbW (Yt rfl) rfl T.b_max boot_max (dv 2) (dr (Qb Qe (dr (Qb Qe (dr (Jb QI rfl T.b_len boot_len (dx 4))) dq)) (dv 1)))))) Sn);refine Ss (O1:=[]) ?_ ?_;exact(Qy (dE hr (dx 4) (dr Qd)) (So (Qf 3 nd (QbW (Yt rfl) rfl T.b_max boot_max (dv 3) (dr (Qb Qe (dx 4) dq))))) Sn);refine Ss (O1:=[]) ?_ ?_;refine Qy ?_ ?_ ?_;exact(dE hr (dx 4) (dr Qd));refine Ss (O1:=[]) ?_ ?_;exact(Qf 3 nd (QbW (Yt rfl) rfl T.b_max boot_max (dv 3) (dr (Jb QI rfl T.b_len boot_len (dx 4)))));refine So ?_;refine Qf 2 nd ?_;refine Jb (QbN rfl) rfl T.b_max boot_max ?_;refine dr ?_;refine Qb Qe ?_ ?_;exact(dr (Jd (dn 2 Dz) lz1));refine dr ?_;refine Zm ?_;refine Zg rfl rfl (Jo (show J7 (Qa YZ) VH _ 1 ["_law_row"] []=true by decide+kernel)) (by decide) ?_ ?_ ?_ ?_;exact(dih (Jf (dy 4)));exact λ_ _ _ _ _ _=>Qq 0 (show List.Nodup (["_law_row"]:List Str)by decide+kernel);exact λ_ _ _ _ _ _=>Z3;exact λ_ _ _ _ _ _=>(Jb QI rfl T.b_len boot_len (dv 0));exact Sn;refine So ?_;refine Qy ?_ ?_ ?_;exact(dE hr (dx 4) (dr Qd));refine Ss (O1:=[]) ?_ ?_;refine Qf 2 nd ?_;refine Jb (QbN rfl) rfl T.b_max boot_max ?_;refine dr ?_;refine Qb Qe ?_ ?_;exact(dr (Jd (dn 2 Dz) lz1));refine dr ?_;refine Zm ?_;refine Zg rfl rfl (Jo (show J7 (Qa YZ) VH _ 1 ["_law_item","_law_room"] [1]=true by decide+kernel)) (by decide) ?_ ?_ ?_ ?_;exact(dih (Jf (dy 4)));exact λ_ _ _ _ _ _=>Qq 0 (show List.Nodup (["_law_item","_law_room"]:List Str)by decide+kernel);exact λ_ _ _ _ _ _=>(Qau (dE hr (dx 0) (dr Qd)));exact λ_ _ _ _ _ _=>(Qb Qe (dr (Qb Qe (dr (Jb QI rfl T.b_len boot_len (dx 0))) (dv 1))) (dr (Jb QI rfl T.b_len boot_len (dx 0))));refine Ss (O1:=[]) ?_ ?_;refine Qf 2 nd ?_;refine Jb (QbN rfl) rfl T.b_max boot_max ?_;refine dr ?_;refine Qb Qe ?_ ?_;exact(dr (Jd (dn 2 Dz) lz1));refine dr ?_;refine Zm ?_;refine Zg rfl rfl (Jo (show J7 (Qa YZ) VH _ 1 ["_law_item"] []=true by decide+kernel)) (by decide) ?_ ?_ ?_ ?_;exact(dih (Jf (dy 4)));exact λ_ _ _ _ _ _=>Qq 0 (show List.Nodup (["_law_item"]:List Str)by decide+kernel);exact λ_ _ _ _ _ _=>(Qau (dE hr (dx 0) (dr Qd)));exact λ_ _ _ _ _ _=>(Jb QI rfl T.b_len boot_len (dx 0));refine Ss (O1:=[5]) ?_ ?_;refine QhZ 5 nd rfl rfl (Jo (show J7 (Qa YZ) VH _ 1 ["_law_item"] []=true by decide+kernel)) (by decide) ?_ ?_ ?_ ?_;exact(dih (Jf (dy 4)));exact λ_ _ _ _ _ _=>Qq 0 (show List.Nodup (["_law_item"]:List Str)by decide+kernel);exact λ_ _ _ _ _ _=>(Qau (dE hr (dx 0) (dr Qd)));exact λ_ _ _ _ _ _=>(dy 0);refine Ss (O1:=[5]) ?_ ?_;refine Qf 3 nd ?_;refine Jb (QbN rfl) rfl T.b_max boot_max ?_;refine dr ?_;refine Qb Qe ?_ ?_;exact(dr (Jd (dn 3 Dz) lz1));refine dr ?_;refine Zm ?_;refine Zg rfl rfl (Jo (show J7 (Qa YZ) VH _ 1 ["_law_rows"] []=true by decide+kernel)) (by decide) ?_ ?_ ?_ ?_;exact Qwy 5;exact λ_ _ _ _ _ _=>Qq 0 (show List.Nodup (["_law_rows"]:List Str)by decide+kernel);exact λ_ _ _ _ _ _=>Z3;exact λ_ _ _ _ _ _=>(Qb Qe dq (dr (Jb QI rfl T.b_len boot_len (dv 0))));refine Ze 5 ?_;refine So ?_;refine JL rfl PassesOwn.never ?_ ?_ ?_;exact(Jf (Qs 5));exact Qq 6 nd;refine So ?_;refine Qf 2 nd ?_;refine Jb (QbN rfl) rfl T.b_max boot_max ?_;refine dr ?_;refine Qb Qe ?_ ?_;exact(dr (Jd (dn 2 Dz) lz1));refine dr ?_;refine Zm ?_;refine Zg rfl rfl (Jo (show J7 (Qa YZ) VH _ 1 ["_law_row"] []=true by decide+kernel)) (by decide) ?_ ?_ ?_ ?_;exact(dih (Jf (Qs 6)));exact λ_ _ _ _ _ _=>Qq 0 (show List.Nodup (["_law_row"]:List Str)by decide+kernel);exact λ_ _ _ _ _ _=>Z3;exact λ_ _ _ _ _ _=>(Jb QI rfl T.b_len boot_len (dv 0));exact Sn;exact(So (Ql (QR (dn 2 (dn 3 Dz)) lz2)))))
theorem Qr6:FnScope Qi3 QdL (Qa Qf4):=by constructor<;>first|rfl|decide+kernel
theorem Qsq(h:Df K mg "_law_most" Qf4 QdL)(T:Txt K mg):Qoi P w K mg ab:=okD Qi3 QdL QiW 0 h Qr6 (λnd=>λhr=>(by refine Ss (O1:=[]) ?_ ?_;exact(Qf 2 nd QA);refine Ss (O1:=[]) ?_ ?_;refine JL rfl PassesOwn.never ?_ ?_ ?_;exact(Jf (Qs 0));exact Qq 3 nd;refine Ss (O1:=[]) ?_ ?_;exact(Qf 2 nd (Qb Qe (dv 2) dq));refine Ss (O1:=[]) ?_ ?_;exact(Qy (PW.pt (V2 (Jy (dv 1)) (Zw (PW.pt (QaD (dE hr (dx 3) (dr Qd)) (Zw (dE hr (dx 3) (dr Qd)))))))) (So (Qf 2 nd (Qb Qe (dv 2) dq))) Sn);refine Ss (O1:=[]) ?_ ?_;exact(Qy (dE hr (dx 3) (dr Qd)) (So (Qf 2 nd (Qb Qe (dv 2) (dx 3)))) Sn);refine So ?_;refine Qy ?_ ?_ ?_;exact(dE hr (dx 3) (dr Qd));refine So ?_;refine Qf 2 nd ?_;refine Qb Qe ?_ ?_;exact(dv 2);refine dr ?_;refine Qb ZA ?_ ?_;exact dq;refine dr ?_;refine Jb QI rfl T.b_len boot_len ?_;refine dr ?_;refine Zm ?_;refine Zg rfl rfl (Jo (show J7 (Qa Qf4) Qi3 _ 1 ["_law_item"] []=true by decide+kernel)) (by decide) ?_ ?_ ?_ ?_;exact(dih (Jf (dy 3)));exact λ_ _ _ _ _ _=>Qq 0 (show List.Nodup (["_law_item"]:List Str)by decide+kernel);exact λ_ _ _ _ _ _=>(Qau (PW.pt (QaD (dE hr (dx 0) (dr Qd)) (Zw (dE hr (dx 0) (dr Qd))))));exact λ_ _ _ _ _ _=>Qs 0;exact Sn;exact(So (Ql (Qs 2)))))
theorem QqF:FnScope Qen QcA (Qa Qcu):=by constructor<;>first|rfl|decide+kernel
theorem QqV(h:Df K mg "_law_drawn" Qcu QcA)(T:Txt K mg)(cj:Qol P w K mg ab)(ak:QeS P w K mg ab)(bP:Qoj P w K mg ab)(bE:Qh9 P w K mg ab)(aE:Qfm P w K mg ab)(cc:Qoi P w K mg ab)(bT:QlZ P w K mg ab)(bD:Qh8 P w K mg ab):Ql1 P w K mg ab:=okD Qen QcA Qg9 2 h QqF (λnd=>λhr=>(by refine Ss (O1:=[]) ?_ ?_;exact(Qf 1 nd (Qb Qe (dr (Vo (dv 0) Vm (Vl dq))) (dr (Jd (Dk QA Dz) lz1))));refine Ss (O1:=[2]) ?_ ?_;refine QhZ 2 nd rfl rfl (Jo (show J7 (Qa Qcu) Qen _ 1 ["_law_k","_law_every"] [1]=true by decide+kernel)) (by decide) ?_ ?_ ?_ ?_;exact(dih (QaG rfl T.b_range (dr (Qb Q0 (dr (dc aE hr (Dl (dc ak hr (dn 0 (Dk QA Dz))) (Dk QA Dz)))) dq))));exact λ_ _ _ _ _ _=>Qq 0 (show List.Nodup (["_law_k","_law_every"]:List Str)by decide+kernel);exact λ_ _ _ _ _ _=>Z3;exact λ_ _ _ _ _ _=>(Qz (dv 1) (dr (Qb Q0 (dv 0) (dr (Jb QI rfl T.b_len boot_len (dv 1))))));refine Ze 2 ?_;refine Ss (O1:=[]) ?_ ?_;refine Qf 3 nd ?_;refine dc bE hr ?_;refine Dl ?_ ?_;refine dc bD hr ?_;refine QbB ?_ ?_;refine Zm ?_;refine Zg rfl rfl (Jo (show J7 (Qa Qcu) Qen _ 2 ["_law_k","_law_cell"] []=true by decide+kernel)) (by decide) ?_ ?_ ?_ ?_;exact(dih (Qge rfl T.b_enumerate (Qs 2)));exact λ_ _ _ _ _ _=>(V3 rfl (Ju (O1:=[]) (Qq 0 (show List.Nodup (["_law_k","_law_cell"]:List Str)by decide+kernel)) (Ju (O1:=[]) (Qq 1 (show List.Nodup (["_law_k","_law_cell"]:List Str)by decide+kernel)) Vn)) rfl);exact λ_ _ _ _ _ _=>Z3;exact λ_ _ _ _ _ _=>(dc cj hr (dn 1 (dn 0 Dz)));exact(dn 2 Dz);exact Dz;refine Ss (O1:=[]) ?_ ?_;exact(Qf 4 nd (Zx (V1 hr.units) (dr (Qb Q0 (dr (dc ak hr (dn 0 (Dk QA Dz)))) dq)) dq (JJ _)));refine Ss (O1:=[]) ?_ ?_;exact(Qf 5 nd (dc bP hr (dn 0 (Dt (QR (Dk QA (Dk QA (Dk QoM (dn 4 Dz)))) lz4) Dz))));refine Ss (O1:=[]) ?_ ?_;exact(Qf 6 nd (Jb QI rfl T.b_len boot_len (dr (QhG QjP rfl T.b_str boot_str (dr (dc cc hr (Db (Qb Qe (dv 5) (dv 3)) (dn 4 Dz))))))));refine Ss (O1:=[]) ?_ ?_;exact(Qqe (dc bT hr (Db (Qb Qe (dv 3) (dv 5)) (dn 6 Dz))) (V3 rfl (Ju (O1:=[]) (Qq 7 nd) (Ju (O1:=[]) (Qq 8 nd) Vn)) rfl));refine Ss (O1:=[]) ?_ ?_;exact(Qy (dF hr (dv 5) (dr (Jd Dz lz0))) (So (Qf 7 nd (QbW (Yt rfl) rfl T.b_max boot_max (dv 7) (dr (Qb Qe (dv 6) dq))))) Sn);refine Ss (O1:=[]) ?_ ?_;exact(Qf 9 nd (QbW (Yt rfl) rfl T.b_max boot_max (dv 7) (dr (Qb Qe dq (dr (Qb Q0 (dr (dc aE hr (Dl (dc ak hr (dn 0 (Dk QA Dz))) (Dk QA Dz)))) dq))))));refine Ss (O1:=[]) ?_ ?_;exact(Qf 10 nd (QbW (Yt rfl) rfl T.b_max boot_max (dv 8) (dr (Qb Qe dq (dr (Qb Q0 (dr (dc aE hr (Dl (dc ak hr (dn 0 (Dk QA Dz))) (Dk QA Dz)))) dq))))));refine Ss (O1:=[]) ?_ ?_;exact(Qy (dE hr (dr (Qb Q0 (dr (dc ak hr (dn 0 (Dk QA Dz)))) dq)) dq) (So (Qf 10 nd (QbW (Yt rfl) rfl T.b_max boot_max (dv 8) (dr (Qb Qe dq (dr (Qb Q0 (dr (dc aE hr (Dl (dc ak hr (dn 0 (Dk QA Dz))) (Dk QA Dz)))) dq))))))) Sn);exact(Ss (O1:=[]) (Qf 11 nd (QR (dn 9 (dn 10 (Qpn (Zx (V1 hr.units) (dr (Qb Q0 (dr (dc ak hr (dn 0 (Dk QA Dz)))) dq)) dq (JJ _)) (dn 4 Dz)))) lz4)) (So (Ql (QR (Db (Qb Qe (dr (dc bP hr (dn 0 (dn 11 Dz)))) (dv 3)) (dn 11 (dn 6 Dz))) lz3))))))
theorem Qr8:FnScope Qog QdN (Qa QiB):=by constructor<;>first|rfl|decide+kernel
theorem Qss(h:Df K mg "_law_copy" QiB QdN)(T:Txt K mg):Qok P w K mg ab:=okD Qog QdN QiY 0 h Qr8 (λnd=>λhr=>(by refine Ss (O1:=[1]) ?_ ?_;exact(Zs 1 nd (Yp Dz lz0));refine Ss (O1:=[1]) ?_ ?_;refine JL rfl PassesOwn.never ?_ ?_ ?_;exact(Jf (Qs 0));exact Qq 2 nd;refine So ?_;refine Qy ?_ ?_ ?_;exact(dE hr (dx 2) (dr Qd));refine Ss (O1:=[1,3]) ?_ ?_;exact(Zs 3 nd (Yp Dz lz0));refine Ss (O1:=[1,3]) ?_ ?_;exact(JL rfl PassesOwn.never (Jf (dy 2)) (Qq 4 nd) (So (Qy (dE hr (dx 4) (dr Qd)) (So (Zk 3 (by decide) (QR (Dk Qd (Du (dy 4) (Dl (Zm (Qn7 rfl T.b_list boot_list (dx 4))) Dz))) lz3))) (So (Zk 3 (by decide) (Qs 4))))));exact(Ze 3 (So (Zk 1 (by decide) (QR (Dk Qd (dn 3 Dz)) lz2))));exact(So (Qy (dE hr (dx 2) (dr Qd)) (So (Zk 1 (by decide) (QR (Dk Qd (Dl (Zm (Qn7 rfl T.b_list boot_list (dx 2))) (Du (dy 2) Dz))) lz3))) (So (Zk 1 (by decide) (Qs 2)))));exact(Ze 1 (So (Ql (Qs 1))))))
theorem QqC:FnScope QlU Qcx (Qa QgP):=by constructor<;>first|rfl|decide+kernel
theorem QqS(h:Df K mg "_law_pairs" QgP Qcx)(T:Txt K mg):QlY P w K mg ab:=okD QlU Qcx Qg7 0 h QqC (λnd=>λhr=>(by refine Ss (O1:=[2]) ?_ ?_;exact(Zs 2 nd (Yp Dz lz0));refine Ss (O1:=[2]) ?_ ?_;refine JL rfl PassesOwn.never ?_ ?_ ?_;exact(QaG rfl T.b_range (dr (Jb QI rfl T.b_len boot_len (dv 0))));exact Qq 3 nd;refine So ?_;refine Qy ?_ ?_ ?_;exact(dE hr (dr (Qz (dr (Qz (dv 0) (dv 3))) dq)) (dr Qd));refine Ss (O1:=[2]) ?_ ?_;exact(Qf 4 nd QA);refine So ?_;refine JL rfl PassesOwn.never ?_ ?_ ?_;exact(Jf (Qz (dr (Qz (dv 0) (dv 3))) dq));exact Qq 5 nd;exact(Ss (O1:=[2]) (Qy (dE hr (dx 5) (dr Qd)) (So (Zk 2 (by decide) (QR (Du (dy 5) (Du (Qz (dr (Qz (dr (Qz (dv 1) (dr (Qb Qe (dv 3) dq)))) (dv 4))) dq) Dz)) lz2))) Sn) (So (Qy (PW.pt (QaD (dE hr (dx 5) (dr Qd)) (Zw (dE hr (dx 5) (dr Qd))))) (So (Qf 4 nd (Qb Qe (dv 4) dq))) Sn)));exact Sn;exact(Ze 2 (So (Ql (Qs 2))))))
theorem QtJ:FnScope Qqo Qff (Qa QkN):=by constructor<;>first|rfl|decide+kernel
theorem Quc(h:Df K mg "_law_due" QkN Qff)(T:Txt K mg):Qqr P w K mg ab:=okD Qqo Qff Qk0 0 h QtJ λnd=>λhr=>by refine Ss (O1:=[1]) ? _ ? _;exact Zs 1 nd (Yp Dz lz0);refine Ss (O1:=[1]) ? _ ? _;refine QsX ? _;refine QiO DRes.gr rfl PassesOwn.never ? _ ? _ ? _;exact Jf (Zm (Qs8 rfl T.b_sorted boot_sorted (dv 0)));exact Qq 2 nd;exact Qbd (by refine Qqd (i:=1) ? _ ? _ ? _;exact PW.pt (V2 (dF hr (ZS 1) (dr (Jd Dz lz0))) (Zw (dE hr (dr (Qz (dr (Qz (ZS 1) (dr (QaH dq)))) dq)) (dx 2))));exact Qbd (by refine Qqd (i:=1) ? _ ? _ ? _;exact dF hr (dr (Qz (dr (Qz (dr (Qz (ZS 1) (dr (QaH dq)))) dq)) (dr (QaH dq)))) (dx 2);exact Qbd (by refine QuN (i:=1) (ea:=eUn D.neg (eC (.int 1))) (λ_=>rfl) (VR (Qee PySem.F.plainAttrs_list PySem.F.slot_list_append PySem.F.type_list_append Qav (Qku QhA (Qku QhA (Yo rfl (by first|exact Or.inl rfl|exact Or.inr (Or.inl rfl)|exact Or.inr (Or.inr rfl))) ? _ λ_ _=>rfl) Qhw λ_ _=>rfl) (Jw ? _ ZI)));exact QaH dq;exact dy 2);exact QsU);exact Qbd (by refine QuM (i:=1) (VR (Qee PySem.F.plainAttrs_list PySem.F.slot_list_append PySem.F.type_list_append Qav (Yo rfl (by first|exact Or.inl rfl|exact Or.inr (Or.inl rfl)|exact Or.inr (Or.inr rfl))) (Jw (QkQ (Jw ? _ (Jw (Qfb (Jw ? _ ZI)) ZI))) ZI)));exact dy 2;exact dy 2));exact Ze 1 (So (Ql (Qs 1)))
theorem sc_law:FnScope QoR Qtj (Qa Qhn):=by constructor<;>first|rfl|decide+kernel
theorem Qv4{f:Addr}{fd:FuncData}(h:Fun K "law" "law" Qhn f fd)(T:Txt K mg)(cg:Qok P w K mg ab)(bV:Ql1 P w K mg ab)(cz:Qqr P w K mg ab)(bS:QlY P w K mg ab)(bR:QlW P w K mg ab)(cb:Qoh P w K mg ab)(cy:Qqq P w K mg ab)(bx:Qi5 P w K mg ab):FnOk P w K mg ab CX0 11 f fd ["_law_script"] (spD K QfY):=have nd:=sc_law.nd
 okF (b:=QoO) (k:=10) (N:=QoR) (ps:=Qtj) (O':=[]) (OL:=[]) h sc_law λax A ag s H E hr=>(by refine Ss (O1:=[]) ?_ ?_;exact(Qqe (dc bV hr (dn 0 Dz)) (V3 rfl (Ju (O1:=[]) (Qq 1 nd) (Ju (O1:=[]) (Qq 2 nd) (Ju (O1:=[]) (Qq 3 nd) Vn))) rfl));refine Ss (O1:=[]) ?_ ?_;exact(Qf 4 nd (dc cz hr (Dl (dc bS hr (dn 1 (Dl (dc cy hr (dn 1 (dn 2 (Dl (dc bx hr (dn 1 (dn 2 Dz))) Dz)))) Dz))) Dz)));refine Ss (O1:=[]) ?_ ?_;exact(Qf 5 nd (dc cg hr (dn 1 Dz)));refine Ss (O1:=[]) ?_ ?_;refine JL rfl PassesOwn.never ?_ ?_ ?_;exact(QaG rfl T.b_range dq);exact Qq 6 nd;refine QsV (i:=7) (j:=8) (by decide) (by decide) (Qbb (QkO nd rfl (by first|exact Or.inl rfl|exact Or.inr rfl) (Qll cb ?_ rfl ?_)) (Qbb (Qho ?_ Qfv QdJ) (Qbb (QkP PassesOwn.never rfl (QiE (Yo rfl (by first|exact Or.inl rfl|exact Or.inr (Or.inl rfl)|exact Or.inr (Or.inr rfl)))) (QnE nd rfl (by first|exact Or.inl rfl|exact Or.inr rfl)) (Qbb (Qho ?_ Qfv QdJ) (Qbb (Qho ?_ Qfv QdJ) (Qf8 (VR (Qee PySem.F.plainAttrs_list PySem.F.slot_list_append PySem.F.type_list_append Qav (Qku QhA (Yo rfl (by first|exact Or.inl rfl|exact Or.inr (Or.inl rfl)|exact Or.inr (Or.inr rfl))) Qhw (λ_ _=>rfl)) (Jw Qhw ZI))))))) (Qf8 (VR (Qee PySem.F.plainAttrs_list PySem.F.slot_list_append PySem.F.type_list_append Qav (Yo rfl (by first|exact Or.inl rfl|exact Or.inr (Or.inl rfl)|exact Or.inr (Or.inr rfl))) (Jw (QkQ (Jw QpY (Jw (Qfb ZI) ZI))) ZI)))))));exact hr.mono (by decide);exact(dn 5 (dn 2 Dz));exact(PW.pt (QaD (QbG (Jy (dr (Qcd (Qlx _) rfl T.b_isinstance boot_isinstance rfl T.b_list boot_list (ZS 7))))) (QaD (dF hr (ZS 7) (dv 4)) (Zw (dF hr (dv 5) (dv 1))))));refine PW.pt ?_;exact(QaD (QbG (Jy (dr (Qcd (Qq7 _) rfl T.b_isinstance boot_isinstance rfl T.b_tuple boot_tuple (dv 8))))) (QaD (QbG (Jy (dr (Qcd (Qux _) rfl T.b_isinstance boot_isinstance rfl T.b_str boot_str (dx 8))))) (Zw (QbG (Jy (dr (Qcd (Qlx _) rfl T.b_isinstance boot_isinstance rfl T.b_list boot_list (dx 8))))))));refine Vg (Qp0 hr.units) ?_ ?_ (JJ _);refine dr ?_;refine Zm ?_;refine Zg rfl rfl (Jo (show J7 (Qa Qhn) QoR _ 1 ["_law_page"] []=true by decide+kernel)) (by decide) ?_ ?_ ?_ ?_;exact(dih (Jf (dy 8)));exact λ_ _ _ _ _ _=>Qq 0 (show List.Nodup (["_law_page"]:List Str)by decide+kernel);exact λ_ _ _ _ _ _=>(Qau (QbG (Jy (dr (dc bR hr (dn 0 Dz))))));exact λ_ _ _ _ _ _=>Qs 0;exact(dr (Jd Dz lz0));exact(So (Ql QoM)))
end
end
open PySem PySem.Spec PyProof.Rows L2 Wd
theorem walk{l:W.OpenLaw}{q:Program}{loose:List Str}{XP:(Str->Option Value)->Heap->Prop}{YP:World->Heap->Prop}{d:DefRec}{K:Params->W.Frag}(hn:l.most=some 63)(fJ:d.params.defaults=[])(hY:∀(w:World)(h:Heap),YP w h->(K w.params).In h)(F:∀(w:World)(mg:Str->Option Value)(fa:Addr)(h:Heap),(K w.params).In h->h.Ns mainGlobals mg->mg d.name=some (.ref fa)->∃fd:FuncData,(∀(s:Shared)(u:Value),BindsTo s fd ⟨[u],[]⟩ [("_law_script",u)])/\∀ab:Heap,(K w.params).In ab->ab.Ns mainGlobals mg->FnOk l.prog w (K w.params) mg ab CX0 11 fa fd ["_law_script"] (spD (K w.params) QfY)):W.WalkO q loose XP YP l.row.toRowW d [] λf vs=>PySem.call f vs:=L2.walk_of (n:=63) (k:=11) (x:="_law_script") (CX:=λ_=>CX0) (sp:=λw=>spD (K w.params) QfY) hn (by decide) fJ ⟨rfl,by decide,by decide⟩ hY F (λw H a ns _ _ hS=>Qwc (K w.params) QfY QsF H a ns hS) λ_ _ _ _ _ z=>z
end My
namespace Hd
open PySem PySem.W PySem.Calls PyProof.Rows My L2
theorem Qlf{tb:String->Option Builtin}{p:Program}{w:World}{n₀:Nat}{ann:Option Value}:∀{n:Nat}{s s':Shared}{t:Thread}{f:Flow}{c:Code}{q:Pos},segRun tb p w n₀ ann 0 n s t=some (f,s',c,q)->topRun tb p w n₀ ann n s t=some s'
 |0,_,_,_,_,_,_,h=>by cases h|n+1,s,s',t,f,c,q,h=>by
  unfold segRun at h;unfold topRun;have hz:(endAt 0 t).isSome=through t:=by
   obtain⟨cur,code,pos,st⟩:=t;cases st with
   |nil=>cases cur with|pure x=>cases x<;>rfl|_=>rfl
   |cons a b=>rfl
  cases he:endAt 0 t with
  |some g=>rw[he]at h hz;rw[<-hz];cases h;rfl|none=>rw[he]at h hz;rw[<-hz];cases hk:stepOk n₀ ann t with|false=>rw[hk]at h;cases h|true=>rw[hk]at h;cases hs:step (denote tb) p w s t with|halt o s₂=>rw[hs]at h;cases h|go s₂ t₂=>rw[hs]at h;exact Qlf h
noncomputable def T0(P:Params):BT:=(boot_heap P).objs.toList.foldl (λx o=>(x.1.ins x.2 o,x.2+1)) (BT.nil,0)|>.1
noncomputable def st0(w:World)(os:OsState):SharedT:=⟨T0 w.params,11,{},Array.mk [],boot_drawn,boot_toks,os⟩
theorem Qnx(w:World)(os:OsState):(st0 w os).abs=⟨boot_heap w.params,Array.mk [],boot_drawn,boot_toks,os⟩:=by kernel_rfl
noncomputable def runs(p:Program)(M:Nat)(w:World)(os:OsState):Option Shared:=(segRunT treeTable p w 11 (some (.ref 6)) 0 M (st0 w os) (topStub p)).map λr=>r.2.1.abs
noncomputable def chk(p:Program)(w:World)(s:Shared):Bool:=staticsOk (importedModules p.main.body) (boot_heap w.params) s.heap&&namesBound p s.heap&&gensDone s&&laidKept (boot_heap w.params) s.heap
theorem left{p q:Program}{loose:List Str}{Xt:Shared->Bool}{α:Type}{Yf:Shared->α}{Ya:World->α}{N:Nat}{g0:Bool}{M:Nat}(e:opening p=plainProg p.main.scope.names)(f:∀s,fenceModules? p s=some s)(hN:Nat.ble 600 N=true)(le:Nat.ble M N=true)(size:∀w:World,((boot_heap w.params).isNs mainGlobals,(boot_heap w.params).objs.size,(boot_heap w.params).nsMap mainGlobals "__annotations__")=(true,11,some (.ref 6)))(ra:∀(w:World)(os:OsState),(runs p M w os).map (chk p w)=some true)(rb:∀(w:World)(os:OsState),(runs p M w os).map (openSeen q loose (importedModules p.main.body) Xt g0)=some (openGood q loose))(rc:∀(w:World)(os:OsState),(runs p M w os).map Yf=some (Ya w)):LeftO p q loose Xt Yf Ya N g0:=λw=>by
 obtain⟨u,e1,e2⟩:=Option.map_eq_some_iff.mp (boot_open e hN f w);obtain⟨v,r1,l1⟩:=Option.map_eq_some_iff.mp (ra w u.os);obtain⟨⟨_,v',_⟩,r2,r3⟩:=Option.map_eq_some_iff.mp r1;have l2:=rb w u.os;have l3:=rc w u.os;rw[r1]at l2 l3;have hu:u=(st0 w u.os).abs:=by
  rw[Qnx];cases u;cases e2;rfl
 have go:=topRun_mono (N-M) _ _ _ _ (Qlf (segRun_of r2));rw[Nat.add_sub_of_le (Nat.le_of_ble_eq_true le)]at go;have t:topFrom treeTable p w N u=some v:=by
  have z:=size w;simp only[Prod.mk.injEq]at z;rw[hu];unfold topFrom;rw[Qnx]at go⊢;simp only[z.1,z.2.1,z.2.2,go];simp only[<-r3]at l1⊢;unfold chk at l1;simp[l1]
 simp only[openEnds,e1,bind_some,t,map_some];rw[Option.some.inj l2,Option.some.inj l3]
noncomputable abbrev p:=PySem.Challenge.pw_leastbook_k26_keys_and_pages
noncomputable section
noncomputable def QrO(s:Stmt):Str:=match s with|.FunctionDef n _ _ _ _ _ _ _ _ _=>n|_=>""
def QwU(s:Stmt):Pos:=match s with|.FunctionDef _ _ _ _ _ _ _ _ _ p=>p|_=>⟨0,0,0,0⟩
noncomputable abbrev m0:Value:=.str "leastbook.places" 348
noncomputable abbrev m1:Value:=.str "leastbook.books" 468
noncomputable abbrev m2:Value:=.str "leastbook.setting" 632
noncomputable abbrev m3:Value:=.str "leastbook.least" 718
noncomputable abbrev m4:Value:=.str "leastbook.lists" 753
noncomputable abbrev m5:Value:=.str "law_leastbook_k26_keys_and_pages" 769
def tb:List (Nat×Nat×Nat×Nat×Nat×Value):=[(17,141,366,370,1),(18,148,373,377,1),(19,155,380,386,1),(20,162,389,395,1),(21,169,398,406,1),(22,176,409,421,1),(23,183,424,428,1),(24,190,431,440,1),(25,197,443,447,1),(26,204,450,456,1),(27,211,459,465,1)].map (λx=>(x.1,x.2.1,x.2.2.1,x.2.2.2.1,x.2.2.2.2,m0))++[(29,218,470,474,1),(30,225,477,481,1),(31,232,484,488,1),(32,239,491,495,1),(33,246,498,502,1),(34,251,505,508,0),(35,256,511,514,0),(36,261,517,520,0),(37,268,523,528,1),(38,273,531,534,0),(39,280,537,544,1),(40,287,547,553,1),(41,294,556,561,1),(42,301,564,569,1),(43,308,572,578,1),(44,315,581,589,1),(45,322,592,600,1),(46,327,603,606,0),(47,334,609,617,1),(48,341,620,629,1)].map (λx=>(x.1,x.2.1,x.2.2.1,x.2.2.2.1,x.2.2.2.2,m1))++[(50,348,634,643,1),(51,355,646,658,1),(52,362,661,667,1),(53,369,670,681,1),(54,376,684,693,1),(55,383,696,706,1),(56,390,709,715,1)].map (λx=>(x.1,x.2.1,x.2.2.1,x.2.2.2.1,x.2.2.2.2,m2))++[(58,395,720,723,0),(59,402,726,734,1),(60,409,737,742,1),(61,416,745,750,1)].map (λx=>(x.1,x.2.1,x.2.2.1,x.2.2.2.1,x.2.2.2.2,m3))++[(63,423,755,760,1),(64,428,763,766,0)].map (λx=>(x.1,x.2.1,x.2.2.1,x.2.2.2.1,x.2.2.2.2,m4))++[(66,435,771,776,1),(67,442,779,783,1),(68,449,786,792,1),(69,456,795,800,1),(70,463,803,810,1),(71,470,813,824,1),(72,475,827,830,0),(73,482,833,843,1),(74,489,846,853,1),(75,494,856,859,0),(76,499,862,865,0),(77,504,868,871,0),(78,509,874,877,0),(79,516,880,888,1),(80,523,891,900,1),(81,530,903,909,1),(82,535,912,915,0)].map (λx=>(x.1,x.2.1,x.2.2.1,x.2.2.2.1,x.2.2.2.2,m5))
noncomputable def en(P:Params)(x:Str)(t:Nat)(v:Value):DictEntry:=⟨PyData.keyHash P x,.str x t,v⟩
def ns(P:Params):List DictEntry:=([en P "__name__" 165 (.str "law_leastbook_k26_keys_and_pages" 769),en P "__doc__" 166 (.none),en P "__package__" 167 (.none),en P "__loader__" 168 (.builtin "__main__.__loader__#opaque"),en P "__spec__" 169 (.none),en P "__annotations__" 170 (.ref 6),en P "__builtins__" 171 (.ref 4),en P "__file__" 173 (.str "/claim/cut.py" 172),en P "__cached__" 174 (.none),en P "BookError" 206 (.ref 24),en P "NoStyle" 222 (.ref 37),en P "TooWide" 247 (.ref 56),en P "TooHigh" 272 (.ref 75),en P "Twice" 297 (.ref 94),en P "Loose" 322 (.ref 113),en P "NoLabel" 347 (.ref 132),en P "WIDTH" 351 (.int 0 350),en P "HEIGHT" 353 (.int 1 352),en P "ODD" 355 (.int 2 354),en P "LISTED" 357 (.int 3 356),en P "PAGE" 359 (.int 0 358),en P "LINE" 361 (.int 1 360),en P "USED" 363 (.int 2 362),en P "FOOT" 365 (.int 3 364)])++(((tb.drop 0).take 61).map λr=>en P (QrO (top r.1)) (r.2.2.2.1+2) (.ref r.2.1))
def ob(r:Nat×Nat×Nat×Nat×Nat×Value):List (Nat×Obj):=let(i,f,t,u,b,m):=r
 let s:=top i
 let x:=QrO s
 let l:Value:=.int (QwU s).line 0
 let c:Str:="/claim/cut.py"
 let n:Value:=.int 0 0
 [(f-1,⟨.type "code",none,.fields #[.str x t,.str x (t+1),.str c (t+2),l,.int (Yk s).args.length 0,n,n,.int 3 0,.ref (if b=1 then f-6 else f-4),.bool true,.int 181 0,.ref (if b=1 then f-5 else f-3),.none,if b=1 then .ref (f-4)else .none,if b=1 then .ref (f-3)else .none,.ref (f-2),.int u 0,l,.str c (u+1)],#[]⟩),(f,⟨.type "function",none,.func (fnOf x x (Yk s) (Zf s) (Qa s) .none .none .none m none (.ref (f-1)) .none),#[]⟩)]
def K(P:Params):List (Nat×Obj):=(3,⟨.type "dict",none,.dict (ns P).toArray 85,#[]⟩)::tb.flatMap ob
noncomputable def as:List Nat:=3::tb.flatMap (λr=>[r.2.1-1,r.2.1])
theorem Qxo(P:Params):as=(K P).map (·.1):=by kernel_rfl
noncomputable abbrev rw_:=PySem.Challenge.rw_leastbook_k26_keys_and_pages.row
def vw:Program:=view p [82]
def ls:List Str:=(["BookError","NoStyle","TooWide","TooHigh","Twice","Loose","NoLabel","WIDTH","HEIGHT","ODD","LISTED","PAGE","LINE","USED","FOOT"]:List Str)++tb.dropLast.map λr=>QrO (top r.1)
def Xt(s:Shared):Bool:=xlAt vw [] s&&recOk (RowW.records rw_.toRowW) s
abbrev rn:=Hd.runs p 7260
def ha(w:World)(os:OsState):=(rn w os).map (Hd.chk p w)
def hb(w:World)(os:OsState):=(rn w os).map (openSeen vw ls (importedModules p.main.body) Xt true)
def hc(w:World)(os:OsState):=(rn w os).map λs=>as.map s.heap.get?
def wb:=some (openGood vw ls)
def wc(w:World):=some ((K w.params).map λp=>some p.2)
theorem ha_r:ha=ha:=rfl
theorem hb_r:hb=hb:=rfl
theorem hc_r:hc=hc:=rfl
theorem wb_r:wb=wb:=rfl
theorem wc_r:wc=wc:=rfl
end
section
variable{P:Params}{h:Heap}{mg:Str->Option Value}{x:Str}{st:Stmt}{ps:List Str}{y:Str}{fa:Addr}
abbrev fx(P:Params)(x:Str)(f:Nat):=(nsIn (K P) mainGlobals x,List.lookup f (K P),codeIn (K P) (.ref (f-1)) x,keepIn (K P) (.ref f))
abbrev fw(x:Str)(st:Stmt)(f:Nat)(m:Value):Option (Option Value)×Option Obj×Bool×Bool:=(some (some (.ref f)),some ⟨.type "function",none,.func (fnOf x x (Yk st) (Zf st) (Qa st) .none .none .none m none (.ref (f-1)) .none),#[]⟩,true,true)
theorem dk(f:Nat)(m:Value)(X:Frag.In (K P) h)(G:h.Ns mainGlobals mg)(hb:∀(kV doc pm:Value)(an:Option Addr)(ax ct:Value)(us:List Value),us.length=ps.length->bindArgs (fnOf x x (Yk st) (Zf st) (Qa st) .none kV doc pm an ax ct) ⟨us,[]⟩=pure (ps.zip us):=by intro _ _ _ _ _ _ us hl;rcases us with _|⟨_,_|⟨_,_|⟨_,_|⟨_,_|⟨_,_|⟨_,_⟩⟩⟩⟩⟩⟩<;>first|(exfalso;simp at hl;done)|rfl)(e:fx P x f=fw x st f m:=by kernel_rfl):Wd.Df (K P) mg x st ps:=by
 obtain⟨a,l,c,k⟩:_/\_/\_/\_:=by simpa only[Prod.mk.injEq]using e
 exact Wd.df_mk X G hb a l c k
theorem gk{i:Int}(t:Nat)(X:Frag.In (K P) h)(G:h.Ns mainGlobals mg)(a:nsIn (K P) mainGlobals x=some (some (.int i t)):=by kernel_rfl):∃t,mg x=some (.int i t):=Wd.gint_mk X G a ⟨_,rfl⟩
variable(X:Frag.In (K P) h)(G:h.Ns mainGlobals mg)
include X G
theorem Qrp:Wd.Df (K P) mg "figures" Qfr VJ:=dk 141 m0 X G
theorem QwF:Wd.Df (K P) mg "bare" QkL Qcm:=dk 148 m0 X G
theorem Qmw:Wd.Df (K P) mg "has_height" QcP Yh:=dk 155 m0 X G
theorem Qnp:Wd.Df (K P) mg "has_width" Qdo YG:=dk 162 m0 X G
theorem Qrl:Wd.Df (K P) mg "word_at" Qfp VI:=dk 169 m0 X G
theorem Qpp:Wd.Df (K P) mg "put_word" Qeq QaJ:=dk 176 m0 X G
theorem Qpu:Wd.Df (K P) mg "end_line" Qev Y9:=dk 183 m0 X G
theorem Qnm:Wd.Df (K P) mg "put_block" Qdm V6:=dk 190 m0 X G
theorem Qpq:Wd.Df (K P) mg "new_page" Qer Y5:=dk 197 m0 X G
theorem Qkj:Wd.Df (K P) mg "new_chapter" QbQ Vi:=dk 204 m0 X G
theorem Qmu:Wd.Df (K P) mg "put_plates" QcN VL:=dk 211 m0 X G
theorem Qpt:Wd.Df (K P) mg "is_style" Qeu Y8:=dk 218 m1 X G
theorem Qno:Wd.Df (K P) mg "is_titled" Qdn YF:=dk 225 m1 X G
theorem Qs1:Wd.Df (K P) mg "is_set" QgM Qam:=dk 232 m1 X G
theorem Qpr:Wd.Df (K P) mg "label_of" Qes Y6:=dk 239 m1 X G
theorem Qps:Wd.Df (K P) mg "items_of" Qet Y7:=dk 246 m1 X G
theorem QwC:Wd.Df (K P) mg "refs" Qhu Qfc:=dk 251 m1 X G
theorem Qnn:Wd.Df (K P) mg "pages_for" Qby Z9:=dk 256 m1 X G
theorem Qip:Wd.Df (K P) mg "pages_at_most" Vx Zb:=dk 261 m1 X G
theorem Qje:Wd.Df (K P) mg "room_at_most" Qbf ZM:=dk 268 m1 X G
theorem Qmx:Wd.Df (K P) mg "any_longer" QaU ZT:=dk 273 m1 X G
theorem Qis:Wd.Df (K P) mg "is_wide_block" QaY Yx:=dk 280 m1 X G
theorem Qjh:Wd.Df (K P) mg "is_wide_item" Qbi ZO:=dk 287 m1 X G
theorem Qit:Wd.Df (K P) mg "is_high_block" QaZ Zz:=dk 294 m1 X G
theorem Qji:Wd.Df (K P) mg "is_high_item" Qbj ZP:=dk 301 m1 X G
theorem Qnq:Wd.Df (K P) mg "add_label" Qdp YH:=dk 308 m1 X G
theorem Qir:Wd.Df (K P) mg "look_at_block" QaX Zy:=dk 315 m1 X G
theorem Qjg:Wd.Df (K P) mg "look_at_item" Qbh ZN:=dk 322 m1 X G
theorem Qiq:Wd.Df (K P) mg "look_at_items" Vy Yw:=dk 327 m1 X G
theorem Qjf:Wd.Df (K P) mg "look_at_refs" Qbg YQ:=dk 334 m1 X G
theorem QwD:Wd.Df (K P) mg "look" QkJ Qfd:=dk 341 m1 X G
theorem Qjd:Wd.Df (K P) mg "set_contents" Qbe YO:=dk 348 m2 X G
theorem Qnk:Wd.Df (K P) mg "set_items" Qdk V5:=dk 355 m2 X G
theorem Qnl:Wd.Df (K P) mg "set_block" Qdl YE:=dk 362 m2 X G
theorem Qpo:Wd.Df (K P) mg "set_book" Qep QaI:=dk 369 m2 X G
theorem Qmv:Wd.Df (K P) mg "pages_with" QcO VM:=dk 376 m2 X G
theorem Qkk:Wd.Df (K P) mg "label_pages" QbR Vj:=dk 383 m2 X G
theorem QwE:Wd.Df (K P) mg "laid" QkK Qcl:=dk 390 m2 X G
theorem Qjj:Wd.Df (K P) mg "figures_told" VW YR:=dk 395 m3 X G
theorem Qrm:Wd.Df (K P) mg "settled" Qfq QbH:=dk 402 m3 X G
theorem QuV:Wd.Df (K P) mg "least" QiA Qa8:=dk 409 m3 X G
theorem Qnj:Wd.Df (K P) mg "set_least" Qdj YD:=dk 416 m3 X G
theorem Qpv:Wd.Df (K P) mg "add_page" Qew QaK:=dk 423 m4 X G
theorem QuW:Wd.Df (K P) mg "keyed" Qf3 QdK:=dk 428 m4 X G
theorem Qpy:Wd.Df (K P) mg "_law_cell_at" Qez Va:=dk 435 m5 X G
theorem Qs2:Wd.Df (K P) mg "_law_whole" QgN Qan:=dk 442 m5 X G
theorem QwG:Wd.Df (K P) mg "_law_mix" QkM Qfe:=dk 449 m5 X G
theorem Qs6:Wd.Df (K P) mg "_law_label" QgQ Qcz:=dk 456 m5 X G
theorem Qrq:Wd.Df (K P) mg "_law_plates" Qfs QbI:=dk 463 m5 X G
theorem Qs3:Wd.Df (K P) mg "_law_signs" QgO Qcw:=dk 470 m5 X G
theorem Qu0:Wd.Df (K P) mg "_law_atom" QdH QdO:=dk 475 m5 X G
theorem Qpw:Wd.Df (K P) mg "_law_pointed" Qex QaL:=dk 482 m5 X G
theorem Qpx:Wd.Df (K P) mg "_law_grouped" Qey QaM:=dk 489 m5 X G
theorem QuY:Wd.Df (K P) mg "_law_edge" Qf5 QdM:=dk 494 m5 X G
theorem Qs5:Wd.Df (K P) mg "_law_needs" YZ Qcy:=dk 499 m5 X G
theorem QuX:Wd.Df (K P) mg "_law_most" Qf4 QdL:=dk 504 m5 X G
theorem Qs7:Wd.Df (K P) mg "_law_drawn" Qcu QcA:=dk 509 m5 X G
theorem QuZ:Wd.Df (K P) mg "_law_copy" QiB QdN:=dk 516 m5 X G
theorem Qs4:Wd.Df (K P) mg "_law_pairs" QgP Qcx:=dk 523 m5 X G
theorem QwH:Wd.Df (K P) mg "_law_due" QkN Qff:=dk 530 m5 X G
theorem Qxj(hm:mg "law"=some (.ref fa)):∃fd,(∀(s:Shared)(u:Value),BindsTo s fd ⟨[u],[]⟩ [("_law_script",u)])/\L2.Fun (K P) "law" "law" Qhn fa fd:=by
 have e:fx P "law" 535=fw "law" Qhn 535 m5:=by kernel_rfl
 obtain⟨a,l,c,k⟩:_/\_/\_/\_:=by simpa only[Prod.mk.injEq]using e
 exact Wd.law_mk X G hm (λ_ _ _ _ _ _ u=>rfl) a l c k
theorem txt:Txt (K P) mg:=⟨gk 364 X G,gk 352 X G,gk 360 X G,gk 356 X G,gk 354 X G,gk 358 X G,gk 362 X G,gk 350 X G,mg_none_of X G (by kernel_rfl),mg_none_of X G (by kernel_rfl),mg_none_of X G (by kernel_rfl),mg_none_of X G (by kernel_rfl),mg_none_of X G (by kernel_rfl),mg_none_of X G (by kernel_rfl),mg_none_of X G (by kernel_rfl),mg_none_of X G (by kernel_rfl),mg_none_of X G (by kernel_rfl),mg_none_of X G (by kernel_rfl),mg_none_of X G (by kernel_rfl),mg_none_of X G (by kernel_rfl),mg_none_of X G (by kernel_rfl),mg_none_of X G (by kernel_rfl),trivial⟩
end
end Hd
open PySem PySem.W PyProof.Rows
name_quick haQ for Hd.ha by Hd.ha_r
name_quick hbQ for Hd.hb by Hd.hb_r
name_quick hcQ for Hd.hc by Hd.hc_r
name_quick wbQ for Hd.wb by Hd.wb_r
name_quick wcQ for Hd.wc by Hd.wc_r
namespace Hd
theorem oa(w:World)(os:OsState):Fast.haQ w os=some true:=by kernel_rfl
theorem oz(w:World)(os:OsState):Fast.hbQ w os=Fast.wbQ:=by kernel_rfl
theorem oc(w:World)(os:OsState):Fast.hcQ w os=Fast.wcQ w:=by kernel_rfl
theorem pa(w:World)(os:OsState):ha w os=some true:=by rw[Fast.haQ_eq];exact oa w os
theorem pb(w:World)(os:OsState):hb w os=wb:=by rw[Fast.hbQ_eq,Fast.wbQ_eq];exact oz w os
theorem pc(w:World)(os:OsState):hc w os=wc w:=by rw[Fast.hcQ_eq,Fast.wcQ_eq];exact oc w os
theorem hl:LeftO p vw ls Xt (λs=>as.map s.heap.get?) (λw=>(K w.params).map λp=>some p.2) 7260:=left (M:=7260) (by kernel_rfl) (λs=>by kernel_rfl) rfl rfl (λw=>by kernel_rfl) pa pb pc
end Hd
open Hd My
set_option maxRecDepth 100000 in set_option maxHeartbeats 0 in 
theorem PySem.Challenge.cw_leastbook_k26_keys_and_pages_holds : PySem.Challenge.rw_leastbook_k26_keys_and_pages.Holds := by
  w_on;o_law;refine holds_open (q:=vw) (loose:=ls) (Xt:=Hd.Xt) (XP:=XL vw []) (YP:=InK K) hl (InK.of Qxo) InK.keeps (λs e=>xl_of s (Bool.and_eq_true_iff.mp e).1) XL.keeps rfl rfl rfl (λs e=>recFacts_of (Bool.and_eq_true_iff.mp e).2) rfl ‹_› (by decide+kernel) ⟨rfl,rfl,rfl,rfl,rfl,by decide+kernel⟩ ?hw ?hc;case hw=>w_witness2
  refine My.walk (l:=PySem.Challenge.rw_leastbook_k26_keys_and_pages) rfl rfl (λw h Y=>Y) ?F;intro w mg fa h X G fG;have T:=txt X G;obtain⟨fd,hb,F⟩:=Qxj X G fG;refine⟨fd,hb,λb kb nb=>?_⟩;have aQ:=Qpc (P:=p) (w:=w) (ab:=b) (Qrp X G) T;have aD:=Qua (P:=p) (w:=w) (ab:=b) (QwF X G) T;have av:=Qkf (P:=p) (w:=w) (ab:=b) (Qmw X G) T;have bw:=Qml (P:=p) (w:=w) (ab:=b) (Qnp X G) T;have bf:=Qpa (P:=p) (w:=w) (ab:=b) (Qrl X G) T;have bj:=QmX (P:=p) (w:=w) (ab:=b) (Qpp X G) T av bw bf;have aJ:=Qm2 (P:=p) (w:=w) (ab:=b) (Qpu X G) T;have ar:=Qmi (P:=p) (w:=w) (ab:=b) (Qnm X G) T aD aJ av;have aI:=QmY (P:=p) (w:=w) (ab:=b) (Qpq X G) T aD;have aw:=Qjb (P:=p) (w:=w) (ab:=b) (Qkj X G) T aD aI;have bo:=Qkd (P:=p) (w:=w) (ab:=b) (Qmu X G) T aD aI;have bB:=Qm1 (P:=p) (w:=w) (ab:=b) (Qpt X G) T;have ao:=Qmk (P:=p) (w:=w) (ab:=b) (Qno X G) T;have aq:=QqP (P:=p) (w:=w) (ab:=b) (Qs1 X G) T;have aA:=QmZ (P:=p) (w:=w) (ab:=b) (Qpr X G) T;have aj:=Qm0 (P:=p) (w:=w) (ab:=b) (Qps X G) T;have aK:=Qt7 (P:=p) (w:=w) (ab:=b) (QwC X G) T aj;have bu:=Qmj (P:=p) (w:=w) (ab:=b) (Qnn X G) T aq ao aj;have aL:=Qhi (P:=p) (w:=w) (ab:=b) (Qip X G) T bu;have aS:=Qih (P:=p) (w:=w) (ab:=b) (Qje X G) T aQ aL;have aC:=Qkg (P:=p) (w:=w) (ab:=b) (Qmx X G) T;have aO:=Qhl (P:=p) (w:=w) (ab:=b) (Qis X G) T aC ao;have aW:=Qik (P:=p) (w:=w) (ab:=b) (Qjh X G) T aC;have aP:=Qhm (P:=p) (w:=w) (ab:=b) (Qit X G) T;have aX:=Qil (P:=p) (w:=w) (ab:=b) (Qji X G) T;have aF:=Qmm (P:=p) (w:=w) (ab:=b) (Qnq X G) T;have aN:=Qhk (P:=p) (w:=w) (ab:=b) (Qir X G) T aF aP aO aA;have aV:=Qij (P:=p) (w:=w) (ab:=b) (Qjg X G) T aF aX aW;have aM:=Qhj (P:=p) (w:=w) (ab:=b) (Qiq X G) T aq aV;have aU:=Qii (P:=p) (w:=w) (ab:=b) (Qjf X G) T aK;have bL:=Qt8 (P:=p) (w:=w) (ab:=b) (QwD X G) T bB aj aN aM aU aS;have aR:=Qig (P:=p) (w:=w) (ab:=b) (Qjd X G) T aD ao aw ar;have br:=Qmg (P:=p) (w:=w) (ab:=b) (Qnk X G) T aJ aq bj;have bt:=Qmh (P:=p) (w:=w) (ab:=b) (Qnl X G) T aw ar bo;have au:=QmW (P:=p) (w:=w) (ab:=b) (Qpo X G) T aK bt aR br;have aB:=Qke (P:=p) (w:=w) (ab:=b) (Qmv X G) T aq;have bc:=Qjc (P:=p) (w:=w) (ab:=b) (Qkk X G) T aj aA aB;have cy:=Qt9 (P:=p) (w:=w) (ab:=b) (QwE X G) T bL au;have aG:=Qim (P:=p) (w:=w) (ab:=b) (Qjj X G) T aQ bc aK au;have bM:=Qpb (P:=p) (w:=w) (ab:=b) (Qrm X G) T aG;have bx:=Qso (P:=p) (w:=w) (ab:=b) (QuV X G) T bL aK bM;have bq:=Qmf (P:=p) (w:=w) (ab:=b) (Qnj X G) T bx au;have bC:=Qm3 (P:=p) (w:=w) (ab:=b) (Qpv X G) T;have cb:=Qsp (P:=p) (w:=w) (ab:=b) (QuW X G) T bC aj aB bq;have ak:=Qm6 (P:=p) (w:=w) (ab:=b) (Qpy X G) T;have bR:=QqQ (P:=p) (w:=w) (ab:=b) (Qs2 X G) T;have aE:=Qub (P:=p) (w:=w) (ab:=b) (QwG X G) T;have bU:=QqU (P:=p) (w:=w) (ab:=b) (Qs6 X G) T;have bN:=Qpd (P:=p) (w:=w) (ab:=b) (Qrq X G) T;have bp:=QqR (P:=p) (w:=w) (ab:=b) (Qs3 X G) T;have cj:=Qst (P:=p) (w:=w) (ab:=b) (Qu0 X G) T bU aE bN bp;have bD:=Qm4 (P:=p) (w:=w) (ab:=b) (Qpw X G) T aE;have bE:=Qm5 (P:=p) (w:=w) (ab:=b) (Qpx X G) T;have bP:=Qsr (P:=p) (w:=w) (ab:=b) (QuY X G) T ak aE;have bT:=QqT (P:=p) (w:=w) (ab:=b) (Qs5 X G) T;have cc:=Qsq (P:=p) (w:=w) (ab:=b) (QuX X G) T;have bV:=QqV (P:=p) (w:=w) (ab:=b) (Qs7 X G) T cj ak bP bE aE cc bT bD;have cg:=Qss (P:=p) (w:=w) (ab:=b) (QuZ X G) T;have bS:=QqS (P:=p) (w:=w) (ab:=b) (Qs4 X G) T;have cz:=Quc (P:=p) (w:=w) (ab:=b) (QwH X G) T;exact Qv4 F T cg bV cz bS bR cb cy bx
#print axioms PySem.Challenge.cw_leastbook_k26_keys_and_pages_holds
