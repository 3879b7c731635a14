import PyProof.Rows.All
import Wide.All
import OpenK.AllK
import Wide.FinOn
import Lean
import PyProof.EqAt
import PyProof.EqKinds
import PyProof.TupleCall
import PyProof.NeKinds
import PyProof.ZipIter
import KE.KDictList
import KE.KItemsList
import KE.KSortTup
import KE.KDictLaws
import PySem.Challenge.RW_leastbook_k24_rows_of_contents
set_option maxHeartbeats 4000000
set_option Elab.async false
set_option linter.all false
set_option maxRecDepth 100000
abbrev Qe:=@List.length_append
abbrev Qf:=@List.getElem?_eq_getElem
abbrev q_2:=@List.mem_singleton
abbrev Qo:=@List.length_map
abbrev Qz:=@Nat.le_refl
abbrev q_5:=@List.mem_cons
abbrev JO:=@List.mem_cons_of_mem
abbrev q_7:=@List.mem_append
abbrev JU:=@decide_eq_false
abbrev JV:=@List.length_cons
abbrev Ja:=@List.mem_cons_self
abbrev Ji:=@Int.le_refl
abbrev Jp:=@List.size_toArray
abbrev Z6:=@decide_eq_true
abbrev ZT:=@List.map_cons
abbrev ZU:=@Option.bind_some
abbrev Zf:=@Int.le_trans
abbrev Zk:=@Nat.le_trans
abbrev q_18:=@List.getElem?_eq_some_iff
abbrev q_19:=@List.mem_map
abbrev Y1:=@List.flatMap_cons
abbrev Y9:=@Nat.ne_of_lt
abbrev YA:=@List.foldl_cons
abbrev YB:=@List.getElem_mem
abbrev YO:=@List.getElem?_append_left
abbrev YQ:=@List.map_append
abbrev YR:=@Int.lt_succ
abbrev YZ:=@List.mem_append_right
abbrev Yb:=@List.getD_eq_getElem?_getD
abbrev Yc:=@List.flatMap_append
abbrev Yx:=@List.append_nil
abbrev Yy:=@List.length_take
abbrev Yz:=@List.getElem?_map
abbrev VL:=@List.mem_of_getElem?
abbrev VU:=@Nat.lt_or_ge
abbrev VV:=@List.take_length
abbrev Vh:=@Nat.lt_of_lt_of_le
abbrev Vi:=@List.mem_append_left
abbrev Vx:=@List.getElem?_append_right
abbrev Vy:=@List.append_assoc
abbrev WR:=@Bool.false_ne_true
abbrev WS:=@List.length_set
abbrev WT:=@List.length_nil
abbrev WU:=@List.getElem?_cons_succ
abbrev WV:=@Option.map_some
abbrev WX:=@List.not_mem_nil
abbrev q_46:=@List.nodup_cons
abbrev q_47:=@List.mem_filter
abbrev X3:=@List.lookup_cons
abbrev X4:=@List.getElem?_cons_zero
abbrev X5:=@Option.join_some
abbrev XJ:=@List.getElem?_eq_none
abbrev XM:=@Int.emod_nonneg
abbrev Xn:=@List.of_mem_zip
abbrev Xo:=@Bool.and_eq_true
abbrev Xp:=@List.length_zip
abbrev Xq:=@Int.emod_lt_of_pos
abbrev Xr:=@Int.add_le_add_right
abbrev US:=@List.length_drop
abbrev UT:=@List.replicate_succ
abbrev q_60:=@List.nodup_append
abbrev UU:=@Int.lt_trans
abbrev UW:=@Int.add_lt_add_right
abbrev Ux:=@List.getElem?_set_ne
abbrev Uy:=@List.zip_cons_cons
abbrev Uz:=@List.getElem?_set
abbrev T1:=@List.take_succ_eq_append_getElem
abbrev Tq:=@List.flatten_cons
abbrev Tr:=@List.length_singleton
abbrev Ts:=@List.getElem_of_mem
abbrev Tt:=@List.foldl_append
abbrev Tu:=@Int.lt_or_eq_of_le
abbrev Sq:=@List.getElem?_replicate
abbrev Sr:=@List.length_filter_le
abbrev Su:=@Int.le_of_eq
abbrev Sv:=@Int.le_of_lt
abbrev Py:=@Array.length_toList
abbrev Pz:=@List.length_replicate
abbrev q_78:=@Option.map_eq_some_iff
abbrev O0:=@List.drop_eq_getElem_cons
abbrev O3:=@List.drop_eq_nil_of_le
abbrev O4:=@List.take_append_drop
abbrev O5:=@Nat.length_toDigits_le_iff
abbrev MI:=@List.getElem?_concat_length
abbrev Ir:=@Array.getElem?_eq_getElem
open List(filterMap_cons take_sublist map_nil all_cons any_cons nil_append find?_cons drop_zero length_range map_drop getElem_zip map_map filter_cons sum_cons take_zero)
open Nat(lt_irrefl le_of_lt ne_of_gt le_of_eq lt_trans zero_le min_self le_succ zero_add lt_succ_of_lt le_add_right sub_self sub_zero lt_of_le_of_lt)
open Int(le_antisymm add_zero add_le_add)
open Option(getD_none isSome_map)
noncomputable section
namespace L2
open PySem PySem.Spec PyProof.Rows
abbrev JA:=Sum Int Str
noncomputable def Td:JA->Value->Bool|.inl k,v=>Value.isInt k v|.inr x,v=>Value.isStrOf x v
noncomputable def QdX(w:World):JA->Int|.inl k=>hashInt k|.inr x=>hashStr w x
def Xj:∀{k:JA}{v:Value},Td k v=true->(∃i t,k=Sum.inl i/\v=Value.int i t)\/∃x t,k=Sum.inr x/\v=Value.str x t|.inl i,v,h=>by obtain⟨t,e⟩:=Value.isInt_shape (k:=i) (v:=v) h;exact .inl ⟨i,t,rfl,e⟩|.inr x,v,h=>by obtain⟨t,e⟩:=Value.isStrOf_shape (x:=x) (v:=v) h;exact .inr ⟨x,t,rfl,e⟩
def QdY(i:Int)(t:Tok):Td (.inl i) (.int i t)=true:=by simp[Td,Value.isInt]
def QdZ(x:Str)(t:Tok):Td (.inr x) (.str x t)=true:=by simp[Td,Value.isStrOf]
def Qd0(a b:Int):decide ((Sum.inl a:JA)=Sum.inl b)=(a==b):=by
 by_cases e:a=b;·subst e;simp
 ·have h:¬(Sum.inl a:JA)=Sum.inl b:=λq=>e (Sum.inl.inj q);rw[JU h];exact(beq_eq_false_iff_ne.mpr e).symm
def Qd3(a b:Str):decide ((Sum.inr a:JA)=Sum.inr b)=decide (a=b):=by
 by_cases e:a=b;·subst e;simp
 ·have h:¬(Sum.inr a:JA)=Sum.inr b:=λq=>e (Sum.inr.inj q);rw[JU h,JU e]
def Qd1(a:Int)(b:Str):decide ((Sum.inl a:JA)=Sum.inr b)=false:=JU λq=>nomatch q
def Qd2(a:Str)(b:Int):decide ((Sum.inr a:JA)=Sum.inl b)=false:=JU λq=>nomatch q
def Yt(prog:Program)(w:World):PySem.KeyKind prog w JA where
 is:=Td
 hash:=QdX w
 inj:=λv a b ha hb=>by
  rcases Xj ha with⟨i,t,rfl,rfl⟩|⟨x,t,rfl,rfl⟩
  ·rcases Xj hb with⟨j,u,rfl,e⟩|⟨y,u,rfl,e⟩;·injection e with e1 _;rw[e1]
   ·exact nomatch e
  ·rcases Xj hb with⟨j,u,rfl,e⟩|⟨y,u,rfl,e⟩;·exact nomatch e
   ·injection e with e1 _;rw[e1]
 byValue:=λk v h=>by rcases Xj h with⟨i,t,rfl,rfl⟩|⟨x,t,rfl,rfl⟩<;>rfl
 pyHash:=λhv h=>by
  rcases Xj hv with⟨i,t,rfl,rfl⟩|⟨x,t,rfl,rfl⟩;·exact wpAny_pyHash_int h
  ·exact wpAny_pyHash_str h
 eqBool:=λhu hv h=>by
  rcases Xj hu with⟨i,t,rfl,rfl⟩|⟨x,t,rfl,rfl⟩
  ·rcases Xj hv with⟨j,u,rfl,rfl⟩|⟨y,u,rfl,rfl⟩;·rw[Qd0]at h;exact wpAny_eqBool_int h
   ·rw[Qd1]at h;exact SeqAt.EqAt.int_str i t y u _ _ _ _ h
  ·rcases Xj hv with⟨j,u,rfl,rfl⟩|⟨y,u,rfl,rfl⟩;·rw[Qd2]at h;exact SeqAt.EqAt.str_int x t j u _ _ _ _ h
   ·rw[Qd3]at h;exact wpAny_eqBool_str h
 «strs»:=λk x t v h=>by
  rcases Xj h with⟨i,u,rfl,e⟩|⟨y,u,rfl,e⟩;·exact nomatch e
  ·injection e with e1 _;subst e1;cases v<;>rfl
def QeH(prog:Program)(w:World)(i:Int)(t:Tok):(Yt prog w).is (.inl i) (.int i t)=true:=QdY i t
def QeI(prog:Program)(w:World)(x:Str)(t:Tok):(Yt prog w).is (.inr x) (.str x t)=true:=QdZ x t
inductive V where|non|bl(b:Bool)|int(i:Int)|str(x:Str)|byt(b:Array UInt8)|flt(b:UInt64)|ref(a:Addr)|ty(n:String)deriving DecidableEq
noncomputable def RelV:V->Value->Prop|.non,u=>u=Value.none|.bl b,u=>u=Value.bool b|.int i,u=>∃t,u=Value.int i t|.str x,u=>∃t,u=Value.str x t|.byt b,u=>∃t,u=Value.bytes b t|.flt b,u=>∃t,u=Value.float b t|.ref a,u=>u=Value.ref a|.ty n,u=>u=Value.type n
abbrev Vals:List V->List Value->Prop:=Paired RelV
theorem Vals.length{xs:List V}{us:List Value}(r:Vals xs us):xs.length=us.length:=Paired.length r
theorem Vals.get:∀{xs:List V}{us:List Value}{i:Nat}{x:V},Vals xs us->xs[i]?=some x->∃u,us[i]?=some u/\RelV x u|_,_,_,_,.nil,e=>by simp at e|_,_,0,_,.cons r _,e=>by simp at e;subst e;exact⟨_,rfl,r⟩|_,_,i+1,x,.cons _ t,e=>by obtain⟨u,h1,h2⟩:=Vals.get (i:=i) (x:=x) t (by simpa using e);exact⟨u,by simpa using h1,h2⟩
theorem Vals.set{x:V}{u:Value}(r:RelV x u):∀{xs:List V}{us:List Value}(i:Nat),Vals xs us->Vals (xs.set i x) (us.set i u)|_,_,_,.nil=>.nil|_,_,0,.cons _ t=>.cons r t|_,_,i+1,.cons q t=>.cons q (Vals.set r i t)
theorem Vals.append:∀{xs ys:List V}{us ws:List Value},Vals xs us->Vals ys ws->Vals (xs++ys) (us++ws)|_,_,_,_,.nil,s=>s|_,_,_,_,.cons r t,s=>.cons r (Vals.append t s)
theorem Vals.take:∀{xs:List V}{us:List Value}(n:Nat),Vals xs us->Vals (xs.take n) (us.take n)|_,_,0,_=>.nil|_,_,_+1,.nil=>.nil|_,_,n+1,.cons r t=>.cons r (Vals.take n t)
theorem Vals.drop:∀{xs:List V}{us:List Value}(n:Nat),Vals xs us->Vals (xs.drop n) (us.drop n)|_,_,0,r=>r|_,_,_+1,.nil=>.nil|_,_,n+1,.cons _ t=>Vals.drop n t
def RelO:Option V->Option Value->Prop|some v,some u=>RelV v u|none,none=>True|_,_=>False
def KV{κ:Type}:List (κ×V)->List (κ×Value)->Prop:=Paired λ(p:κ×V)(q:κ×Value)=>p.1=q.1/\RelV p.2 q.2
noncomputable def kV:JA->V|.inl i=>.int i|.inr x=>.str x
inductive HO where|lst(xs:List V)|tup(xs:List V)|dK(ah:List (JA×V))|dT(ah:List (List JA×V))|set(S:Int->Bool)(n:Nat)|ins(C dx:Addr)(fs:List (Str×V))|own(x:Addr)|xd(fs:List (Str×V))|met(f x:Addr)|rng(lo hi:Int)|frz(o:Obj)(u:HO)|tbl(ps:Array Value)|ext(φ:Heap->Prop)
abbrev Hp:=Addr->Option HO
noncomputable def upd(H:Hp)(a:Addr)(o:HO):Hp:=λb=>if b=a then some o else H b
def Jz{H:Hp}{a:Addr}{o:HO}:upd H a o a=some o:=by unfold upd;rw[if_pos rfl]
def Qi{H:Hp}{a b:Addr}{o:HO}(h:b≠a):upd H a o b=H b:=by unfold upd;rw[if_neg h]
def QeU{H:Hp}{a b:Addr}{o u:HO}(h:H a=some o)(h':H b=some u)(d:o≠u):a≠b:=by intro e;subst e;rw[h]at h';exact d (Option.some.inj h')
def Wj{H:Hp}{a b:Addr}{o:HO}(h:H a=some o)(h':H b=none):a≠b:=by intro e;subst e;rw[h]at h';cases h'
section
variable(P:Program)(w:World)
def ObjOk(H:Hp)(h:Heap)(a:Addr):HO->Prop|.lst xs=>xs.length<=sizeLine/\∃(its:List Value)(n:Nat),Vals xs its/\h.get? a=some {cls:=.type "list",data:=.seq its.toArray n}|.tup xs=>xs.length<=sizeLine/\∃its:List Value,Vals xs its/\IsTup h a its.toArray|.dK ah=>ah.length<=sizeLine/\(a==sysModules)=false/\∃vs,KV ah vs/\h.DictOf (Yt P w) a vs|.dT ah=>ah.length<=sizeLine/\(a==sysModules)=false/\∃xs:List (List JA×Addr×Value),Paired (λ(p:List JA×V)(q:List JA×Addr×Value)=>p.1=q.1/\H q.2.1=some (.tup (p.1.map kV))/\RelV p.2 q.2.2) ah xs/\∃o es ep,h.get? a=some o/\o.ExactDict/\o.data=.dict es ep/\es.toList=xs.map (entryOfKey (tupleKind (Yt P w)))/\(xs.map (·.1)).Nodup|.set S n=>h.SetOf (intKind P w) a S n|.ins C dx fs=>H dx=some (.own a)/\fs.length<=1000/\dx≠a/\h.get? a=some (W.instObj C dx)/\∃mA,h.Ns1 dx mA/\(∀f,RelO (fs.lookup f) (mA f))/\PySem.Within mA (fs.map (·.1))|.own _=>∃o,h.get? a=some o|.xd fs=>∃mA,h.Ns1 a mA/\∀f,RelO (fs.lookup f) (mA f)|.rng lo hi=>∃t u v,h.get? a=some {cls:=.type "range",data:=.fields #[.int lo t,.int hi u,.int 1 v]}|.frz o u=>h.get? a=some o/\ObjOk H h a u|.tbl ps=>h.get? a=some {cls:=.none,data:=.fields ps}|.met f x=>h.get? a=some (W.methodObj (.ref f) (.ref x))|.ext φ=>φ h/\(∃o,h.get? a=some o)/\∀h1 h2:Heap,φ h1->(∀o,h1.get? a=some o->h2.get? a=some o)->φ h2
def HOk(H:Hp)(h:Heap):Prop:=∀a o,H a=some o->ObjOk P w H h a o
end
section
variable{P:Program}{w:World}{H H':Hp}{h h':Heap}{a:Addr}{o:HO}
theorem ObjOk.lt(x:ObjOk P w H h a o):a<h.objs.size:=by cases o with|lst xs=>obtain⟨_,_,_,_,e⟩:=x;exact Heap.lt_size e|tup xs=>obtain⟨_,_,_,p⟩:=x;exact p.lt|dK ah=>obtain⟨_,_,_,_,o,_,_,e,_⟩:=x;exact Heap.lt_size e|dT ah=>obtain⟨_,_,_,_,o,_,_,e,_⟩:=x;exact Heap.lt_size e|set S n=>obtain⟨o,_,_,_,e,_⟩:=x;exact Heap.lt_size e|ins C dx fs=>obtain⟨_,_,_,e,_⟩:=x;exact Heap.lt_size e|own y=>obtain⟨_,e⟩:=x;exact Heap.lt_size e|xd fs=>obtain⟨_,⟨_,_,_,e,_⟩,_⟩:=x;exact Heap.lt_size e|rng lo hi=>obtain⟨_,_,_,e⟩:=x;exact Heap.lt_size e|frz ob u=>obtain⟨e,_⟩:=x;exact Heap.lt_size e|tbl ps=>exact Heap.lt_size (show h.get? a=some _ from x)|met f y=>exact Heap.lt_size (show h.get? a=some _ from x)|ext φ=>obtain⟨_,⟨_,e⟩,_⟩:=x;exact Heap.lt_size e
theorem Paired.mapP{α β:Type}{F G:α->β->Prop}:∀{l₁:List α}{l₂:List β},Paired F l₁ l₂->(∀a b,F a b->G a b)->Paired G l₁ l₂|_,_,.nil,_=>.nil|_,_,.cons r t,f=>.cons (f _ _ r) (Paired.mapP t f)
def ObjOk.stay(x:ObjOk P w H h a o)(k:∀b u,(b=a\/H b=some (.own a))->h.get? b=some u->h'.get? b=some u)(ho:∀b,H b=some (.own a)->H' b=some (.own a))(ht:∀b xs,H b=some (.tup xs)->H' b=some (.tup xs)):ObjOk P w H' h' a o:=by induction o with|lst xs=>obtain⟨z,its,n,r,e⟩:=x;exact⟨z,its,n,r,k _ _ (.inl rfl) e⟩|tup xs=>obtain⟨z,its,r,ob,e,c⟩:=x;exact⟨z,its,r,ob,k _ _ (.inl rfl) e,c⟩|dK ah=>obtain⟨z,y,vs,r,ob,es,ep,e,c⟩:=x;exact⟨z,y,vs,r,ob,es,ep,k _ _ (.inl rfl) e,c⟩|dT ah=>obtain⟨z,y,xs,r,ob,es,ep,e,c⟩:=x;exact⟨z,y,xs,Paired.mapP r λp q z=>⟨z.1,ht _ _ z.2.1,z.2.2⟩,ob,es,ep,k _ _ (.inl rfl) e,c⟩|set S n=>obtain⟨ob,es,ep,t,e,c⟩:=x;exact⟨ob,es,ep,t,k _ _ (.inl rfl) e,c⟩|ins C dx fs=>obtain⟨d,z,ne,e,mA,⟨od,es,ep,e2,c⟩,r⟩:=x;exact⟨ho _ d,z,ne,k _ _ (.inl rfl) e,mA,⟨od,es,ep,k _ _ (.inr d) e2,c⟩,r⟩|own y=>obtain⟨ob,e⟩:=x;exact⟨ob,k _ _ (.inl rfl) e⟩|xd fs=>obtain⟨mA,⟨od,es,ep,e,c⟩,r⟩:=x;exact⟨mA,⟨od,es,ep,k _ _ (.inl rfl) e,c⟩,r⟩|rng lo hi=>obtain⟨t,u,v,e⟩:=x;exact⟨t,u,v,k _ _ (.inl rfl) e⟩|frz ob u ih=>obtain⟨e,q⟩:=x;exact⟨k _ _ (.inl rfl) e,ih q⟩|tbl ps=>have e:h.get? a=some {cls:=.none,data:=.fields ps}:=x;show h'.get? a=some {cls:=.none,data:=.fields ps};exact k a _ (.inl rfl) e|met f y=>have e:h.get? a=some (W.methodObj (.ref f) (.ref y)):=x;show h'.get? a=some (W.methodObj (.ref f) (.ref y));exact k a _ (.inl rfl) e|ext φ=>obtain⟨p,⟨o,e⟩,st⟩:=x;exact⟨st _ _ p λo q=>k _ _ (.inl rfl) q,⟨o,k _ _ (.inl rfl) e⟩,st⟩
theorem HOk.lt(x:HOk P w H h)(e:H a=some o):a<h.objs.size:=(x a o e).lt
def HOk.fresh(x:HOk P w H h)(e:h.objs.size<=a):H a=none:=by cases q:H a with|none=>rfl|some u=>exact absurd (Vh (x.lt q) e) (lt_irrefl _)
def HOk.kept(x:HOk P w H h)(k:∀b u,h.get? b=some u->h'.get? b=some u):HOk P w H h':=λa o e=>(x a o e).stay (λb u _ q=>k b u q) (λ_ q=>q) λ_ _ q=>q
def HOk.laid(x:HOk P w H h)(k:∀b u,h.get? b=some u->h'.get? b=some u)(hp:h.objs.size<=a)(new:ObjOk P w (upd H a o) h' a o):HOk P w (upd H a o) h':=λb u e=>by
 have hn:=x.fresh hp;by_cases hb:b=a;·subst hb;rw[Jz]at e;cases e;exact new
 ·rw[Qi hb]at e;exact(x b u e).stay (λc v _ q=>k c v q) (λc q=>by rw[Qi (Wj q hn)];exact q) λc xs q=>by rw[Qi (Wj q hn)];exact q
end
def Rd(H:Hp)(a:Addr)(u:HO):Prop:=H a=some u\/∃o,H a=some (.frz o u)
def Rd.of{H:Hp}{a:Addr}{u:HO}(h:H a=some u):Rd H a u:=.inl h
def Rd.ok{P:Program}{w:World}{H:Hp}{h:Heap}{a:Addr}{u:HO}(r:Rd H a u)(x:HOk P w H h):ObjOk P w H h a u:=by
 rcases r with r|⟨o,r⟩;·exact x a u r
 ·obtain⟨_,q⟩:=x a _ r;exact q
noncomputable def RF:Option HO->Prop|some (.lst _)=>True|some (.dK _)=>True|some (.dT _)=>True|some (.set _ _)=>True|some (.ins _ _ _)=>True|some (.ext _)=>True|_=>False
section
variable{P:Program}{w:World}{H:Hp}{h h':Heap}{x e:Addr}{o':HO}
def HOk.write(ok:HOk P w H h)(mu:RF (H x))(he:e=x\/H e=some (.own x))(k:∀b u,b≠e->h.get? b=some u->h'.get? b=some u)(eQ:∃u,h'.get? e=some u)(new:ObjOk P w (upd H x o') h' x o'):HOk P w (upd H x o') h':=λb u q=>by
 have fO:∀c y,H c=some (.own y)->c≠x:=λc y r z=>by subst z;rw[r]at mu;exact mu
 have iQ:∀c xs,H c=some (.tup xs)->c≠x:=λc xs r z=>by subst z;rw[r]at mu;exact mu
 by_cases hb:b=x;·subst hb;rw[Jz]at q;cases q;exact new
 ·rw[Qi hb]at q;by_cases dZ:b=e
  ·have q':H b=some (.own x):=by
    rcases he with z|z;·exact absurd (dZ.trans z) hb
    ·rw[dZ];exact z
   rw[q]at q';cases q';obtain⟨v,hv⟩:=eQ;exact⟨v,by rw[dZ];exact hv⟩
  ·refine(ok b u q).stay (λc v hc r=>k c v ?_ r) (λc r=>by rw[Qi (fO c b r)];exact r) λc xs r=>by rw[Qi (iQ c xs r)];exact r
   rcases hc with rfl|hc;·exact dZ
   ·rintro rfl;rcases he with z|z;·exact fO c b hc z
    ·rw[hc]at z;cases z;exact hb rfl
end
structure Un(fs ex:List Addr)(H H':Hp)(h h':Heap):Prop where
 keep:∀b o,h.get? b=some o->H b=none->b∉fs->b∉ex->h'.get? b=some o
 slot:∀b o,h.get? b=some o->H b=none->b∈fs->b∉ex->∃sl,h'.get? b=some {o with slots:=sl}free:∀b o,h.get? b=some o->H b=none->b∉ex->H' b=none
 there:∀b o,h.get? b=some o->b∉ex->∃o',h'.get? b=some o'
 tups:∀b xs,H b=some (.tup xs)->H' b=some (.tup xs)frzs:∀b o u,H b=some (.frz o u)->H' b=some (.frz o u)tbls:∀b ps,H b=some (.tbl ps)->∃more,H' b=some (.tbl (ps++more))
section
variable{fs iA ex jP:List Addr}{H H1 H2:Hp}{h h1 h2 h':Heap}{a x e:Addr}{o:HO}
def Un.any(u:Un fs ex H H1 h h1){b:Addr}{ob:Obj}(q:h.get? b=some ob)(n:H b=none)(hx:b∉ex):∃sl,h1.get? b=some {ob with slots:=sl}:=by
 by_cases hb:b∈fs;·exact u.slot b ob q n hb hx
 ·exact⟨ob.slots,u.keep b ob q n hb hx⟩
def Un.kept(k:∀b u,h.get? b=some u->h'.get? b=some u):Un fs ex H H h h':=⟨λb ob q _ _ _=>k b ob q,λb ob q _ _ _=>⟨ob.slots,k b ob q⟩,λ_ _ _ n _=>n,λb ob q _=>⟨ob,k b ob q⟩,λ_ _ q=>q,λ_ _ _ q=>q,λ_ ps q=>⟨#[],by rw[q];simp⟩⟩
def Un.refl:Un fs ex H H h h:=Un.kept λ_ _ q=>q
def Un.laid(k:∀b u,h.get? b=some u->h'.get? b=some u)(hp:h.objs.size<=a)(hn:H a=none):Un fs ex H (upd H a o) h h' where
 keep:=λb u q _ _ _=>k b u q
 slot:=λb u q _ _ _=>⟨u.slots,k b u q⟩
 free:=λb u q n _=>by rw[Qi (Y9 (Vh (Heap.lt_size q) hp))];exact n
 there:=λb u q _=>⟨u,k b u q⟩
 tups:=λb xs q=>by rw[Qi (Wj q hn)];exact q
 frzs:=λb u xs q=>by rw[Qi (Wj q hn)];exact q
 tbls:=λb ps q=>⟨#[],by rw[Qi (Wj q hn),q];simp⟩
def Un.write(mu:RF (H x))(he:e=x\/H e=some (.own x))(k:∀b u,b≠e->h.get? b=some u->h'.get? b=some u)(eQ:∃u,h'.get? e=some u):Un fs ex H (upd H x o) h h':=by
 have hx:∀b,H b=none->b≠x:=λb n z=>by subst z;rw[n]at mu;exact mu
 have hb:∀b,H b=none->b≠e:=λb n z=>by
  subst z;rcases he with r|r;·exact hx b n r
  ·rw[n]at r;cases r
 have hm:∀b u,H b=some u->¬RF (some u)->b≠x:=λb u q nm z=>by subst z;rw[q]at mu;exact nm mu
 refine⟨λb u q n _ _=>k b u (hb b n) q,λb u q n _ _=>⟨u.slots,k b u (hb b n) q⟩,λb u q n _=>by rw[Qi (hx b n)];exact n,λb u q _=>?_,λb xs q=>by rw[Qi (hm b _ q λz=>z)];exact q,λb u xs q=>by rw[Qi (hm b _ q λz=>z)];exact q,λb ps q=>⟨#[],by rw[Qi (hm b _ q λz=>z),q];simp⟩⟩;by_cases dZ:b=e;·subst dZ;exact eQ
 ·exact⟨u,k b u dZ q⟩
def Un.mono(u:Un fs ex H H1 h h1)(hs:∀b∈fs,b∈iA)(hx:∀b∈ex,b∈jP):Un iA jP H H1 h h1:=⟨λb ob q n hb he=>u.keep b ob q n (λz=>hb (hs b z)) λz=>he (hx b z),λ_ _ q n _ he=>u.any q n λz=>he (hx _ z),λb ob q n he=>u.free b ob q n λz=>he (hx b z),λb ob q he=>u.there b ob q λz=>he (hx b z),u.tups,u.frzs,u.tbls⟩
end
noncomputable def Mb(h:Heap)(H:Hp):List Addr:=(List.range h.objs.size).filter λa=>(H a).isSome
def UJ(h:Heap)(H:Hp):Heap:=W.hideAll h (Mb h H)
def Qdv(h:Heap)(H:Hp):(UJ h H).objs.size=h.objs.size:=W.hideAll_size _ _
def Qdu{h:Heap}{H:Hp}{b:Addr}{o:Obj}(e:h.get? b=some o)(n:H b=none):(UJ h H).get? b=some o:=W.hideAll_get _ e λhm=>by have q:(H b).isSome=true:=(q_47.mp hm).2;rw[n]at q;simp at q
def Qfb{h:Heap}{H:Hp}{b:Addr}{o:Obj}(e:(UJ h H).get? b=some o):h.get? b=some o/\H b=none:=by have e':h.get? b=some o:=W.of_hideAll (Mb h H) e;refine⟨e',?_⟩;cases q:H b with|none=>rfl|some x=>have hm:b∈Mb h H:=q_47.mpr ⟨List.mem_range.mpr (Heap.lt_size e'),by simp[q]⟩;have z:(UJ h H).get? b=none:=W.hideAll_none (Mb h H) hm;rw[z]at e;cases e
noncomputable def Qav(g h:Heap)(L:Addr):List (Addr×Obj):=(List.range h.objs.size).filterMap λa=>if a=L\/(g.get? a).isSome=true then none else(h.get? a).map λo=>(a,o)
def J7(g h:Heap)(L d:Addr):List (Addr×Obj):=(Qav g h L).filter λp=>decide (p.1≠d)
structure Mod(K:W.Frag)(mg:Str->Option Value)(ab:Heap):Prop where
 kin:K.In ab
 glob:ab.Ns mainGlobals mg
 blt:∃mb,ab.Ns builtinsNs mb/\∀x:Str,x≠"__name__"->mb x=bootBuiltins x
 nolimit:ab.NoLimit
structure Cx where
 prog:Program
 w:World
 K:W.Frag
 mg:Str->Option Value
 ab:Heap
 A:Around
 N:List Str
 s₀:Shared
 H₀:Hp
 env:Env
 ag:List Env
 stack:List Env
 ex:List Addr
 fn:Str->Bool
 calm:Bool
 pn:List (Addr×Obj)xe:Value->Shared->Prop
noncomputable def Wy(l:List Env):List Addr:=l.filterMap (·.frame)
abbrev Cx.fs(X:Cx):List Addr:=Wy X.ag
def WK(sc:Scope)(x:Str):Prop:=sc.names.lookup x=some .local\/sc.names.lookup x=some .cell\/sc.names.lookup x=some .free
def XU(sc:Scope)(x:Str):Prop:=sc.names.lookup x=some .local\/sc.names.lookup x=some .cell
def Ao(env:Env)(h:Heap)(m:Str->Option Value)(x:Str)(u:Value):Prop:=env.kindOf x=some .local/\m x=some u\/(env.kindOf x=some .cell\/env.kindOf x=some .free)/\∃c,env.cells.lookup x=some c/\h.IsCell c (some u)
structure Cx.Ok(X:Cx):Prop where
 mod:Mod X.K X.mg X.ab
 kind:X.env.scope.kind=.function
 glob:X.env.globals=mainGlobals
 blt:X.env.builtins=builtinsNs
 above:X.s₀.heap.objs.size<=X.env.locals
 inj:∀x y c,X.env.cells.lookup x=some c->X.env.cells.lookup y=some c->x=y
 has:∀x,X.env.kindOf x=some .cell\/X.env.kindOf x=some .free->∃c,X.env.cells.lookup x=some c
 cab:∀x c,X.fn x=true->X.env.cells.lookup x=some c->X.s₀.heap.objs.size<=c
 hd:X.calm=true->X.A.handled=none
 frames:X.A.frames=some X.stack
 stk:X.stack=X.ag\/(X.stack=X.env::X.ag/\X.env.frame=some X.env.locals)exf:∀b∈X.ex,b≠X.env.locals/\∀x c,X.env.cells.lookup x=some c->c≠b
 bs:∀b o,X.ab.get? b=some o->X.s₀.heap.get? b=some o/\X.H₀ b=none
 bsz:X.ab.objs.size<=X.s₀.heap.objs.size
 noex:∀b o,X.ab.get? b=some o->b∉X.ex
 exfs:∀b∈X.ex,b∉X.fs
 funs:X.s₀.heap.FunFrames X.ab X.ag
 frf:∀b∈X.fs,X.H₀ b=none
structure Inv(X:Cx)(aa:List (Addr×Obj))(σ:List (Option V))(H:Hp)(s:Shared):Prop where
 ok:X.Ok
 os:s.os=X.s₀.os
 bare:AllBare s.gens
 ab:Un X.fs X.ex X.H₀ H X.s₀.heap s.heap
 loc:∃m,s.heap.Ns X.env.locals m/\∀(i:Nat)(x:Str)(v:V),X.N[i]?=some x->σ[i]?=some (some v)->WK X.env.scope x->∃u,RelV v u/\Ao X.env s.heap m x u
 cell:∀x c,X.env.cells.lookup x=some c->∃v,s.heap.IsCell c v
 free:H X.env.locals=none
 freeC:∀x c,X.env.cells.lookup x=some c->H c=none
 pin:∀p∈X.pn++aa,s.heap.get? p.1=some p.2/\H p.1=none/\p.1≠X.env.locals/\p.1∉X.fs/\∀v,p.2.data≠.cell v
 hok:HOk X.prog X.w H s.heap
 len:σ.length=X.N.length
section
variable{X:Cx}{aa:List (Addr×Obj)}{σ:List (Option V)}{H H':Hp}{s:Shared}{h':Heap}
def Cx.Ok.nofr(ok:X.Ok){b:Addr}{o:Obj}(e:X.ab.get? b=some o):b∉X.fs:=λhb=>by have:=(ok.funs.mem hb).1;rw[e]at this;cases this
theorem Inv.bs(I:Inv X aa σ H s):∀b o,X.ab.get? b=some o->s.heap.get? b=some o/\H b=none:=λb o e=>⟨I.ab.keep b o (I.ok.bs b o e).1 (I.ok.bs b o e).2 (I.ok.nofr e) (I.ok.noex b o e),I.ab.free b o (I.ok.bs b o e).1 (I.ok.bs b o e).2 (I.ok.noex b o e)⟩
def Inv.bk(I:Inv X aa σ H s):∀b o,X.ab.get? b=some o->s.heap.get? b=some o:=λb o e=>(I.bs b o e).1
theorem Inv.mod(I:Inv X aa σ H s):Mod X.K X.mg X.ab:=I.ok.mod
def Inv.kIn(I:Inv X aa σ H s):X.K.In s.heap:=I.ok.mod.kin.keeps I.bk
theorem Inv.nolimit(I:Inv X aa σ H s):s.heap.NoLimit:=I.ok.mod.nolimit.keeps I.bk
theorem Inv.lt(I:Inv X aa σ H s):X.env.locals<s.heap.objs.size:=let⟨_,hn,_⟩:=I.loc;hn.lt
def Inv.sz(I:Inv X aa σ H s):X.s₀.heap.objs.size<=s.heap.objs.size:=Zk I.ok.above (le_of_lt I.lt)
def Inv.nofs(I:Inv X aa σ H s){a:Addr}(h:s.heap.objs.size<=a):a∉X.fs:=λhb=>by obtain⟨_,o,ho,_⟩:=I.ok.funs.mem hb;exact absurd (Vh (Heap.lt_size ho) (Zk I.sz h)) (lt_irrefl _)
def Inv.cne(I:Inv X aa σ H s):∀x c,X.env.cells.lookup x=some c->c≠X.env.locals:=λx c e z=>by obtain⟨v,o,ho,hd⟩:=I.cell x c e;obtain⟨m,⟨o',es,ep,ck,lH,_⟩,_⟩:=I.loc;rw[z,ck]at ho;cases ho;rw[lH]at hd;cases hd
theorem Inv.funs(I:Inv X aa σ H s):s.heap.FunFrames X.ab X.ag:=by
 have all:∀(l:List Env),(∀b∈Wy l,b∈X.fs)->X.s₀.heap.FunFrames X.ab l->s.heap.FunFrames X.ab l:=by intro l;induction l with|nil=>intro _ _;trivial|cons env r ih=>
   intro hs hl;obtain⟨hk,⟨L,o,hf,hn,ho,hd⟩,hr⟩:=hl;have hL:L∈X.fs:=hs L (by unfold Wy;rw[filterMap_cons,hf];exact Ja);obtain⟨sl,e⟩:=I.ab.slot L o ho (I.ok.frf L hL) hL λz=>I.ok.exfs L z hL;exact⟨hk,⟨L,_,hf,hn,e,hd⟩,ih (λb hb=>hs b (by unfold Wy;rw[filterMap_cons,hf];exact JO _ hb)) hr⟩
 exact all X.ag (λ_ hb=>hb) I.ok.funs
theorem Inv.stack(I:Inv X aa σ H s):s.heap.FunFrames X.ab X.stack:=by
 rcases I.ok.stk with e|⟨e,hf⟩;·rw[e];exact I.funs
 ·rw[e];obtain⟨m,hn,_⟩:=I.loc;refine .cons (by rw[I.ok.kind];decide) hf hn ?_ I.funs;exact Heap.get?_none_of_le (Zk I.ok.bsz I.ok.above)
def Inv.stkSub(I:Inv X aa σ H s):∀b∈Wy X.stack,b∈X.env.locals::X.fs:=λb hb=>by
 rcases I.ok.stk with e|⟨e,hf⟩;·rw[e]at hb;exact JO _ hb
 ·rw[e]at hb;unfold Wy at hb;rw[filterMap_cons,hf]at hb;exact hb
def Inv.stkFree(I:Inv X aa σ H s):∀b∈Wy X.stack,H b=none:=λb hb=>by
 rcases q_5.mp (I.stkSub b hb)with e|hb;·rw[e];exact I.free
 ·obtain⟨_,o,ho,_⟩:=I.ok.funs.mem hb;exact I.ab.free b o ho (I.ok.frf b hb) λz=>I.ok.exfs b z hb
def Inv.step{g':Array GenState}{t':Nat}{d':Drawn}{ch:List Addr}(I:Inv X aa σ H s)(cN:∀b∈ch,(b∈X.ex\/X.s₀.heap.objs.size<=b)/\b≠X.env.locals/\(∀x c,X.env.cells.lookup x=some c->c≠b)/\∀p∈X.pn++aa,p.1≠b)(keep:∀b o,b≠X.env.locals->b∉X.fs->b∉ch->s.heap.get? b=some o->H b=none->h'.get? b=some o)(slot:∀b o,b≠X.env.locals->b∈X.fs->b∉ch->s.heap.get? b=some o->H b=none->∃sl,h'.get? b=some {o with slots:=sl})(free:∀b o,b∉ch->s.heap.get? b=some o->H b=none->H' b=none)(there:∀b o,b∉ch->s.heap.get? b=some o->∃o',h'.get? b=some o')(tups:∀b xs,H b=some (.tup xs)->H' b=some (.tup xs))(frzs:∀b o u,H b=some (.frz o u)->H' b=some (.frz o u))(tbls:∀b ps,H b=some (.tbl ps)->∃more,H' b=some (.tbl (ps++more)))(ns:∀m,s.heap.Ns X.env.locals m->h'.Ns X.env.locals m)(hok:HOk X.prog X.w H' h')(hg:AllBare g'):Inv X aa σ H' {s with heap:=h',gens:=g',drawn:=d',toks:=t'}:=by
 have jq:∀b o,X.s₀.heap.get? b=some o->b≠X.env.locals:=λb o e=>Y9 (Vh (Heap.lt_size e) I.ok.above);have gp:∀b o,X.s₀.heap.get? b=some o->b∉X.ex->b∉ch:=λb o e hx hb=>by
  rcases(cN b hb).1 with z|z;·exact hx z
  ·exact absurd (Vh (Heap.lt_size e) z) (lt_irrefl _)
 have cellK:∀x c,X.env.cells.lookup x=some c->∀v,s.heap.IsCell c v->h'.IsCell c v:=λx c e v⟨o,ho,hd⟩=>by
  have fk:c∉ch:=λz=>(cN c z).2.2.1 x c e rfl;by_cases hc:c∈X.fs;·obtain⟨sl,q⟩:=slot c o (I.cne x c e) hc fk ho (I.freeC x c e);exact⟨_,q,hd⟩
  ·exact⟨o,keep c o (I.cne x c e) hc fk ho (I.freeC x c e),hd⟩
 refine⟨I.ok,I.os,hg,⟨λb o e n hb hx=>?_,λb o e n hb hx=>?_,λb o e n hx=>?_,λb o e hx=>?_,λb xs e=>tups b xs (I.ab.tups b xs e),λb o xs e=>frzs b o xs (I.ab.frzs b o xs e),λb ps e=>?_⟩,?_,λx c e=>?_,?_,λx c e=>?_,λp hp=>?_,hok,I.len⟩;·exact keep b o (jq b o e) hb (gp b o e hx) (I.ab.keep b o e n hb hx) (I.ab.free b o e n hx)
 ·obtain⟨sl,e1⟩:=I.ab.slot b o e n hb hx;obtain⟨j4,e2⟩:=slot b _ (jq b o e) hb (gp b o e hx) e1 (I.ab.free b o e n hx);exact⟨j4,e2⟩
 ·obtain⟨o',e1⟩:=I.ab.there b o e hx;exact free b o' (gp b o e hx) e1 (I.ab.free b o e n hx)
 ·obtain⟨o',e1⟩:=I.ab.there b o e hx;exact there b o' (gp b o e hx) e1
 ·obtain⟨m1,e1⟩:=I.ab.tbls b ps e;obtain⟨m2,e2⟩:=tbls b _ e1;exact⟨m1++m2,by rw[e2,Array.append_assoc]⟩
 ·obtain⟨m,hn,hl⟩:=I.loc;refine⟨m,ns m hn,λi x v e1 e2 e3=>?_⟩;obtain⟨u,r,l⟩:=hl i x v e1 e2 e3;refine⟨u,r,?_⟩;rcases l with l|⟨k,c,e,z⟩;·exact .inl l
  ·exact .inr ⟨k,c,e,cellK x c e _ z⟩
 ·obtain⟨v,z⟩:=I.cell x c e;exact⟨v,cellK x c e v z⟩
 ·obtain⟨m,⟨o,_,_,ho,_⟩,_⟩:=I.loc;exact free _ o (λz=>(cN _ z).2.1 rfl) ho I.free
 ·obtain⟨v,o,ho,hd⟩:=I.cell x c e;exact free c o (λz=>(cN c z).2.2.1 x c e rfl) ho (I.freeC x c e)
 ·obtain⟨e,n,ne,nf,d⟩:=I.pin p hp;have fk:p.1∉ch:=λz=>(cN p.1 z).2.2.2 p hp rfl;exact⟨keep p.1 p.2 ne nf fk e n,free p.1 p.2 fk e n,ne,nf,d⟩
def Inv.un{t':Nat}(I:Inv X aa σ H s)(u:Un X.fs [] H H' s.heap h')(hok:HOk X.prog X.w H' h'):Inv X aa σ H' {s with heap:=h',toks:=t'}:=by obtain⟨m,⟨o,es,ep,ho,r⟩,_⟩:=id I.loc;obtain⟨sl,hL⟩:=u.any ho I.free (by simp);exact I.step (g':=s.gens) (d':=s.drawn) (ch:=[]) (λ_ z=>nomatch z) (λb o _ hb _ e n=>u.keep b o e n hb (by simp)) (λb o _ hb _ e n=>u.slot b o e n hb (by simp)) (λb o _ e n=>u.free b o e n (by simp)) (λb o _ e=>u.there b o e (by simp)) u.tups u.frzs u.tbls (λm' hm=>by obtain⟨o',de,gK,ck,r'⟩:=hm;rw[ho]at ck;cases ck;exact⟨_,de,gK,hL,r'⟩) hok I.bare
def Inv.call{g':Array GenState}{t':Nat}{d':Drawn}{ch:List Addr}(I:Inv X aa σ H s)(u:Un (Wy X.stack) ch H H' s.heap h')(hok:HOk X.prog X.w H' h')(hg:AllBare g')(cN:∀b∈ch,(b∈X.ex\/X.s₀.heap.objs.size<=b)/\b≠X.env.locals/\(∀x c,X.env.cells.lookup x=some c->c≠b)/\∀p∈X.pn++aa,p.1≠b):Inv X aa σ H' {s with heap:=h',gens:=g',drawn:=d',toks:=t'}:=by obtain⟨m,⟨o,es,ep,ho,r⟩,_⟩:=id I.loc;obtain⟨sl,hL⟩:=u.any ho I.free λz=>(cN _ z).2.1 rfl;exact I.step (ch:=ch) cN (λb o hL hb hc e n=>u.keep b o e n (λz=>(q_5.mp (I.stkSub b z)).elim hL hb) hc) (λb o _ _ hc e n=>u.any e n hc) (λb o hc e n=>u.free b o e n hc) (λb o hc e=>u.there b o e hc) u.tups u.frzs u.tbls (λm' hm=>by obtain⟨o',de,gK,ck,r'⟩:=hm;rw[ho]at ck;cases ck;exact⟨_,de,gK,hL,r'⟩) hok hg
def Inv.turned{t':Nat}{it:Addr}(I:Inv X aa σ H s)(k:∀b o,b≠it->s.heap.get? b=some o->h'.get? b=some o)(hn:H it=none)(hL:it≠X.env.locals)(h1:it∈X.ex\/X.s₀.heap.objs.size<=it)(h2:∀x c,X.env.cells.lookup x=some c->c≠it)(h3:∀p∈X.pn++aa,p.1≠it):Inv X aa σ H {s with heap:=h',toks:=t'}:=by
 have du:∀b u,H b=some u->b≠it:=λb u e z=>by rw[z,hn]at e;cases e
 refine I.step (g':=s.gens) (d':=s.drawn) (ch:=[it]) (λb hb=>?_) (λb o _ _ hc e _=>k b o (λz=>hc (by simp[z])) e) (λb o _ _ hc e _=>⟨o.slots,k b o (λz=>hc (by simp[z])) e⟩) (λ_ _ _ _ n=>n) (λb o hc e=>⟨o,k b o (λz=>hc (by simp[z])) e⟩) (λ_ _ e=>e) (λ_ _ _ e=>e) (λb ps e=>⟨#[],by rw[e];simp⟩) (λm hm=>?_) (λb u e=>?_) I.bare
 ·have e:b=it:=by simpa using hb
  subst e;exact⟨h1,hL,h2,h3⟩
 ·obtain⟨o,es,ep,ho,r⟩:=hm;exact⟨o,es,ep,k _ o (Ne.symm hL) ho,r⟩
 ·refine(I.hok b u e).stay (λc v hc q=>k c v ?_ q) (λ_ q=>q) λ_ _ q=>q;rcases hc with z|z;·rw[z];exact du b u e
  ·exact du c _ z
def Inv.tok(I:Inv X aa σ H s)(t:Nat):Inv X aa σ H {s with toks:=t}:=I.un (h':=s.heap) (t':=t) Un.refl I.hok
theorem Inv.kept{t':Nat}(I:Inv X aa σ H s)(k:∀b u,s.heap.get? b=some u->h'.get? b=some u):Inv X aa σ H {s with heap:=h',toks:=t'}:=I.un (Un.kept k) (I.hok.kept k)
theorem Inv.laid{a:Addr}{o:HO}{t':Nat}(I:Inv X aa σ H s)(k:∀b u,s.heap.get? b=some u->h'.get? b=some u)(hp:s.heap.objs.size<=a)(new:ObjOk X.prog X.w (upd H a o) h' a o):Inv X aa σ (upd H a o) {s with heap:=h',toks:=t'}:=I.un (Un.laid k hp (I.hok.fresh hp)) (I.hok.laid k hp new)
theorem Inv.write{x e:Addr}{o:HO}{t':Nat}(I:Inv X aa σ H s)(mu:RF (H x))(he:e=x\/H e=some (.own x))(k:∀b u,b≠e->s.heap.get? b=some u->h'.get? b=some u)(eQ:∃u,h'.get? e=some u)(new:ObjOk X.prog X.w (upd H x o) h' x o):Inv X aa σ (upd H x o) {s with heap:=h',toks:=t'}:=I.un (Un.write mu he k eQ) (I.hok.write mu he k eQ new)
def Inv.pins_of{dN:List (Addr×Obj)}(I:Inv X aa σ H s)(h:∀p∈dN,s.heap.get? p.1=some p.2/\H p.1=none/\p.1≠X.env.locals/\p.1∉X.fs/\∀v,p.2.data≠.cell v):Inv X dN σ H s:=⟨I.ok,I.os,I.bare,I.ab,I.loc,I.cell,I.free,I.freeC,λp hp=>(q_7.mp hp).elim (λz=>I.pin p (Vi _ z)) (h p),I.hok,I.len⟩
def CD{N:List Str}(hN:N.Nodup){i j:Nat}{x:Str}(a:N[i]?=some x)(b:N[j]?=some x):i=j:=by obtain⟨h1,e1⟩:=q_18.mp a;obtain⟨h2,e2⟩:=q_18.mp b;exact(List.getElem_inj hN).mp (e1.trans e2.symm)
def A9{M:Model}{A:Around}{E:Value->Shared->Prop}{i:Nat}{x:Str}{v:V}{u:Value}{Q:Unit->Shared->Prop}(I:Inv X aa σ H s)(hN:X.N.Nodup)(hi:X.N[i]?=some x)(hx:XU X.env.scope x)(r:RelV v u)(h:∀s',Inv X aa (σ.set i (some v)) H s'->(∃a,Heap.SameBut a s.heap s'.heap/\(a=X.env.locals\/X.env.cells.lookup x=some a))->Q () s')(hf:X.fn x=true\/X.env.scope.names.lookup x=some .local:=by first|exact .inl rfl|exact .inr rfl|assumption):wpAny M A (storeName X.env x u) Q E s:=by
 obtain⟨m,hn,hl⟩:=id I.loc;have ja:(X.env.scope.kind==.class||(X.env.scope.kind==.module&&X.env.locals !=X.env.globals))=false:=by rw[I.ok.kind];rfl
 have fU:i<σ.length:=by rw[I.len];exact(q_18.mp hi).1
 have cne:=I.cne;have tracked:∀{a:Addr}{h':Heap},(∃o,s.heap.get? a=some o/\H a=none)->Heap.SameBut a s.heap h'->HOk X.prog X.w H h':=λ{a h'}ha hs b ob e=>by
  obtain⟨_,_,dP⟩:=ha;refine(I.hok b ob e).stay (λc w' hc q=>(hs.2 c ?_).trans q) (λ_ q=>q) λ_ _ q=>q;rintro rfl;rcases hc with rfl|hc;·rw[dP]at e;cases e
  ·rw[dP]at hc;cases hc
 rcases hx with hk|hk
 ·refine wpAny_storeName_local hk hn (λh' dD hs=>?_) ja;obtain⟨oL,_,_,kS,_⟩:=id hn;refine h _ ⟨I.ok,I.os,I.bare,⟨λb o e n hb hx=>?_,λb o e n hb hx=>?_,I.ab.free,λb o e hx=>?_,I.ab.tups,I.ab.frzs,I.ab.tbls⟩,⟨_,dD,λj y v' e1 e2 e3=>?_⟩,λy c e=>?_,I.free,I.freeC,λp hp=>?_,tracked ⟨oL,kS,I.free⟩ hs,by simpa using I.len⟩ ⟨_,hs,.inl rfl⟩;·exact(hs.2 b (Y9 (Vh (Heap.lt_size e) I.ok.above))).trans (I.ab.keep b o e n hb hx)
  ·obtain⟨sl,e1⟩:=I.ab.slot b o e n hb hx;exact⟨sl,(hs.2 b (Y9 (Vh (Heap.lt_size e) I.ok.above))).trans e1⟩
  ·obtain⟨o',e1⟩:=I.ab.there b o e hx;exact⟨o',(hs.2 b (Y9 (Vh (Heap.lt_size e) I.ok.above))).trans e1⟩
  ·by_cases hj:j=i
   ·subst hj;rw[hi]at e1;cases e1;rw[List.getElem?_set_self fU]at e2;cases e2;exact⟨u,r,.inl ⟨hk,by simp⟩⟩
   ·rw[Ux (Ne.symm hj)]at e2;obtain⟨u',r',q⟩:=hl j y v' e1 e2 e3;refine⟨u',r',?_⟩;rcases q with⟨k,e⟩|⟨k,c,e,z⟩
    ·refine .inl ⟨k,?_⟩;have:y≠x:=λe=>hj (CD hN e1 (e▸hi));simp[this,e]
    ·exact .inr ⟨k,c,e,z.sameBut hs (cne y c e)⟩
  ·obtain⟨w',z⟩:=I.cell y c e;exact⟨w',z.sameBut hs (cne y c e)⟩
  ·obtain⟨e,n,ne,nf,d⟩:=I.pin p hp;exact⟨(hs.2 p.1 ne).trans e,n,ne,nf,d⟩
 ·have iq:X.fn x=true:=by
   rcases hf with z|z;·exact z
   ·rw[z]at hk;cases hk
  obtain⟨c,hc⟩:=I.ok.has x (.inl hk);obtain⟨w',z⟩:=I.cell x c hc;refine wpAny_storeName_cell I.ok.kind hk hc z (λh' gH hs=>?_);obtain⟨oc,jB,i6⟩:=id z;refine h {s with heap:=h'} ⟨I.ok,I.os,I.bare,⟨λb o e n hb hx=>?_,λb o e n hb hx=>?_,I.ab.free,λb o e hx=>?_,I.ab.tups,I.ab.frzs,I.ab.tbls⟩,⟨m,hn.sameBut hs (Ne.symm (cne x c hc)),λj y v' e1 e2 e3=>?_⟩,λy c' e=>?_,I.free,I.freeC,λp hp=>?_,tracked ⟨oc,jB,I.freeC x c hc⟩ hs,by simpa using I.len⟩ ⟨c,hs,.inr hc⟩;·exact(hs.2 b (Y9 (Vh (Heap.lt_size e) (I.ok.cab x c iq hc)))).trans (I.ab.keep b o e n hb hx)
  ·obtain⟨sl,e1⟩:=I.ab.slot b o e n hb hx;exact⟨sl,(hs.2 b (Y9 (Vh (Heap.lt_size e) (I.ok.cab x c iq hc)))).trans e1⟩
  ·obtain⟨o',e1⟩:=I.ab.there b o e hx;exact⟨o',(hs.2 b (Y9 (Vh (Heap.lt_size e) (I.ok.cab x c iq hc)))).trans e1⟩
  ·by_cases hj:j=i
   ·subst hj;rw[hi]at e1;cases e1;rw[List.getElem?_set_self fU]at e2;cases e2;exact⟨u,r,.inr ⟨.inl hk,c,hc,gH⟩⟩
   ·rw[Ux (Ne.symm hj)]at e2;obtain⟨u',r',q⟩:=hl j y v' e1 e2 e3;refine⟨u',r',?_⟩;rcases q with q|⟨k,c',e,z'⟩;·exact .inl q
    ·refine .inr ⟨k,c',e,z'.sameBut hs ?_⟩;rintro rfl;exact hj (CD hN e1 (I.ok.inj _ _ _ e hc▸hi))
  ·by_cases jJ:c'=c;·subst jJ;exact⟨_,gH⟩
   ·obtain⟨w2,z2⟩:=I.cell y c' e;exact⟨w2,z2.sameBut hs jJ⟩
  ·obtain⟨e,n,ne,nf,d⟩:=I.pin p hp;refine⟨(hs.2 p.1 ?_).trans e,n,ne,nf,d⟩;intro q;rw[q,jB]at e;have q':oc=p.2:=Option.some.inj e;exact d w' (by rw[<-q'];exact i6)
def Hh{M:Model}{A:Around}{E:Value->Shared->Prop}{i:Nat}{x:Str}{v:V}{u:Value}{Q:Unit->Shared->Prop}(I:Inv X aa σ H s)(hN:X.N.Nodup)(hi:X.N[i]?=some x)(hx:XU X.env.scope x)(r:RelV v u)(h:∀s',Inv X aa (σ.set i (some v)) H s'->Q () s')(hf:X.fn x=true\/X.env.scope.names.lookup x=some .local:=by first|exact .inl rfl|exact .inr rfl|assumption):wpAny M A (storeName X.env x u) Q E s:=A9 I hN hi hx r (λs' I' _=>h s' I') hf
def Inv.call'{s':Shared}{ch:List Addr}(I:Inv X aa σ H s)(ho:s'.os=s.os)(u:Un (Wy X.stack) ch H H' s.heap s'.heap)(hok:HOk X.prog X.w H' s'.heap)(hg:AllBare s'.gens)(cN:∀b∈ch,(b∈X.ex\/X.s₀.heap.objs.size<=b)/\b≠X.env.locals/\(∀x c,X.env.cells.lookup x=some c->c≠b)/\∀p∈X.pn++aa,p.1≠b):Inv X aa σ H' s':=by obtain⟨h',g',d',t',o'⟩:=s';have e:o'=s.os:=ho;subst e;exact I.call (g':=g') (t':=t') (d':=d') u hok hg cN
end
abbrev XK:=Value->Option Addr->Hp->Prop
abbrev St:=List (Option V)
abbrev VK:=V->Hp->Prop
abbrev TE:=St->Hp->VK->Prop
noncomputable abbrev TT:=St->Hp->(Bool->Hp->Prop)->Prop
noncomputable abbrev TA:=St->Hp->(List V->Hp->Prop)->Prop
structure Ends where
 nx:St->Hp->Prop
 rt:VK
 bk:St->Hp->Prop:=λ_ _=>False
 ct:St->Hp->Prop:=λ_ _=>False
abbrev TS:=Ends->St->Hp->Prop
def EP(X:Cx)(aa:List (Addr×Obj))(σ:St)(Q:VK)(u:Value)(s':Shared):Prop:=∃v H',Inv X aa σ H' s'/\RelV v u/\Q v H'
def TP(X:Cx)(aa:List (Addr×Obj))(σ:St)(Q:Bool->Hp->Prop)(b:Bool)(s':Shared):Prop:=∃H',Inv X aa σ H' s'/\Q b H'
def AP(X:Cx)(aa:List (Addr×Obj))(σ:St)(Q:List V->Hp->Prop)(us:List Value)(s':Shared):Prop:=∃vs H',Inv X aa σ H' s'/\Vals vs us/\Q vs H'
def SP(X:Cx)(aa:List (Addr×Obj))(D:Ends)(f:Flow)(s':Shared):Prop:=match f with|.next=>∃σ' H',Inv X aa σ' H' s'/\D.nx σ' H'|.brk=>∃σ' H',Inv X aa σ' H' s'/\D.bk σ' H'|.cont=>∃σ' H',Inv X aa σ' H' s'/\D.ct σ' H'|.ret u=>∃v σ' H',Inv X aa σ' H' s'/\RelV v u/\D.rt v H'
def PE(X:Cx)(e:Expr)(t:TE):Prop:=∀(aa:List (Addr×Obj))(s:Shared)(σ:St)(H:Hp)(Q:VK),Inv X aa σ H s->t σ H Q->wpAny (model X.prog X.w) X.A (eval e X.env) (EP X aa σ Q) X.xe s
def PT(X:Cx)(e:Expr)(t:TT):Prop:=∀(aa:List (Addr×Obj))(s:Shared)(σ:St)(H:Hp)(Q:Bool->Hp->Prop),Inv X aa σ H s->t σ H Q->wpAny (model X.prog X.w) X.A (isTrue e X.env (eval e X.env)) (TP X aa σ Q) X.xe s
def PW(X:Cx)(e:Expr)(t:TT):Prop:=∀(whole:Sem Value)(aa:List (Addr×Obj))(s:Shared)(σ:St)(H:Hp)(Q:Bool->Hp->Prop),Inv X aa σ H s->t σ H Q->wpAny (model X.prog X.w) X.A (isTrue e X.env whole) (TP X aa σ Q) X.xe s
def PW.pt{X:Cx}{e:Expr}{t:TT}(h:PW X e t):PT X e t:=h _
def PA(X:Cx)(es:List Expr)(t:TA):Prop:=∀(pos:Pos)(aa:List (Addr×Obj))(s:Shared)(σ:St)(H:Hp)(Q:List V->Hp->Prop),Inv X aa σ H s->t σ H Q->wpAny (model X.prog X.w) X.A (spliced (backTo pos (starEach es X.env))) (AP X aa σ Q) X.xe s
def PS(X:Cx)(st:Stmt)(t:TS):Prop:=∀(aa:List (Addr×Obj))(s:Shared)(σ:St)(H:Hp)(D:Ends),Inv X aa σ H s->t D σ H->wpAny (model X.prog X.w) X.A (exec st X.env) (SP X aa D) X.xe s
def PSs(X:Cx)(st:List Stmt)(t:TS):Prop:=∀(aa:List (Addr×Obj))(s:Shared)(σ:St)(H:Hp)(D:Ends),Inv X aa σ H s->t D σ H->wpAny (model X.prog X.w) X.A (execs st X.env) (SP X aa D) X.xe s
def QW{α:Type}{t:Sem α}{Q Q':α->Shared->Prop}{M:Model}{A:Around}{E:Value->Shared->Prop}{s:Shared}(h:wpAny M A t Q E s)(hQ:∀a s,Q a s->Q' a s):wpAny M A t Q' E s:=wpAny_mono h hQ λ_ _ x=>x
section
variable{X:Cx}
noncomputable def W0(i:Nat):TE:=λσ H Q=>∃v,σ[i]?=some (some v)/\Q v H
def tC(v:V):TE:=λ_ H Q=>Q v H
def Zt{i:Nat}{x:Str}{pos:Pos}(hN:X.N[i]?=some x)(hv:WK X.env.scope x)(hd:(x==("__debug__":Str))=false:=by decide)(b5:(x==("__classdict__":Str))=false:=by decide):PE X (.Name x pos) (W0 i):=by
 intro aa s σ H Q I h;obtain⟨v,e,h⟩:=h;obtain⟨m,hn,hl⟩:=I.loc;obtain⟨u,r,l⟩:=hl i x v hN e hv;have fin:EP X aa σ Q u s:=⟨v,H,I,r,h⟩;rcases l with⟨hk,hm⟩|⟨hk,c,hc,cm⟩;·exact wpAny_Name (wpAny_loadName_local I.ok.kind hk hn hm fin) hd
 ·rcases hk with hk|hk;·exact wpAny_Name (wpAny_loadName_cell I.ok.kind hk hc cm fin) hd
  ·exact wpAny_Name (wpAny_loadName_free I.ok.kind hk hc cm fin b5) hd
def Sk{i j pos}:PE X (.Constant (.int i) j pos) (tC (.int i)):=λ_ _ _ H _ I h=>wpAny_Constant_int ⟨.int i,H,I.tok _,⟨_,rfl⟩,h⟩
def QgK{b j pos}:PE X (.Constant (.bool b) j pos) (tC (.bl b)):=λ_ _ _ H _ I h=>Constant_bool ⟨.bl b,H,I,rfl,h⟩
def CP{x j pos}:PE X (.Constant (.str x) j pos) (tC (.str x)):=λ_ _ _ H _ I h=>Calls.Constant_str ⟨.str x,H,I.tok _,⟨_,rfl⟩,h⟩
def Gl(X:Cx)(x:Str):Prop:=X.env.kindOf x=some .globalImplicit
def DU{E:Value->Shared->Prop}{aa:List (Addr×Obj)}{s:Shared}{σ:St}{H:Hp}{x:Str}{u:Value}{pos:Pos}{Q:Value->Shared->Prop}(I:Inv X aa σ H s)(hg:Gl X x)(hm:X.mg x=some u)(h:Q u s)(hd:(x==("__debug__":Str))=false:=by decide):wpAny (model X.prog X.w) X.A (eval (.Name x pos) X.env) Q E s:=Calls.Name_function_global I.ok.kind hg (Calls.loadGlobal_global (by rw[I.ok.glob];exact I.mod.glob.keeps I.bk) hm h) hd
def SX{E:Value->Shared->Prop}{aa:List (Addr×Obj)}{s:Shared}{σ:St}{H:Hp}{x:Str}{u:Value}{pos:Pos}{Q:Value->Shared->Prop}(I:Inv X aa σ H s)(hg:Gl X x)(hm:X.mg x=none)(hv:bootBuiltins x=some u)(h:Q u s)(hn:x≠"__name__":=by decide)(hd:(x==("__debug__":Str))=false:=by decide):wpAny (model X.prog X.w) X.A (eval (.Name x pos) X.env) Q E s:=by obtain⟨mb,h1,h2⟩:=I.mod.blt;exact Calls.Name_function_global I.ok.kind hg (Calls.loadGlobal_builtin (by rw[I.ok.glob];exact I.mod.glob.keeps I.bk) hm (by rw[I.ok.blt];exact h1.keeps I.bk) ((h2 x hn).trans hv) h) hd
def QgT{x:Str}{v:V}{u:Value}{pos:Pos}(hg:Gl X x)(hm:X.mg x=some u)(r:RelV v u)(hd:(x==("__debug__":Str))=false:=by decide):PE X (.Name x pos) (tC v):=λ_ _ _ H _ I h=>DU I hg hm ⟨v,H,I,r,h⟩ hd
def QgL{x:Str}{v:V}{u:Value}{pos:Pos}(hg:Gl X x)(hm:X.mg x=none)(hv:bootBuiltins x=some u)(r:RelV v u)(hn:x≠"__name__":=by decide)(hd:(x==("__debug__":Str))=false:=by decide):PE X (.Name x pos) (tC v):=λ_ _ _ H _ I h=>SX I hg hm hv ⟨v,H,I,r,h⟩ hn hd
variable{a b:Expr}{ta tb:TE}{pos:Pos}
def PC(X:Cx)(op:CmpOp)(a b:Expr)(t:TE):Prop:=∀(aa:List (Addr×Obj))(s:Shared)(σ:St)(H:Hp)(Q:VK),Inv X aa σ H s->t σ H Q->wpAny (model X.prog X.w) X.A (eval a X.env) (λv s₁=>wpAny (model X.prog X.w) X.A (eval b X.env) (λu s₂=>wpAny (model X.prog X.w) X.A (compareOp op v u) (EP X aa σ Q) X.xe s₂) X.xe s₁) X.xe s
def tB(t:TE):TT:=λσ H Q=>t σ H λx H1=>∃c,x=.bl c/\Q c H1
def Ce{op:CmpOp}{t:TE}(h:PC X op a b t)(h1:behindInMarks op b=false:=by first|exact f7 _ (by decide) (by decide)|rfl):PT X (.Compare a [op] [b] pos) (tB t):=by intro aa s σ H Q I hw;refine wpAny_isTrue_Compare1 (QW (h aa s σ H _ I hw) λv s1 h1=>QW h1 λu s2 h2=>QW h2 λc s3⟨x,H1,I1,r1,q1⟩=>?_) h1;obtain⟨d,rfl,q⟩:=q1;cases r1;exact wpAny_truthy_bool ⟨H1,I1,q⟩
def Qhq{e:Expr}{t:TE}(h:PE X e t)(he:∀whole,isTrue e X.env whole=(do let v<-whole;standAt e.pos;holding [v] (truthy v)):=by intro _;rfl):PT X e (tB t):=by intro aa s σ H Q I hw;refine isTrue_plain (QW (h aa s σ H _ I hw) λv s1⟨x,H1,I1,r1,q1⟩=>?_) (he _);obtain⟨d,rfl,q⟩:=q1;cases r1;exact wpAny_truthy_bool ⟨H1,I1,q⟩
variable{tA f9:TT}{J7:List Expr}
def AA(t u:TT):TT:=λσ H Q=>t σ H λc H1=>if c=true then u σ H1 Q else Q false H1
def AG(t u:TT):TT:=λσ H Q=>t σ H λc H1=>if c=true then Q true H1 else u σ H1 Q
def QiC(t:TT):TT:=λσ H Q=>t σ H λc H1=>Q (!c) H1
def Qhy(ha:PT X a tA):PW X (.BoolOp .And [a] pos) tA:=by intro wh aa s σ H Q I h;refine isTrue_and (QW (ha aa s σ H Q I h) λc s1 e=>?_);cases c with|true=>exact isTrue_and_nil e|false=>exact e
def QhA(ha:PT X a tA):PW X (.BoolOp .Or [a] pos) tA:=by intro wh aa s σ H Q I h;refine isTrue_or (QW (ha aa s σ H Q I h) λc s1 e=>?_);cases c with|false=>exact isTrue_or_nil e|true=>exact e
def Qhx(ha:PT X a tA)(hb:PW X (.BoolOp .And (b::J7) pos) f9):PW X (.BoolOp .And (a::b::J7) pos) (AA tA f9):=by intro wh aa s σ H Q I h;refine isTrue_and (QW (ha aa s σ H _ I h) λc s1⟨H1,I1,q1⟩=>?_);cases c with|true=>exact hb wh aa s1 σ H1 Q I1 q1|false=>exact⟨H1,I1,q1⟩
def Qhz(ha:PT X a tA)(hb:PW X (.BoolOp .Or (b::J7) pos) f9):PW X (.BoolOp .Or (a::b::J7) pos) (AG tA f9):=by intro wh aa s σ H Q I h;refine isTrue_or (QW (ha aa s σ H _ I h) λc s1⟨H1,I1,q1⟩=>?_);cases c with|true=>exact⟨H1,I1,q1⟩|false=>exact hb wh aa s1 σ H1 Q I1 q1
def Qho(ha:PT X a tA):PT X (.UnaryOp .Not a pos) (QiC tA):=by intro aa s σ H Q I h;exact isTrue_not (ha aa s σ H (λc H1=>Q (!c) H1) I h)
noncomputable def Qiq(ta tb:TE):TE:=λσ H Q=>ta σ H λx H1=>∃c,x=.bl c/\if c=true then tb σ H1 Q else Q (.bl false) H1
noncomputable def QiE(ta tb:TE):TE:=λσ H Q=>ta σ H λx H1=>∃c,x=.bl c/\if c=true then Q (.bl true) H1 else tb σ H1 Q
noncomputable def QiD(ta:TE):TE:=λσ H Q=>ta σ H λx H1=>∃c,x=.bl c/\Q (.bl (!c)) H1
def QgW{op}{t:TE}(h:PE X a t):PE X (.BoolOp op [a] pos) t:=λaa s σ H Q I hw=>BoolOp_one (h aa s σ H Q I hw)
def QgJ(ha:PE X a ta)(hb:PE X (.BoolOp .And (b::J7) pos) tb):PE X (.BoolOp .And (a::b::J7) pos) (Qiq ta tb):=by intro aa s σ H Q I h;refine BoolOp_and (QW (ha aa s σ H _ I h) λv s1⟨x,H1,I1,r1,q1⟩=>?_);obtain⟨c,rfl,q1⟩:=q1;cases r1;refine wpAny_truthy_bool ?_;cases c with|true=>exact hb aa s1 σ H1 Q I1 q1|false=>exact⟨.bl false,H1,I1,rfl,q1⟩
def QgX(ha:PE X a ta)(hb:PE X (.BoolOp .Or (b::J7) pos) tb):PE X (.BoolOp .Or (a::b::J7) pos) (QiE ta tb):=by intro aa s σ H Q I h;refine BoolOp_or (QW (ha aa s σ H _ I h) λv s1⟨x,H1,I1,r1,q1⟩=>?_);obtain⟨c,rfl,q1⟩:=q1;cases r1;refine wpAny_truthy_bool ?_;cases c with|false=>exact hb aa s1 σ H1 Q I1 q1|true=>exact⟨.bl true,H1,I1,rfl,q1⟩
def QgV(ha:PE X a ta):PE X (.UnaryOp .Not a pos) (QiD ta):=by intro aa s σ H Q I h;refine UnaryOp_ (QW (ha aa s σ H _ I h) λv s1⟨x,H1,I1,r1,q1⟩=>?_);obtain⟨c,rfl,q1⟩:=q1;cases r1;exact not_of (wpAny_truthy_bool ⟨.bl (!c),H1,I1,rfl,q1⟩)
def tIf(t:TT)(ta tb:TE):TE:=λσ H Q=>t σ H λc H1=>if c=true then ta σ H1 Q else tb σ H1 Q
def QgU{c:Expr}(hc:PT X c tA)(ha:PE X a ta)(hb:PE X b tb):PE X (.IfExp c a b pos) (tIf tA ta tb):=by intro aa s σ H Q I h;refine wpAny_IfExp (QW (hc aa s σ H _ I h) λd s1⟨H1,I1,q1⟩=>?_);cases d with|true=>exact ha aa s1 σ H1 Q I1 q1|false=>exact hb aa s1 σ H1 Q I1 q1
end
def SqL(K:W.Frag)(H:Hp)(a:Addr)(xs:List V):Prop:=Rd H a (.lst xs)\/∃(o:Obj)(its:Array Value)(n:Nat),K.lookup a=some o/\o.cls=.type "list"/\o.dict=none/\o.data=.seq its n/\its.size<=sizeLine/\Vals xs its.toList
def SqT(K:W.Frag)(H:Hp)(a:Addr)(xs:List V):Prop:=Rd H a (.tup xs)\/∃(o:Obj)(its:Array Value)(n:Nat),K.lookup a=some o/\o.cls=.type "tuple"/\o.data=.seq its n/\its.size<=sizeLine/\Vals xs its.toList
noncomputable def Qaq:Value->Option V|.none=>some .non|.bool b=>some (.bl b)|.int i _=>some (.int i)|.str x _=>some (.str x)|.bytes b _=>some (.byt b)|.float b _=>some (.flt b)|.ref a=>some (.ref a)|.type n=>some (.ty n)|_=>none
def RelV.abs{x:V}{u:Value}(r:RelV x u):Qaq u=some x:=by cases x with|non=>cases r;rfl|bl _=>cases r;rfl|int _=>obtain⟨t,rfl⟩:=r;rfl|str _=>obtain⟨t,rfl⟩:=r;rfl|byt _=>obtain⟨t,rfl⟩:=r;rfl|flt _=>obtain⟨t,rfl⟩:=r;rfl|ref _=>cases r;rfl|ty _=>cases r;rfl
theorem RelV.inj{x y:V}{u:Value}(r:RelV x u)(q:RelV y u):x=y:=Option.some.inj (r.abs.symm.trans q.abs)
theorem Vals.inj:∀{xs ys:List V}{us:List Value},Vals xs us->Vals ys us->xs=ys|_,_,_,.nil,.nil=>rfl|_,_,_,.cons r t,.cons r' t'=>by rw[r.inj r',Vals.inj t t']
section
variable{X:Cx}{aa:List (Addr×Obj)}{σ:St}{H:Hp}{s:Shared}{a:Addr}{xs ys:List V}
def SqL.of{K:W.Frag}(h:H a=some (.lst xs)):SqL K H a xs:=.inl (.inl h)
def SqT.of{K:W.Frag}(h:H a=some (.tup xs)):SqT K H a xs:=.inl (.inl h)
def Inv.list(I:Inv X aa σ H s)(h:SqL X.K H a xs):∃its:List Value,Vals xs its/\PlainL s.heap a its.toArray/\xs.length<=sizeLine:=by
 rcases h with h|⟨o,its,n,hk,hc,hd,hs,hz,r⟩
 ·obtain⟨z,its,n,r,e⟩:=h.ok I.hok;exact⟨its,r,⟨_,n,e,rfl,rfl,rfl⟩,z⟩
 ·refine⟨its.toList,r,⟨o,n,I.kIn a o hk,hc,hd,by simpa using hs⟩,?_⟩;have e:=r.length;simp only[Py]at e;omega
def Inv.tuple(I:Inv X aa σ H s)(h:SqT X.K H a xs):∃its:List Value,Vals xs its/\IsTup s.heap a its.toArray/\xs.length<=sizeLine:=by
 rcases h with h|⟨o,its,n,hk,hc,hs,hz,r⟩
 ·obtain⟨z,its,r,p⟩:=h.ok I.hok;exact⟨its,r,p,z⟩
 ·refine⟨its.toList,r,⟨o,I.kIn a o hk,hc,n,by simpa using hs⟩,?_⟩;have e:=r.length;simp only[Py]at e;omega
def Inv.list_inj(I:Inv X aa σ H s)(h:SqL X.K H a xs)(h':SqL X.K H a ys):xs=ys:=by
 obtain⟨its,r,⟨o,n,e,_,_,d⟩,_⟩:=I.list h;obtain⟨its',r',⟨o',n',e',_,_,d'⟩,_⟩:=I.list h';rw[e]at e';cases e';rw[d]at d';injection d' with d1 _;have:its=its':=by simpa using congrArg Array.toList d1
 subst this;exact r.inj r'
end
noncomputable abbrev Cx.wish(X:Cx)(E:Value->Shared->Prop):Cx:={X with xe:=E}
abbrev Cx.nox(X:Cx):Cx:=X.wish λ_ _=>False
theorem Cx.Ok.wish{X:Cx}(ok:X.Ok)(E:Value->Shared->Prop):(X.wish E).Ok:=⟨ok.mod,ok.kind,ok.glob,ok.blt,ok.above,ok.inj,ok.has,ok.cab,ok.hd,ok.frames,ok.stk,ok.exf,ok.bs,ok.bsz,ok.noex,ok.exfs,ok.funs,ok.frf⟩
def Cx.Ok.unwish{X:Cx}{E:Value->Shared->Prop}(ok:(X.wish E).Ok):X.Ok:=⟨ok.mod,ok.kind,ok.glob,ok.blt,ok.above,ok.inj,ok.has,ok.cab,ok.hd,ok.frames,ok.stk,ok.exf,ok.bs,ok.bsz,ok.noex,ok.exfs,ok.funs,ok.frf⟩
section
variable{X:Cx}{aa:List (Addr×Obj)}{σ:St}{H:Hp}{s:Shared}{E:Value->Shared->Prop}
theorem Inv.wish(I:Inv X aa σ H s)(E:Value->Shared->Prop):Inv (X.wish E) aa σ H s:=⟨I.ok.wish E,I.os,I.bare,I.ab,I.loc,I.cell,I.free,I.freeC,I.pin,I.hok,I.len⟩
theorem Inv.unwish(I:Inv (X.wish E) aa σ H s):Inv X aa σ H s:=⟨I.ok.unwish,I.os,I.bare,I.ab,I.loc,I.cell,I.free,I.freeC,I.pin,I.hok,I.len⟩
theorem SP.unwish{D:Ends}{f:Flow}{s':Shared}(h:SP (X.wish E) aa D f s'):SP X aa D f s':=by cases f with|next=>obtain⟨σ',H',I,q⟩:=h;exact⟨σ',H',I.unwish,q⟩|brk=>obtain⟨σ',H',I,q⟩:=h;exact⟨σ',H',I.unwish,q⟩|cont=>obtain⟨σ',H',I,q⟩:=h;exact⟨σ',H',I.unwish,q⟩|ret u=>obtain⟨v,σ',H',I,r,q⟩:=h;exact⟨v,σ',H',I.unwish,r,q⟩
theorem PE.nox{e:Expr}{t:TE}(h:PE X.nox e t):PE X e t:=λaa s σ H Q I hw=>wpAny_mono (h aa s σ H Q (I.wish _) hw) (λ_ _⟨v,H',I',r,q⟩=>⟨v,H',I'.unwish,r,q⟩) λ_ _ z=>False.elim z
theorem PT.nox{e:Expr}{t:TT}(h:PT X.nox e t):PT X e t:=λaa s σ H Q I hw=>wpAny_mono (h aa s σ H Q (I.wish _) hw) (λ_ _⟨H',I',q⟩=>⟨H',I'.unwish,q⟩) λ_ _ z=>False.elim z
theorem PSs.nox{st:List Stmt}{t:TS}(h:PSs X.nox st t):PSs X st t:=λaa s σ H D I hw=>wpAny_mono (h aa s σ H D (I.wish _) hw) (λ_ _ q=>q.unwish) λ_ _ z=>False.elim z
end
section
variable{X:Cx}{st:Stmt}{J7:List Stmt}{t u:TS}{e:Expr}{te:TE}{pos:Pos}
def QiA:TS:=λD σ H=>D.nx σ H
noncomputable def MY(t u:TS):TS:=λD σ H=>t {D with nx:=u D} σ H
def Cd:PSs X [] QiA:=λ_ _ σ H _ I h=>wpAny_execs_nil ⟨σ,H,I,h⟩
def Tp(h1:PS X st t)(h2:PSs X J7 u):PSs X (st::J7) (MY t u):=by intro aa s σ H D I h;refine wpAny_execs_cons (QW (h1 aa s σ H {D with nx:=u D} I h) λf s1 q=>?_);cases f with|next=>obtain⟨σ',H',I',q⟩:=q;exact h2 aa s1 σ' H' D I' q|ret v=>exact q|brk=>exact q|cont=>exact q
def Sl(h1:PS X st t):PSs X [st] t:=by intro aa s σ H D I h;refine wpAny_execs_cons (QW (h1 aa s σ H D I h) λf s1 q=>?_);cases f with|next=>exact wpAny_execs_nil q|ret v=>exact q|brk=>exact q|cont=>exact q
def Qit:TS:=λD σ H=>D.ct σ H
def Qhj:PS X (.Continue pos) Qit:=λ_ _ σ H _ I h=>wpAny_Continue ⟨σ,H,I,h⟩
def Inv.quiet{aa:List (Addr×Obj)}{σ:St}{H:Hp}{s:Shared}(I:Inv X aa σ H s):interactive X.env=false:=by simp[interactive,I.ok.kind]
noncomputable def R7(te:TE):TS:=λD σ H=>te σ H λ_ H1=>D.nx σ H1
def WQ(he:PE X e te)(hs:swapsWith e none pos.line X.env=pure false:=by rfl):PS X (.Expr e pos) (R7 te):=by intro aa s σ H D I h;exact wpAny_Expr_any (QW (he aa s σ H _ I h) λv s1⟨x,H1,I1,r1,q1⟩=>⟨σ,H1,I1,q1⟩) I.quiet hs
noncomputable def AH(te:TE):TS:=λD σ H=>te σ H D.rt
def Cc(he:PE X e te):PS X (.Return (some e) pos) (AH te):=by intro aa s σ H D I h;exact wpAny_Return_some (QW (he aa s σ H _ I h) λv s1⟨x,H1,I1,r1,q1⟩=>⟨x,σ,H1,I1,r1,q1⟩)
def AE(c:TT)(t u:TS):TS:=λD σ H=>c σ H λb H1=>if b=true then t D σ H1 else u D σ H1
def Il{c:Expr}{a b:List Stmt}{tc:TT}(hc:PT X c tc)(ha:PSs X a t)(hb:PSs X b u):PS X (.If c a b pos) (AE tc t u):=by intro aa s σ H D I h;refine wpAny_If (QW (hc aa s σ H _ I h) λd s1⟨H1,I1,q1⟩=>?_);cases d with|true=>exact ha aa s1 σ H1 D I1 q1|false=>exact hb aa s1 σ H1 D I1 q1
end
noncomputable abbrev TG:=V->St->Hp->(St->Hp->Prop)->Prop
noncomputable abbrev Xz:=List V->St->Hp->(St->Hp->Prop)->Prop
def PG(X:Cx)(target:Expr)(t:TG):Prop:=∀(aa:List (Addr×Obj))(s:Shared)(σ:St)(H:Hp)(v:V)(u:Value)(Q:St->Hp->Prop),Inv X aa σ H s->RelV v u->t v σ H Q->wpAny (model X.prog X.w) X.A (assign target X.env u) (λ_ s'=>∃σ' H',Inv X aa σ' H' s'/\Q σ' H') X.xe s
def PGs(X:Cx)(ts:List Expr)(t:Xz):Prop:=∀(aa:List (Addr×Obj))(s:Shared)(σ:St)(H:Hp)(vs:List V)(us:List Value)(Q:St->Hp->Prop),Inv X aa σ H s->Vals vs us->t vs σ H Q->wpAny (model X.prog X.w) X.A (assignInOrder ((assignEach ts X.env).map (·.2)) us) (λ_ s'=>∃σ' H',Inv X aa σ' H' s'/\Q σ' H') X.xe s
noncomputable abbrev LG:=V->V->V->Hp->(Hp->Prop)->Prop
def Gz(X:Cx)(t:LG):Prop:=∀(aa:List (Addr×Obj))(s:Shared)(σ:St)(H:Hp)(o i v:V)(ov iv u:Value)(Q:Hp->Prop),Inv X aa σ H s->RelV o ov->RelV i iv->RelV v u->t o i v H Q->wpAny (model X.prog X.w) X.A (setItem ov iv u) (λ_ s'=>∃H',Inv X aa σ H' s'/\Q H') X.xe s
abbrev LF:=V->V->Hp->VK->Prop
def OF(X:Cx)(op:Operator)(t:LF):Prop:=∀(aa:List (Addr×Obj))(s:Shared)(σ:St)(H:Hp)(x y:V)(v u:Value)(Q:VK),Inv X aa σ H s->RelV x v->RelV y u->t x y H Q->wpAny (model X.prog X.w) X.A (inplaceOp op v u) (EP X aa σ Q) X.xe s
section
variable{X:Cx}{pos:Pos}
def P2(i:Nat):TG:=λv σ H Q=>Q (σ.set i (some v)) H
def Qg0{i:Nat}{x:Str}(hN:X.N.Nodup)(hi:X.N[i]?=some x)(hx:XU X.env.scope x)(hf:X.fn x=true\/X.env.scope.names.lookup x=some .local:=by first|exact .inl rfl|exact .inr rfl|assumption):PG X (.Name x pos) (P2 i):=by intro aa s σ H v u Q I r h;exact wpAny_assign_Name (Hh I hN hi hx r (λs' I'=>⟨_,H,I',h⟩) hf)
def Qdk:Xz:=λvs σ H Q=>vs=[]/\Q σ H
def Qdj(t:TG)(u:Xz):Xz:=λvs σ H Q=>∃v r,vs=v::r/\t v σ H λσ' H'=>u r σ' H' Q
def Qg4:PGs X [] Qdk:=by intro aa s σ H vs us Q I r h;obtain⟨e,h⟩:=h;subst e;cases r;exact assignInOrder_nil ⟨σ,H,I,h⟩
def Qg3{e:Expr}{es:List Expr}{t:TG}{u:Xz}(h1:PG X e t)(h2:PGs X es u)(hs:(assignEach (e::es) X.env).map (·.2)=assign e X.env::(assignEach es X.env).map (·.2):=by rfl):PGs X (e::es) (Qdj t u):=by intro aa s σ H vs us Q I r h;obtain⟨v,vr,e1,h⟩:=h;subst e1;cases r with|cons r rr=>rw[hs];refine assignInOrder_cons (QW (h1 aa s σ H _ _ _ I r h) λ_ s1⟨σ1,H1,I1,q1⟩=>?_);exact h2 aa s1 σ1 H1 _ _ Q I1 rr q1
def Qdn(K:W.Frag)(n:Nat)(t:Xz):TG:=λv σ H Q=>∃a xs,v=.ref a/\SqT K H a xs/\xs.length=n/\t xs σ H Q
def Qg2{es:List Expr}{k:Nat}{t:Xz}{n:Nat}(hc:X.calm=true)(h:PGs X es t)(hn:(assignEach es X.env).length=n:=by rfl)(cH:(assignEach es X.env).findIdx? (·.1)=none:=by rfl):PG X (.Tuple es k pos) (Qdn X.K n t):=by intro aa s σ H v u Q I r hw;obtain⟨a,xs,e1,hq,hl,hw⟩:=hw;subst e1;cases r;obtain⟨its,rv,ht,hz⟩:=I.tuple hq;refine assign_Tuple_tuple (I.ok.hd hc) ht (by simp[hn,<-hl,rv.length]) cH λh' hx=>?_;have I1:Inv X aa σ H {s with heap:=h'}:=I.kept (t':=s.toks) λb o e=>hx b o (Y9 (Heap.lt_size e)) e;exact h aa _ σ H xs _ Q I1 (by simpa using rv) hw
def Ey(to ti:TE)(t:LG):TG:=λv σ H Q=>to σ H λo H1=>ti σ H1 λi H2=>t o i v H2 λH3=>Q σ H3
def Qg1{o i:Expr}{to ti:TE}{t:LG}(ho:PE X o to)(hi:PE X i ti)(hs:Gz X t)(ha:∀v,assign (.Subscript o i pos) X.env v=(do
   let ov<-holding [v] (eval o X.env)let iv<-holding [v,ov] (eval i X.env)standAt pos
   holding [v,ov,iv] (setItem ov iv v)release [v,ov,iv] []):=by intro _;rfl):PG X (.Subscript o i pos) (Ey to ti t):=by
 intro aa s σ H v u Q I r h;rw[ha];refine wpAny_bind (wpAny_holding (QW (ho aa s σ H _ I h) λov s1⟨x,H1,I1,r1,q1⟩=>?_));refine wpAny_bind (wpAny_holding (QW (hi aa s1 σ H1 _ I1 q1) λiv s2⟨y,H2,I2,r2,q2⟩=>?_));refine wpAny_bind (wpAny_standAt (wpAny_bind (wpAny_holding (QW (hs aa s2 σ H2 x y v ov iv u _ I2 r1 r2 r q2) λ_ s3⟨H3,I3,q3⟩=>?_))));exact wpAny_release ⟨σ,H3,I3,q3⟩
def R5(te:TE)(g:TG):TS:=λD σ H=>te σ H λx H1=>g x σ H1 D.nx
def Ca{tg e:Expr}{te:TE}{g:TG}(he:PE X e te)(hg:PG X tg g)(hs:swapsWithSole [tg] e pos.line X.env=pure false:=by rfl)(hw:swappedStores [tg] e X.env=pure none:=by rfl)(h1:(assignEach [tg] X.env).map (·.2)=[assign tg X.env]:=by rfl):PS X (.Assign [tg] e pos) (R5 te g):=by intro aa s σ H D I h;refine wpAny_Assign_stores (QW (he aa s σ H _ I h) λv s1⟨x,H1,I1,r1,q1⟩=>?_) hs hw;rw[h1];exact QW (hg aa s1 σ H1 x v _ I1 r1 q1) λ_ s2 q=>q
def MF{i:Nat}{x:Str}{e:Expr}{te:TE}{pos':Pos}(hN:X.N.Nodup)(hi:X.N[i]?=some x)(hx:XU X.env.scope x)(he:PE X e te)(hs:swapsWith e (some (.Name x pos')) pos.line X.env=pure false:=by rfl)(hf:X.fn x=true\/X.env.scope.names.lookup x=some .local:=by first|exact .inl rfl|exact .inr rfl|assumption):PS X (.Assign [.Name x pos'] e pos) (R5 te (P2 i)):=by intro aa s σ H D I h;refine wpAny_Assign_Name (QW (he aa s σ H _ I h) λv s1⟨y,H1,I1,r1,q1⟩=>?_) hs;exact Hh I1 hN hi hx r1 (λs2 I2=>⟨_,H1,I2,q1⟩) hf
noncomputable def Qir(i:Nat)(te:TE)(ti:LF):TS:=λD σ H=>∃x,σ[i]?=some (some x)/\te σ H λy H1=>ti x y H1 λz H2=>D.nx (σ.set i (some z)) H2
def Qhi{i:Nat}{x:Str}{e:Expr}{te:TE}{op:Operator}{ti:LF}{pos':Pos}(hN:X.N.Nodup)(hi:X.N[i]?=some x)(hx:XU X.env.scope x)(he:PE X e te)(ho:OF X op ti)(hf:X.fn x=true\/X.env.scope.names.lookup x=some .local:=by first|exact .inl rfl|exact .inr rfl|assumption):PS X (.AugAssign (.Name x pos') op e pos) (Qir i te ti):=by
 intro aa s σ H D I h;obtain⟨v,e1,h⟩:=h;obtain⟨m,hn,hl⟩:=I.loc;have j0:WK X.env.scope x:=by rcases hx with k|k;exact .inl k;exact .inr (.inl k)
 obtain⟨u,r,l⟩:=hl i x v hi e1 j0;refine wpAny_AugAssign_Name ?_;have go:wpAny (model X.prog X.w) X.A (eval e X.env) (λw s₂=>wpAny (model X.prog X.w) X.A (inplaceOp op u w) (λr s₃=>wpAny (model X.prog X.w) X.A (storeName X.env x r) (λ_=>SP X aa D .next) X.xe s₃) X.xe s₂) X.xe s:=by
  refine QW (he aa s σ H _ I h) λw s1⟨y,H1,I1,r1,q1⟩=>?_;refine QW (ho aa s1 σ H1 v y u w _ I1 r r1 q1) λz s2⟨zv,H2,I2,r2,q2⟩=>?_;exact Hh I2 hN hi hx r2 (λs3 I3=>⟨_,H2,I3,q2⟩) hf
 rcases l with⟨hk,hm⟩|⟨hk,c,hc,cm⟩;·exact wpAny_loadName_local I.ok.kind hk hn hm go
 ·rcases hk with hk|hk;·exact wpAny_loadName_cell I.ok.kind hk hc cm go
  ·rcases hx with k|k;·have:X.env.scope.names.lookup x=some .free:=hk;rw[k]at this;cases this
   ·have:X.env.scope.names.lookup x=some .free:=hk;rw[k]at this;cases this
end
section
variable{X:Cx}{pos:Pos}
def QiI(c:TT)(tb:TS):TS:=λD σ H=>∃W:Nat->St->Hp->Prop,(∃m,W m σ H)/\∀m σ H,W m σ H->c σ H λb H1=>if b=true then∃N:St->Hp->Prop,(∀σ' H',N σ' H'->∃m',m'<m/\W m' σ' H')/\tb {D with nx:=N,ct:=N,bk:=D.nx} σ H1 else D.nx σ H1
def Qhl{c:Expr}{body:List Stmt}{tc:TT}{tb:TS}(hp:PassesOwn (model X.prog X.w) X.A X.env X.xe)(hc:PT X c tc)(hb:PSs X body tb):PS X (.While c body [] pos) (QiI tc tb):=by
 intro aa s σ H D I h;obtain⟨W,⟨m0,w0⟩,turn⟩:=h;refine wpAny_While (codeAny_whileLoop (λn s'=>∃σ' H',Inv X aa σ' H' s'/\W n σ' H') ?_ m0 ⟨σ,H,I,w0⟩);rintro n s1⟨σ1,H1,I1,w1⟩;refine wpAny_passesOwn hp (QW (hc aa s1 σ1 H1 _ I1 (turn n σ1 H1 w1)) λb s2⟨H2,I2,q2⟩=>?_);cases b with
 |true=>
  obtain⟨N,hN,q2⟩:=q2;rw[if_pos rfl];refine wpAny_passesOwn hp (QW (hb aa s2 σ1 H2 _ I2 q2) λf s3 q3=>?_);cases f with
  |next=>
   obtain⟨σ3,H3,I3,n3⟩:=q3;obtain⟨m',hm,w3⟩:=hN σ3 H3 n3;exact⟨m',hm,σ3,H3,I3,w3⟩|cont=>
   obtain⟨σ3,H3,I3,n3⟩:=q3;obtain⟨m',hm,w3⟩:=hN σ3 H3 n3;exact⟨m',hm,σ3,H3,I3,w3⟩|brk=>exact q3|ret v=>exact q3
 |false=>rw[if_neg WR];exact wpAny_execs_nil ⟨σ1,H2,I2,q2⟩
end
structure It where
 go:Nat->Hp->Prop
 yld:Nat->Hp->V->Hp->Prop
 stop:Nat->Hp->Prop
def WG(X:Cx)(aa:List (Addr×Obj))(H:Hp)(b:Addr):Prop:=H b=none/\b≠X.env.locals/\b∉X.fs/\(b∈X.ex\/X.s₀.heap.objs.size<=b)/\(∀x c,X.env.cells.lookup x=some c->c≠b)/\∀p∈X.pn++aa,p.1≠b
def Inv.fpOk{X:Cx}{aa:List (Addr×Obj)}{σ:St}{H H':Hp}{s:Shared}{b:Addr}(I:Inv X aa σ H s)(hb:s.heap.objs.size<=b)(hn:H' b=none):WG X aa H' b:=by
 refine⟨hn,ne_of_gt (Vh I.lt hb),I.nofs hb,.inr (Zk I.sz hb),λx c e z=>?_,λp hp z=>?_⟩
 ·obtain⟨v,q⟩:=I.cell x c e;exact absurd (Vh q.lt (by rw[z];exact hb)) (lt_irrefl _)
 ·exact absurd (Vh (Heap.lt_size (I.pin p hp).1) (by rw[z];exact hb)) (lt_irrefl _)
structure Turn(P:Program)(w:World)(K:W.Frag)(tg:Expr)(J:It)(fp:List Addr)(it:Addr)(tn:Nat->Heap->Prop):Prop where
 mem:it∈fp
 obj:∀i h,tn i h->∀b∈fp,∃o,h.get? b=some o/\∀v,o.data≠.cell v
 keep:∀i h h',tn i h->(∀b∈fp,∀o,h.get? b=some o->h'.get? b=some o)->tn i h'
 item:∀(X:Cx),X.prog=P->X.w=w->X.K=K->X.calm=true->∀(i:Nat)(aa:List (Addr×Obj))(s:Shared)(σ:St)(H:Hp)(E:Value->Shared->Prop),Inv X aa σ H s->(∀b∈fp,WG X aa H b)->tn i s.heap->J.go i H->wpAny (model P w) X.A (pyNext (.ref it)) (λr s1=>∃u,r=some u/\wpAny (model P w) X.A (letOwnedTupleGo tg (.ref it) u) (λ_ s2=>∃x H',Inv X aa σ H' s2/\RelV x u/\J.yld i H x H'/\tn (i+1) s2.heap/\∀b∈fp,H' b=none) E s1) E s
 done:∀(X:Cx),X.prog=P->X.w=w->X.K=K->X.calm=true->∀(i:Nat)(aa:List (Addr×Obj))(s:Shared)(σ:St)(H:Hp)(E:Value->Shared->Prop),Inv X aa σ H s->(∀b∈fp,WG X aa H b)->tn i s.heap->J.stop i H->wpAny (model P w) X.A (pyNext (.ref it)) (λr s1=>r=none/\Inv X aa σ H s1) E s
 self:∀(A:Around)(i:Nat)(s:Shared)(Q:Value->Shared->Prop)(E:Value->Shared->Prop),tn i s.heap->Q (.ref it) s->wpAny (model P w) A (pyIter (.ref it)) Q E s
abbrev TI:=St->Hp->(It->Hp->Prop)->Prop
def LA(X:Cx)(aa:List (Addr×Obj))(σ:St)(tg:Expr)(R:It->Hp->Prop)(gZ:Value)(s2:Shared):Prop:=∃(it:Addr)(fp:List Addr)(tn:Nat->Heap->Prop)(J:It)(H':Hp),gZ=.ref it/\Inv X aa σ H' s2/\Turn X.prog X.w X.K tg J fp it tn/\tn 0 s2.heap/\(∀b∈fp,WG X aa H' b)/\R J H'
def PI(X:Cx)(tg iter:Expr)(wi:TI):Prop:=∀(aa:List (Addr×Obj))(s:Shared)(σ:St)(H:Hp)(R:It->Hp->Prop),Inv X aa σ H s->wi σ H R->wpAny (model X.prog X.w) X.A (eval iter X.env) (λv s1=>wpAny (model X.prog X.w) X.A (pyIter v) (LA X aa σ tg R) X.xe s1) X.xe s
def Ky{M:Model}{A:Around}{E:Value->Shared->Prop}{s:Shared}{tg:Expr}{it:Addr}{u:Value}{o:Obj}{n:String}{vs:Array Value}{Q:Unit->Shared->Prop}(ho:s.heap.get? it=some o)(hc:o.cls=.type n)(hd:o.data=.fields vs)(hn:["enumerate","zip","dict_itemiterator","dict_reverseitemiterator","odict_iterator","itertools.zip_longest","itertools.pairwise"].contains n=false)(hQ:Q () s):wpAny M A (letOwnedTupleGo tg (.ref it) u) Q E s:=by unfold letOwnedTupleGo;cases tg<;>first|exact wpAny_pure hQ|(cases u<;>first|exact wpAny_pure hQ|(refine wpAny_bind (wpAny_load ho ?_);rw[hc,hd];show wpAny M A (if(["enumerate","zip","dict_itemiterator","dict_reverseitemiterator","odict_iterator","itertools.zip_longest","itertools.pairwise"].contains n&&vs[0]?==some (rawInt _))=true then _ else _) Q E s;rw[if_neg (by intro h;rw[hn,Bool.false_and]at h;cases h)];exact wpAny_pure hQ))
def OC(K:W.Frag)(a:Addr):It:=⟨λi H=>∃xs x,SqL K H a xs/\xs[i]?=some x,λi H x H'=>H'=H/\∀xs,SqL K H a xs->xs[i]?=some x,λi H=>∃xs,SqL K H a xs/\xs.length<=i⟩
noncomputable def L3(lo:Int)(n:Nat):It:=⟨λi _=>i<n,λi H x H'=>H'=H/\x=.int (lo+i),λi _=>n<=i⟩
def QiW{P:Program}{w:World}{K:W.Frag}{tg:Expr}(a it:Addr):Turn P w K tg (OC K a) [it] it (λi h=>h.IsListIter it a i)where
 mem:=by simp
 obj:=λi h st b hb=>by
  have e:b=it:=by simpa using hb
  subst e;obtain⟨o,e,c,d⟩:=st;exact⟨o,e,λv z=>by rw[d]at z;cases z⟩
 keep:=λi h h' st k=>st.at λo e=>k it (by simp) o e
 item:=by
  intro X hP hw hK hc i aa s σ H E I hf st hg;subst hP hw hK;obtain⟨xs,x,hq,hx⟩:=hg;obtain⟨its,rv,p,hz⟩:=I.list hq;obtain⟨u,hu,ru⟩:=rv.get hx;obtain⟨f0,f1,f2,f3,f4,f5⟩:=hf it (by simp);refine wpAny_pyNext_list_item st p.isList (x:=u) (by simpa using hu) λh' bX sb=>?_;have I1:Inv X aa σ H {s with heap:=h'}:=I.turned (t':=s.toks) (λb o hb e=>(sb.2 b hb).trans e) f0 f1 f3 f4 f5;obtain⟨o,e,c,d⟩:=id bX;exact⟨u,rfl,Ky (s:={s with heap:=h'}) e c d (by decide) ⟨x,H,I1,ru,⟨rfl,λys hy=>by rw[I.list_inj hy hq];exact hx⟩,bX,λb hb=>(hf b hb).1⟩⟩
 done:=by
  intro X hP hw hK hc i aa s σ H E I hf st hg;subst hP hw hK;obtain⟨xs,hq,hx⟩:=hg;obtain⟨its,rv,p,hz⟩:=I.list hq;obtain⟨f0,f1,f2,f3,f4,f5⟩:=hf it (by simp);have hl:=rv.length;exact wpAny_pyNext_list_end (I.ok.hd hc) st p.isList (by simp;omega) λh' eb=>⟨rfl,I.turned (t':=s.toks) (λb o hb e=>eb b o hb e) f0 f1 f3 f4 f5⟩
 self:=λ_ _ _ _ _ st h=>wpAny_pyIter_listiter st h
def QiX{P:Program}{w:World}{K:W.Frag}{tg:Expr}(it:Addr)(lo:Int)(n:Nat):Turn P w K tg (L3 lo n) [it] it (λi h=>IsRangeIter h it (lo+(i:Nat)*1) ((n:Int)-(i:Nat)) 1)where
 mem:=by simp
 obj:=λi h st b hb=>by
  have e:b=it:=by simpa using hb
  subst e;exact⟨_,st,λv z=>by have z':Data.fields _=Data.cell v:=z;cases z'⟩
 keep:=λi h h' st k=>k it (by simp) _ st
 item:=by
  intro X hP hw hK hc i aa s σ H E I hf st hg;subst hP hw hK;obtain⟨f0,f1,f2,f3,f4,f5⟩:=hf it (by simp);have W:=Walks.range (prog:=X.prog) (w:=X.w) (I.ok.hd hc) it lo 1 n;refine W.item i s _ _ hg st λv h' tk hv bX kk=>?_;obtain⟨t,rfl⟩:=hv;have I1:Inv X aa σ H {s with heap:=h',toks:=tk}:=I.turned (λb o hb e=>kk b o (by simpa using hb) e) f0 f1 f3 f4 f5;refine⟨_,rfl,Ky (s:={s with heap:=h',toks:=tk}) (n:="range_iterator") bX rfl rfl (by decide) ⟨.int (lo+i),H,I1,⟨t,?_⟩,⟨rfl,rfl⟩,bX,λb hb=>(hf b hb).1⟩⟩;rw[Int.mul_one]
 done:=by
  intro X hP hw hK hc i aa s σ H E I hf st hg;subst hP hw hK;obtain⟨f0,f1,f2,f3,f4,f5⟩:=hf it (by simp);exact wpAny_pyNext_range_end (I.ok.hd hc) st (by have:n<=i:=hg;omega) λh' eb=>⟨rfl,I.turned (t':=s.toks) (λb o hb e=>eb b o hb e) f0 f1 f3 f4 f5⟩
 self:=λ_ _ _ _ _ st h=>wpAny_pyIter_rangeiter st h
section
variable{X:Cx}{tg:Expr}
def QdA(K:W.Frag)(tl:TE):TI:=λσ H R=>tl σ H λx H1=>∃a,x=.ref a/\(∃xs,SqL K H1 a xs)/\R (OC K a) H1
def CT{l:Expr}{tl:TE}(hl:PE X l tl):PI X tg l (QdA X.K tl):=by
 intro aa s σ H R I h;refine QW (hl aa s σ H _ I h) λv s1⟨x,H1,I1,r1,q1⟩=>?_;obtain⟨a,e,⟨xs,hq⟩,q⟩:=q1;subst e;cases r1;obtain⟨its,rv,p,hz⟩:=I1.list hq;refine wpAny_pyIter_list p.isList ?_;refine⟨s1.heap.objs.size,[s1.heap.objs.size],_,_,H1,rfl,I1.kept (t':=s1.toks) λb o e=>Heap.get?_push_of_some _ e,QiW a _,⟨_,Heap.get?_push_size _ rfl,rfl,rfl⟩,λb hb=>?_,q⟩;have e:b=s1.heap.objs.size:=by simpa using hb
 subst e;exact I1.fpOk (Qz _) (I1.hok.fresh (Qz _))
def QhG{aa:List (Addr×Obj)}{σ:St}{H:Hp}{s:Shared}{R:It->Hp->Prop}{E:Value->Shared->Prop}{lo hi:Int}{t u v:Tok}{tk:Nat}(I:Inv X aa σ H s)(h1:-2^62<=lo)(h2:lo<2^62)(h3:-2^62<=hi)(h4:hi<2^62)(q:R (L3 lo (hi-lo).toNat) H):wpAny (model X.prog X.w) X.A (pyIter (.ref s.heap.objs.size)) (LA X aa σ tg R) E {s with heap:=s.heap.push {cls:=.type "range",data:=.fields #[.int lo t,.int hi u,.int 1 v]},toks:=tk}:=by
 refine wpAny_pyIter_range (IsRange.new ..) (small_one h1 h2 h3 h4) ? _;have I1:Inv X aa σ H {s with heap:=s.heap.push {cls:=.type "range",data:=.fields #[.int lo t,.int hi u,.int 1 v]},toks:=tk}:=I.kept λb o e=>Heap.get?_push_of_some _ e;refine⟨(s.heap.push {cls:=.type "range",data:=.fields #[.int lo t,.int hi u,.int 1 v]}).objs.size,[(s.heap.push {cls:=.type "range",data:=.fields #[.int lo t,.int hi u,.int 1 v]}).objs.size],_,_,H,rfl,I1.kept (t':=tk) λb o e=>Heap.get?_push_of_some _ e,QiX _ lo (hi-lo).toNat,? _,λb hb=>? _,q⟩
 ·have e1:lo+((0:Nat):Int)*1=lo:=by simp
  have e2:(((hi-lo).toNat:Nat):Int)-((0:Nat):Int)=Builtin.Range.rangeSize lo hi 1:=by rw[rangeSize_one];split<;>omega
  show IsRangeIter _ _ (lo+((0:Nat):Int)*1) ((((hi-lo).toNat:Nat):Int)-((0:Nat):Int)) 1;rw[e1,e2];exact Heap.get?_push_size _ rfl
 ·have e:b=(s.heap.push {cls:=.type "range",data:=.fields #[.int lo t,.int hi u,.int 1 v]}).objs.size:=by simpa using hb
  subst e;exact I1.fpOk (Qz _) (I1.hok.fresh (Qz _))
def QdB(ta:TA):TI:=λσ H R=>ta σ H λvs H1=>∃j:Int,vs=[.int j]/\-2^62<=j/\j<2^62/\R (L3 0 j.toNat) H1
def Qg6{a:Expr}{ta:TA}{p pos:Pos}(hg:Gl X "range")(hm:X.mg "range"=none)(ha:PA X [a] ta)(hs:starEach [a] X.env=[(false,eval a X.env)]:=by rfl):PI X tg (.Call (.Name "range" p) [a] [] pos) (QdB ta):=by intro aa s σ H R I h;refine Call_ (SX I hg hm boot_range (PyProof.Rows.callWith_type1 (QW (ha pos aa s σ H _ I h) λus s1⟨vs,H1,I1,r1,q1⟩=>?_) hs rfl));obtain⟨j,e,q1,q2,q⟩:=q1;subst e;cases r1 with|cons r rr=>cases rr;obtain⟨t,rfl⟩:=r;exact call_range_1 (QhG I1 (by omega) (by omega) q1 q2 (by simpa using q))
def Qiz(wi:TI)(g:TG)(tb:TS):TS:=λD σ H=>wi σ H λJ H1=>∃W:Nat->Nat->St->Hp->Prop,(∃m,W 0 m σ H1)/\∀i m σ H,W i m σ H->J.stop i H/\D.nx σ H\/J.go i H/\∃N:St->Hp->Prop,(∀σ' H',N σ' H'->∃m',m'<m/\W (i+1) m' σ' H')/\∀x H',J.yld i H x H'->g x σ H' λσ2 H2=>tb {D with nx:=N,ct:=N,bk:=D.nx} σ2 H2
noncomputable def Pw(fp:List Addr)(h:Heap):List (Addr×Obj):=fp.filterMap λb=>(h.get? b).map λo=>(b,o)
def NM{fp:List Addr}{h:Heap}{b:Addr}{o:Obj}(hb:b∈fp)(e:h.get? b=some o):(b,o)∈Pw fp h:=List.mem_filterMap.mpr ⟨b,hb,by rw[e];rfl⟩
def Qfc{fp:List Addr}{h:Heap}{p:Addr×Obj}(hp:p∈Pw fp h):p.1∈fp/\h.get? p.1=some p.2:=by obtain⟨b,hb,e⟩:=List.mem_filterMap.mp hp;cases q:h.get? b with|none=>rw[q]at e;cases e|some o=>rw[q]at e;have e':(b,o)=p:=Option.some.inj e;subst e';exact⟨hb,q⟩
def Inv.pinned{aa:List (Addr×Obj)}{σ:St}{H:Hp}{s:Shared}{fp:List Addr}(I:Inv X aa σ H s)(hf:∀b∈fp,WG X aa H b)(ho:∀b∈fp,∃o,s.heap.get? b=some o/\∀v,o.data≠.cell v):Inv X (aa++Pw fp s.heap) σ H s:=I.pins_of λp hp=>(q_7.mp hp).elim (λz=>I.pin p (YZ _ z)) λz=>by obtain⟨hb,e⟩:=Qfc z;obtain⟨f0,f1,f2,_⟩:=hf p.1 hb;obtain⟨o,e',d⟩:=ho p.1 hb;rw[e]at e';cases e';exact⟨e,f0,f1,f2,d⟩
def Inv.unpinned{aa pl:List (Addr×Obj)}{σ:St}{H:Hp}{s:Shared}(I:Inv X (aa++pl) σ H s):Inv X aa σ H s:=I.pins_of λp hp=>I.pin p (YZ _ (Vi _ hp))
def Cb{iter:Expr}{body:List Stmt}{wi:TI}{g:TG}{tb:TS}{pos:Pos}(hp:PassesOwn (model X.prog X.w) X.A X.env X.xe)(hc:X.calm=true)(hi:PI X tg iter wi)(hg:PG X tg g)(hb:PSs X body tb)(hs:∀x,foldedSetIterable iter X.env x=pure x:=by intro _;rfl):PS X (.For tg iter body [] pos) (Qiz wi g tb):=by
 intro aa s σ H D I h;refine wpAny_For (QW (hi aa s σ H _ I h) λv s1 h1=>QW h1 λgZ s2 h2=>?_) hs;obtain⟨it,fp,tn,J,H2,e,I2,T,dt,f2,W,⟨m0,w0⟩,turn⟩:=h2;subst e;have stat:∀{H':Hp},(∀b∈fp,H' b=none)->∀b∈fp,WG X aa H' b:=λhn b hb=>⟨hn b hb,(f2 b hb).2⟩;refine codeAny_forLoop_any (λn s'=>∃i σ' H',Inv X aa σ' H' s'/\tn i s'.heap/\(∀b∈fp,H' b=none)/\W i n σ' H') ?_ m0 ⟨0,σ,H2,I2,dt,λb hb=>(f2 b hb).1,w0⟩;rintro n s3⟨i,σ3,H3,I3,dS,fH,w3⟩;rcases turn i n σ3 H3 w3 with⟨stop,qn⟩|⟨go,N,hN,step⟩
 ·refine wpAny_passesOwn hp (QW (T.done X rfl rfl rfl hc i aa s3 σ3 H3 X.xe I3 (stat fH) dS stop) λr s4⟨hr,I4⟩=>?_);subst hr;exact wpAny_execs_nil ⟨σ3,H3,I4,qn⟩
 ·refine wpAny_passesOwn hp (QW (T.item X rfl rfl rfl hc i aa s3 σ3 H3 X.xe I3 (stat fH) dS go) λr s4⟨u,hr,h4⟩=>?_);subst hr;refine wpAny_passesOwn hp (QW h4 λ_ s5⟨x,H5,I5,r5,y5,dQ,iB⟩=>?_);have iJ:=I5.pinned (stat iB) (T.obj _ _ dQ);refine wpAny_passesOwn hp (QW (hg _ s5 σ3 H5 x u _ iJ r5 (step x H5 y5)) λ_ s6⟨σ6,H6,I6,q6⟩=>?_);refine wpAny_passesOwn hp (QW (hb _ s6 σ6 H6 _ I6 q6) λf s7 q7=>?_);have again:∀{σ7:St}{H7:Hp},Inv X (aa++Pw fp s5.heap) σ7 H7 s7->N σ7 H7->∃m,m<n/\∃i σ' H',Inv X aa σ' H' s7/\tn i s7.heap/\(∀b∈fp,H' b=none)/\W i m σ' H':=λ{σ7 H7}I7 n7=>by
   obtain⟨m',hm,w7⟩:=hN σ7 H7 n7;refine⟨m',hm,i+1,σ7,H7,I7.unpinned,T.keep _ _ _ dQ λb hb o e=>(I7.pin (b,o) (YZ _ (YZ _ (NM hb e)))).1,λb hb=>?_,w7⟩;obtain⟨o,e,d⟩:=T.obj _ _ dQ b hb;exact(I7.pin (b,o) (YZ _ (YZ _ (NM hb e)))).2.1
  cases f with
  |next=>obtain⟨σ7,H7,I7,n7⟩:=q7;exact again I7 n7|cont=>obtain⟨σ7,H7,I7,n7⟩:=q7;exact again I7 n7|brk=>obtain⟨σ7,H7,I7,q7⟩:=q7;exact⟨σ7,H7,I7.unpinned,q7⟩|ret v=>obtain⟨x7,σ7,H7,I7,r7,q7⟩:=q7;exact⟨x7,σ7,H7,I7.unpinned,r7,q7⟩
end
abbrev R2:=V->V->Hp->VK->Prop
def OpR(X:Cx)(f:Value->Value->Sem Value)(r:R2):Prop:=∀(aa:List (Addr×Obj))(s:Shared)(σ:St)(H:Hp)(x y:V)(v u:Value)(Q:VK),Inv X aa σ H s->RelV x v->RelV y u->r x y H Q->wpAny (model X.prog X.w) X.A (f v u) (EP X aa σ Q) X.xe s
def LH(X:Cx)(f:Value->Sem Value)(r:V->Hp->VK->Prop):Prop:=∀(aa:List (Addr×Obj))(s:Shared)(σ:St)(H:Hp)(x:V)(v:Value)(Q:VK),Inv X aa σ H s->RelV x v->r x H Q->wpAny (model X.prog X.w) X.A (f v) (EP X aa σ Q) X.xe s
def CallR(X:Cx)(f:Value)(r:List V->Hp->VK->Prop):Prop:=∀(aa:List (Addr×Obj))(s:Shared)(σ:St)(H:Hp)(xs:List V)(us:List Value)(Q:VK),Inv X aa σ H s->Vals xs us->r xs H Q->wpAny (model X.prog X.w) X.A (call f us) (EP X aa σ Q) X.xe s
noncomputable def X8(r:R2)(ta tb:TE):TE:=λσ H Q=>ta σ H λx H1=>tb σ H1 λy H2=>r x y H2 Q
noncomputable def AJ(r:V->Hp->VK->Prop)(ta:TE):TE:=λσ H Q=>ta σ H λx H1=>r x H1 Q
noncomputable def rI(C:Int->Int->Prop)(g:Int->Int->V):R2:=λx y H Q=>∃i j,x=.int i/\y=.int j/\C i j/\Q (g i j) H
noncomputable def YS(g:Int->Int->V):R2:=λx y H Q=>∃i j,x=.int i/\y=.int j/\Q (g i j) H
noncomputable def rU(g:Int->V):V->Hp->VK->Prop:=λx H Q=>∃i,x=.int i/\Q (g i) H
section
variable{X:Cx}{a b c:Expr}{ta tb tc:TE}{pos:Pos}
def Ka(ha:PE X a ta)(hb:PE X b tb){aa:List (Addr×Obj)}{s:Shared}{σ:St}{H:Hp}{R:V->V->Hp->Prop}(I:Inv X aa σ H s)(h:ta σ H λx H1=>tb σ H1 λy H2=>R x y H2){Q:Value->Shared->Prop}{f:Value->Value->Sem Value}(hf:∀v u s2 x y H2,Inv X aa σ H2 s2->RelV x v->RelV y u->R x y H2->wpAny (model X.prog X.w) X.A (f v u) Q X.xe s2):wpAny (model X.prog X.w) X.A (eval a X.env) (λv s₁=>wpAny (model X.prog X.w) X.A (eval b X.env) (λu s₂=>wpAny (model X.prog X.w) X.A (f v u) Q X.xe s₂) X.xe s₁) X.xe s:=by refine QW (ha aa s σ H _ I h) λv s1⟨x,H1,I1,r1,q1⟩=>?_;refine QW (hb aa s1 σ H1 _ I1 q1) λu s2⟨y,H2,I2,r2,q2⟩=>?_;exact hf v u s2 x y H2 I2 r1 r2 q2
def Ij{op:Operator}{r:R2}(ho:OpR X (binaryOp op) r)(ha:PE X a ta)(hb:PE X b tb):PE X (.BinOp a op b pos) (X8 r ta tb):=by intro aa s σ H Q I h;exact wpAny_BinOp (Ka ha hb I h λv u s2 x y H2 I2 rx ry q=>ho aa s2 σ H2 x y v u Q I2 rx ry q)
def Ik{op:UnaryOp}{r:V->Hp->VK->Prop}(ho:LH X (unaryOp op) r)(ha:PE X a ta):PE X (.UnaryOp op a pos) (AJ r ta):=by intro aa s σ H Q I h;exact UnaryOp_ (QW (ha aa s σ H _ I h) λv s1⟨x,H1,I1,r1,q1⟩=>ho aa s1 σ H1 x v Q I1 r1 q1)
def UQ{f:Value->Value->Sem Value}{C:Int->Int->Prop}{g:Int->Int->Int}(rule:∀(i j:Int)(t u:Tok)(s:Shared)(Q:Value->Shared->Prop)(E:Value->Shared->Prop),C i j->Q (.int (g i j) s.toks) {s with toks:=s.toks+1}->wpAny (model X.prog X.w) X.A (f (.int i t) (.int j u)) Q E s):OpR X f (rI C λi j=>.int (g i j)):=by intro aa s σ H x y v u Q I rx ry h;obtain⟨i,j,rfl,rfl,hc,q⟩:=h;obtain⟨t,rfl⟩:=rx;obtain⟨t',rfl⟩:=ry;exact rule i j t t' s _ _ hc ⟨.int (g i j),H,I.tok _,⟨_,rfl⟩,q⟩
def NW{f:Value->Value->Sem Value}{g:Int->Int->Int}(rule:∀(i j:Int)(t u:Tok)(s:Shared)(Q:Value->Shared->Prop)(E:Value->Shared->Prop),Q (.int (g i j) s.toks) {s with toks:=s.toks+1}->wpAny (model X.prog X.w) X.A (f (.int i t) (.int j u)) Q E s):OpR X f (YS λi j=>.int (g i j)):=by intro aa s σ H x y v u Q I rx ry h;obtain⟨i,j,rfl,rfl,q⟩:=h;obtain⟨t,rfl⟩:=rx;obtain⟨t',rfl⟩:=ry;exact rule i j t t' s _ _ ⟨.int (g i j),H,I.tok _,⟨_,rfl⟩,q⟩
def Ib{f:Value->Value->Sem Value}{g:Int->Int->Bool}(rule:∀(i j:Int)(t u:Tok)(s:Shared)(Q:Value->Shared->Prop)(E:Value->Shared->Prop),Q (.bool (g i j)) s->wpAny (model X.prog X.w) X.A (f (.int i t) (.int j u)) Q E s):OpR X f (YS λi j=>.bl (g i j)):=by intro aa s σ H x y v u Q I rx ry h;obtain⟨i,j,rfl,rfl,q⟩:=h;obtain⟨t,rfl⟩:=rx;obtain⟨t',rfl⟩:=ry;exact rule i j t t' s _ _ ⟨.bl (g i j),H,I,rfl,q⟩
def Mi(i j:Int):Prop:=0<j/\j<1073741824
def Mj(i j:Int):Prop:=0<=j/\j<=1000000/\i.natAbs<2^64
def CMul(i j:Int):Prop:=-2^64<i/\i<2^64\/-2^64<j/\j<2^64
def CMul.ok{i j:Int}(h:CMul i j):IntMulOk i j:=by
 rcases h with⟨h1,h2⟩|⟨h1,h2⟩;·exact .of_left (intBits_le_64 h1 h2)
 ·exact .of_right (intBits_le_64 h1 h2)
def Qgj:OpR X (binaryOp .Add) (YS λi j=>.int (i+j)):=NW λ_ _ _ _ _ _ _ q=>add_int q
def QgA:OpR X (binaryOp .Sub) (YS λi j=>.int (i-j)):=NW λ_ _ _ _ _ _ _ q=>sub_int q
def CJ:OpR X (binaryOp .Mult) (rI CMul λi j=>.int (i*j)):=UQ λ_ _ _ _ _ _ _ hc q=>mul_int q hc.ok
def Qgm:OpR X (binaryOp .FloorDiv) (rI Mi λi j=>.int (i/j)):=UQ λi j _ _ _ _ _ hc q=>by have h1:(0:Int)<j:=hc.1;have h2:j<1073741824:=hc.2;exact floordiv_int (by omega) (by rw[Int.fdiv_eq_ediv_of_nonneg i (by omega)];exact q) (.inl (PyProof.noPylong_small (by omega)))
def Qgt:OpR X (binaryOp .Mod) (rI (λ_ j=>0<j) λi j=>.int (i%j)):=UQ λi j _ _ _ _ _ hc q=>by have h1:(0:Int)<j:=hc;exact mod_int' (by omega) (by rw[Int.fmod_eq_emod_of_nonneg i (by omega)];exact q)
def Qgy:OpR X (binaryOp .Pow) (rI Mj λi j=>.int (i^j.toNat)):=UQ λ_ _ _ _ _ _ _ hc q=>pow_int_small hc.1 hc.2.1 hc.2.2 q
def QdI:OpR X (inplaceOp .Add) (YS λi j=>.int (i+j)):=NW λ_ _ _ _ _ _ _ q=>iadd_int q
def QdK:OpR X (inplaceOp .Sub) (YS λi j=>.int (i-j)):=NW λ_ _ _ _ _ _ _ q=>isub_int q
def unI{f:Value->Sem Value}{g:Int->Int}(rule:∀(i:Int)(t:Tok)(s:Shared)(Q:Value->Shared->Prop)(E:Value->Shared->Prop),Q (.int (g i) s.toks) {s with toks:=s.toks+1}->wpAny (model X.prog X.w) X.A (f (.int i t)) Q E s):LH X f (rU λi=>.int (g i)):=by intro aa s σ H x v Q I rx h;obtain⟨i,rfl,q⟩:=h;obtain⟨t,rfl⟩:=rx;exact rule i t s _ _ ⟨.int (g i),H,I.tok _,⟨_,rfl⟩,q⟩
def Hu:LH X (unaryOp .USub) (rU λi=>.int (-i)):=unI λ_ _ _ _ _ q=>neg_int q
end
section
variable{X:Cx}{a b c:Expr}{ta tb tc:TE}{pos:Pos}
def Qgs:OpR X (compareOp .Lt) (YS λi j=>.bl (decide (i<j))):=Ib λ_ _ _ _ _ _ _ q=>lt_int q
def Qgq:OpR X (compareOp .LtE) (YS λi j=>.bl (decide (i<=j))):=Ib λ_ _ _ _ _ _ _ q=>le_int q
def Qgn:OpR X (compareOp .Gt) (YS λi j=>.bl (decide (j<i))):=Ib λ_ _ _ _ _ _ _ q=>gt_int q
def OpR.or{f:Value->Value->Sem Value}{r r':R2}(h:OpR X f r)(h':OpR X f r'):OpR X f λx y H Q=>r x y H Q\/r' x y H Q:=by
 intro aa s σ H x y v u Q I rx ry q;rcases q with q|q;·exact h aa s σ H x y v u Q I rx ry q
 ·exact h' aa s σ H x y v u Q I rx ry q
def Zr(b:Expr){op:CmpOp}(h:op≠.In:=by decide)(h2:op≠.NotIn:=by decide):behindInMarks op b=false:=by
 have e1:(op==CmpOp.In)=false:=by cases op<;>first|rfl|exact absurd rfl h
 have e2:(op==CmpOp.NotIn)=false:=by cases op<;>first|rfl|exact absurd rfl h2
 cases b<;>simp[behindInMarks,e1,e2]
def QgP{op:CmpOp}{r:R2}(ho:OpR X (compareOp op) r)(ha:PE X a ta)(hb:PE X b tb)(hm:behindInMarks op b=false):PE X (.Compare a [op] [b] pos) (X8 r ta tb):=by intro aa s σ H Q I h;exact wpAny_Compare1 (Ka ha hb I h λv u s2 x y H2 I2 rx ry q=>ho aa s2 σ H2 x y v u Q I2 rx ry q) hm
def QiH(t:TE):TT:=λσ H Q=>t σ H λx H'=>∃k,x=.bl k/\Q k H'
def Qhn{op:CmpOp}{r:R2}(ho:OpR X (compareOp op) r)(ha:PE X a ta)(hb:PE X b tb)(hm:behindInMarks op b=false):PT X (.Compare a [op] [b] pos) (QiH (X8 r ta tb)):=by intro aa s σ H Q I h;refine wpAny_isTrue_Compare1 (QW (ha aa s σ H _ I h) λv s1⟨x,H1,I1,r1,q1⟩=>QW (hb aa s1 σ H1 _ I1 q1) λu s2⟨y,H2,I2,r2,q2⟩=>QW (ho aa s2 σ H2 x y v u _ I2 r1 r2 q2) λc s3⟨z,H3,I3,r3,k,e,q3⟩=>?_) hm;subst e;cases r3;exact wpAny_truthy_bool ⟨H3,I3,q3⟩
noncomputable def AD(r r':R2)(ta tb tc:TE):TE:=λσ H Q=>ta σ H λx H1=>tb σ H1 λy H2=>r x y H2 λz H3=>∃k,z=.bl k/\if k=true then tc σ H3 λw' H4=>r' y w' H4 Q else Q (.bl false) H3
def QgO{op dU:CmpOp}{r r':R2}(ho:OpR X (compareOp op) r)(ck:OpR X (compareOp dU) r')(ha:PE X a ta)(hb:PE X b tb)(hc:PE X c tc)(hm:lastMarks [op,dU] [b,c]=false:=by with_unfolding_all rfl):PE X (.Compare a [op,dU] [b,c] pos) (AD r r' ta tb tc):=by intro aa s σ H Q I h;refine Compare_chain (QW (ha aa s σ H _ I h) λv s1⟨x,H1,I1,r1,q1⟩=>chain_link (QW (hb aa s1 σ H1 _ I1 q1) λu s2⟨y,H2,I2,r2,q2⟩=>QW (ho aa s2 σ H2 x y v u _ I2 r1 r2 q2) λd s3⟨z,H3,I3,r3,k,e,q3⟩=>?_)) hm;subst e;cases r3;refine wpAny_truthy_bool ?_;cases k with|false=>exact ite_ff ⟨.bl false,H3,I3,rfl,q3⟩|true=>exact ite_tt (chain_last (QW (hc aa s3 σ H3 _ I3 q3) λw' s4⟨z',H4,I4,r4,q4⟩=>ck aa s4 σ H4 y z' u w' Q I4 r2 r4 q4))
def SY:(sizeLine:Nat)<2^63:=by rw[sizeLine_eq];decide
def Ic:OpR X (binaryOp .Add) λx y H Q=>∃i j,x=.str i/\y=.str j/\i.length+j.length<=sizeLine/\Q (.str (i++j)) H:=by intro aa s σ H x y v u Q I rx ry h;obtain⟨i,j,rfl,rfl,hz,q⟩:=h;obtain⟨t,rfl⟩:=rx;obtain⟨t',rfl⟩:=ry;exact add_str (λt' tk=>⟨.str (i++j),H,I.tok _,⟨_,rfl⟩,q⟩) hz
def QdJ:OpR X (inplaceOp .Add) λx y H Q=>∃i j,x=.str i/\y=.str j/\i.length+j.length<=sizeLine/\Q (.str (i++j)) H:=by intro aa s σ H x y v u Q I rx ry h;obtain⟨i,j,rfl,rfl,hz,q⟩:=h;obtain⟨t,rfl⟩:=rx;obtain⟨t',rfl⟩:=ry;exact iadd_str (λt' tk=>⟨.str (i++j),H,I.tok _,⟨_,rfl⟩,q⟩) hz
def Ub{x:V}{us:List Value}(r:Vals [x] us):∃u,us=[u]/\RelV x u:=by cases r with|cons r1 r2=>cases r2;exact⟨_,rfl,r1⟩
def Me{x y:V}{us:List Value}(r:Vals [x,y] us):∃u w',us=[u,w']/\RelV x u/\RelV y w':=by cases r with|cons r1 r2=>cases r2 with|cons r3 r4=>cases r4;exact⟨_,_,rfl,r1,r3⟩
def QaR(hc:X.calm=true):CallR X (.builtin "max") λxs H Q=>∃i j,xs=[.int i,.int j]/\Q (.int (if j>i then j else i)) H:=by
 intro aa s σ H xs us Q I r h;obtain⟨i,j,rfl,q⟩:=h;obtain⟨u,w',rfl,⟨t,rfl⟩,⟨t',rfl⟩⟩:=Me r;refine max_two_ints (I.ok.hd hc) λh' tk k=>⟨_,H,I.kept k,? _,q⟩;by_cases hj:j>i;·rw[if_pos hj,if_pos hj];exact⟨_,rfl⟩
 ·rw[if_neg hj,if_neg hj];exact⟨_,rfl⟩
def QaO:CallR X (.type "int") λxs H Q=>(∃i,xs=[.int i]/\Q (.int i) H)\/∃k,xs=[.bl k]/\Q (.int (if k then 1 else 0)) H:=by
 intro aa s σ H xs us Q I r h;rcases h with⟨i,rfl,q⟩|⟨k,rfl,q⟩;·obtain⟨u,rfl,t,rfl⟩:=Ub r;exact call_int_int ⟨.int i,H,I,⟨_,rfl⟩,q⟩
 ·obtain⟨u,rfl,r1⟩:=Ub r;cases r1;exact call_int_bool ⟨.int (if k then 1 else 0),H,I.tok _,⟨_,rfl⟩,q⟩
def QaT:CallR X (.type "str") λxs H Q=>∃i,xs=[.int i]/\i.natAbs.log2<1920/\Q (.str (toString i)) H:=by intro aa s σ H xs us Q I r h;obtain⟨i,rfl,hz,q⟩:=h;obtain⟨u,rfl,t,rfl⟩:=Ub r;exact PySem.P.str_of_int hz ⟨.str _,H,I.tok _,⟨_,rfl⟩,q⟩
end
structure ObjM(h:Heap)(x dx C:Addr)(mA:Str->Option Value):Prop where
 obj:h.get? x=some (W.instObj C dx)ns:h.Ns1 dx mA
 ne:dx≠x
def Qeu{h:Heap}{dx:Addr}{mA:Str->Option Value}(n:h.Ns1 dx mA):∃od,h.get? dx=some od/\∀name,W.lookIn name od=some (mA name):=by
 obtain⟨o,es,ep,ho,hd,hk,_,hm⟩:=n;refine⟨o,ho,λname=>?_⟩;have e:=hm name;unfold nsFind findBy at e;rw[<-Array.find?_toList]at e;unfold W.lookIn;rw[hd];dsimp only;split;·rename_i y q;rw[q]at e;exact congrArg some e
 ·rename_i q;rw[q]at e;have a:es.toList.any (·.refKey)=false:=by
   rw[List.any_eq_false];intro y hy;obtain⟨z,t,eg⟩:=hk y (Array.mem_toList_iff.mp hy);simp[DictEntry.refKey,eg]
  have a':¬es.toList.any (·.refKey)=true:=by rw[a];exact WR
  rw[if_neg a'];exact congrArg some e
def ObjM.look{h:Heap}{x dx C:Addr}{mA:Str->Option Value}(I:ObjM h x dx C mA):∃od,W.InstAt h x (W.instObj C dx) C (some od)/\∀name,W.lookIn name od=some (mA name):=let⟨od,ho,hl⟩:=Qeu I.ns
 ⟨od,⟨I.obj,rfl,rfl,ho⟩,hl⟩
def RelO.some_of{v:V}{o:Option Value}(r:RelO (some v) o):∃u,o=some u/\RelV v u:=by cases o with|none=>exact(show False from r).elim|some u=>exact⟨u,rfl,r⟩
section
variable{P:Program}{w:World}{H H':Hp}{h h':Heap}{a C dx:Addr}{fs iA:List (Str×V)}
def QdF(hok:HOk P w H h)(e:H a=some (.ins C dx fs)):∃mA,ObjM h a dx C mA/\(∀f,RelO (fs.lookup f) (mA f))/\PySem.Within mA (fs.map (·.1))/\fs.length<=1000/\H dx=some (.own a):=by obtain⟨d,z,ne,ob,mA,n,r,q⟩:=show ObjOk P w H h a (.ins C dx fs)from hok a _ e;exact⟨mA,⟨ob,n,ne⟩,r,q,z,d⟩
end
structure Cls(K:W.Frag)(C:Addr):Prop where
 pg:W.plainGet K C Str.empty=true
 hd:W.hasDictIn K C=true
 po:W.plainOver K C=true
 sa:W.findIn K (.ref C) "__setattr__"=some (some (.builtin "object.__setattr__"))
def Cls.get{K:W.Frag}{C:Addr}(c:Cls K C)(f:Str):W.plainGet K C f=true:=c.pg
section
variable{X:Cx}{aa:List (Addr×Obj)}{σ:St}{H:Hp}{s:Shared}{A:Around}{E:Value->Shared->Prop}{Q:Value->Shared->Prop}{c:Value}{b:Bool}
inductive TyOf(K:W.Frag)(H:Hp):V->Value->Prop where|non:TyOf K H .non (.type "NoneType")|bl(x:Bool):TyOf K H (.bl x) (.type "bool")|int(i:Int):TyOf K H (.int i) (.type "int")|str(x:Str):TyOf K H (.str x) (.type "str")|flt(x:UInt64):TyOf K H (.flt x) (.type "float")|lst{a:Addr}{xs:List V}(e:H a=some (.lst xs)):TyOf K H (.ref a) (.type "list")|frz{a:Addr}{o:Obj}{xs:List V}(e:H a=some (.frz o (.lst xs))):TyOf K H (.ref a) (.type "list")|tup{a:Addr}{xs:List V}(e:H a=some (.tup xs)):TyOf K H (.ref a) (.type "tuple")|dK{a:Addr}{ah:List (JA×V)}(e:H a=some (.dK ah)):TyOf K H (.ref a) (.type "dict")|dT{a:Addr}{ah:List (List JA×V)}(e:H a=some (.dT ah)):TyOf K H (.ref a) (.type "dict")|frzD{a:Addr}{o:Obj}{ah:List (JA×V)}(e:H a=some (.frz o (.dK ah))):TyOf K H (.ref a) (.type "dict")|ins{a C dx:Addr}{fs:List (Str×V)}(e:H a=some (.ins C dx fs))(cl:Cls K C)(ha:W.findIn K (.ref C) "__class__"=some (some (.builtin "object.__class__")))(hn:W.specialIn K (.builtin "object.__class__") "__get__"=some (some (.builtin "getset_descriptor.__get__")))(jy:W.takesIn K (.builtin "object.__class__")=some true)(hm:W.mroIn K C (.type "object")=some true):TyOf K H (.ref a) (.ref C)
def QdP{x:V}{u t:Value}(I:Inv X aa σ H s)(rx:RelV x u)(ty:TyOf X.K H x t)(e:W.kitOne X.K t c=some b)(h:∀tk,Q (.bool b) {s with toks:=tk}):wpAny (model X.prog X.w) A (call (.builtin "isinstance") [u,c]) Q E s:=by cases ty with|non=>cases(show u=Value.none from rx);exact W.kia_one W.kitx_none I.kIn True.intro e (λz=>nomatch z) h|bl y=>cases(show u=Value.bool y from rx);exact W.kia_one W.kitx_bool I.kIn True.intro e (λz=>nomatch z) h|int i=>obtain⟨t,q⟩:=(show∃t,u=Value.int i t from rx);cases q;exact W.kia_one W.kitx_int I.kIn True.intro e (λz=>nomatch z) h|str y=>obtain⟨t,q⟩:=(show∃t,u=Value.str y t from rx);cases q;exact W.kia_one W.kitx_str I.kIn True.intro e (λz=>nomatch z) h|flt y=>obtain⟨t,q⟩:=(show∃t,u=Value.float y t from rx);cases q;exact W.kia_one W.kitx_float I.kIn True.intro e (λz=>nomatch z) h|@lst a xs ea=>cases(show u=Value.ref a from rx);obtain⟨_,_,n,_,h1⟩:=(show ObjOk X.prog X.w H s.heap a (.lst xs)from I.hok a _ ea);exact W.kia_one W.kitx_list I.kIn ⟨_,h1,rfl⟩ e (λz=>nomatch z) h|@frz a ob xs ea=>cases(show u=Value.ref a from rx);obtain⟨_,_,_,n,_,h1⟩:=(show ObjOk X.prog X.w H s.heap a (.frz ob (.lst xs))from I.hok a _ ea);exact W.kia_one W.kitx_list I.kIn ⟨_,h1,rfl⟩ e (λz=>nomatch z) h|@tup a xs ea=>cases(show u=Value.ref a from rx);obtain⟨_,_,_,p⟩:=(show ObjOk X.prog X.w H s.heap a (.tup xs)from I.hok a _ ea);obtain⟨o,h1,h2,_⟩:=p;exact W.kia_one W.kitx_tuple I.kIn ⟨o,h1,h2⟩ e (λz=>nomatch z) h|@dK a ah ea=>cases(show u=Value.ref a from rx);obtain⟨_,_,vs,_,p⟩:=(show ObjOk X.prog X.w H s.heap a (.dK ah)from I.hok a _ ea);obtain⟨o,es,ep,h1,h2,_⟩:=p;exact W.kia_one W.kitx_dict I.kIn ⟨o,h1,h2.1⟩ e (λz=>nomatch z) h|@frzD a ob ah ea=>cases(show u=Value.ref a from rx);obtain⟨_,_,vs,_,p⟩:=(show ObjOk X.prog X.w H s.heap a (.frz ob (.dK ah))from I.hok a _ ea).2;obtain⟨o,es,ep,h1,h2,_⟩:=p;exact W.kia_one W.kitx_dict I.kIn ⟨o,h1,h2.1⟩ e (λz=>nomatch z) h|@dT a ah ea=>cases(show u=Value.ref a from rx);obtain⟨_,_,xs,_,o,es,ep,h1,h2,_⟩:=(show ObjOk X.prog X.w H s.heap a (.dT ah)from I.hok a _ ea);exact W.kia_one W.kitx_dict I.kIn ⟨o,h1,h2.1⟩ e (λz=>nomatch z) h|@ins a C dx fs ea cl ha hn jy hm=>cases(show u=Value.ref a from rx);obtain⟨mA,O,_⟩:=QdF I.hok ea;obtain⟨od,J,_⟩:=O.look;exact W.kia_one (W.kitx_own (cl.get _) cl.hd ha hn jy hm) I.kIn J e (λz=>nomatch z) h
end
structure Room(k:Nat)(A:Around):Prop where
 hd:A.handled=none
 dp:A.depth+3*k+5<recursionLimit
 un:A.units+16*k+200<cLine
def Room.mono{j k:Nat}{A:Around}(r:Room k A)(h:j<=k):Room j A:=⟨r.hd,by have:=r.dp;omega,by have:=r.un;omega⟩
theorem Room.deeper{k:Nat}{A:Around}(r:Room (k+1) A)(env:Env):Room k (A.deeper env):=⟨r.hd,by have:=r.dp;show A.depth+1+3*k+5<_;omega,by have:=r.un;show A.units+3+16*k+200<_;omega⟩
theorem Room.depth{k:Nat}{A:Around}(r:Room k A):A.depth<recursionLimit:=by have:=r.dp;omega
theorem Room.units{k:Nat}{A:Around}(r:Room k A):A.units+64<cLine:=by have:=r.un;omega
def Room.units0{k:Nat}{A:Around}(r:Room k A):A.units<cLine:=by have:=r.un;omega
def X7:TA:=λ_ H Q=>Q [] H
def WC(ta:TE)(tr:TA):TA:=λσ H Q=>ta σ H λx H1=>tr σ H1 λxs H2=>Q (x::xs) H2
section
variable{X:Cx}{e:Expr}{es:List Expr}{te:TE}{t:TA}{pos:Pos}
def Vw:PA X [] X7:=λ_ _ _ _ H Q I h=>Calls.spliced_nil ⟨[],H,I,.nil,h⟩
def ZJ(ha:PE X e te)(hr:PA X es t)(hs:starEach (e::es) X.env=(false,eval e X.env)::starEach es X.env:=by rfl):PA X (e::es) (WC te t):=by intro pos aa s σ H Q I h;rw[hs];show wpAny _ _ (spliced ((false,eval e X.env)::backTo pos (starEach es X.env))) _ _ s;refine Calls.spliced_cons (QW (ha aa s σ H _ I h) λu s1⟨x,H1,I1,r1,q1⟩=>?_);exact QW (hr pos aa s1 σ H1 _ I1 q1) λus s2⟨xs,H2,I2,r2,q2⟩=>⟨x::xs,H2,I2,.cons r1 r2,q2⟩
def AI(t:TA):TE:=λσ H Q=>t σ H λxs H1=>xs.length<=sizeLine/\∀p,H1 p=none->Q (.ref p) (upd H1 p (.tup xs))
def Ho(t:TA):TE:=λσ H Q=>t σ H λxs H1=>xs.length<=sizeLine/\∀p,H1 p=none->Q (.ref p) (upd H1 p (.lst xs))
def CQ{x1}(h:PA X es t):PE X (.Tuple es x1 pos) (AI t):=by intro aa s σ H Q I hq;refine wpAny_Tuple_spliced (QW (h pos aa s σ H _ I hq) λus s1⟨xs,H1,I1,r,z,q⟩=>⟨by rw[<-r.length];exact z,?_⟩);have hf:H1 s1.heap.objs.size=none:=I1.hok.fresh (Qz _);refine⟨.ref s1.heap.objs.size,upd H1 s1.heap.objs.size (.tup xs),I1.laid (t':=s1.toks) (λb u e=>Heap.get?_push_of_some _ e) (Qz _) ?_,rfl,q _ hf⟩;exact⟨z,us,r,⟨_,Heap.get?_push_size _ rfl,rfl,_,rfl⟩⟩
def MD(h:PA X es t):PE X (.List es pos) (Ho t):=by intro aa s σ H Q I hq;refine wpAny_List_spliced (QW (h pos aa s σ H _ I hq) λus s1⟨xs,H1,I1,r,z,q⟩=>⟨by rw[<-r.length];exact z,?_⟩);have hf:H1 s1.heap.objs.size=none:=I1.hok.fresh (Qz _);refine⟨.ref s1.heap.objs.size,upd H1 s1.heap.objs.size (.lst xs),I1.laid (t':=s1.toks) (λb u e=>Heap.get?_push_of_some _ e) (Qz _) ?_,rfl,q _ hf⟩;exact⟨z,us,0,r,Heap.get?_push_size _ rfl⟩
end
abbrev Sp:=List V->Hp->VK->XK->Prop
noncomputable abbrev XA:=List Env->Hp->Shared->XK->Value->Shared->Prop
structure Env0(P:Program)(w:World)(K:W.Frag)(mg:Str->Option Value)(ab:Heap)(A:Around)(ag:List Env)(s:Shared)(H:Hp):Prop where
 frames:A.frames=some ag
 mod:Mod K mg ab
 bs:∀b o,ab.get? b=some o->s.heap.get? b=some o/\H b=none
 bsz:ab.objs.size<=s.heap.objs.size
 funs:s.heap.FunFrames ab ag
 frf:∀b∈Wy ag,H b=none
 hok:HOk P w H s.heap
 bare:AllBare s.gens
def CE(ag:List Env)(P:Program)(w:World)(H:Hp)(s:Shared)(Q:VK)(u:Value)(s':Shared):Prop:=∃v H',s'.os=s.os/\AllBare s'.gens/\Un (Wy ag) [] H H' s.heap s'.heap/\HOk P w H' s'.heap/\RelV v u/\Q v H'
def CR(CX:XA)(ag:List Env)(P:Program)(w:World)(H:Hp)(s:Shared)(Q:VK)(E:XK)(r:Result)(s':Shared):Prop:=match r with|.ok (.ret u)=>CE ag P w H s Q u s'|.ok _=>False|.error e=>CX ag H s E e s'
structure FnOk(P:Program)(w:World)(K:W.Frag)(mg:Str->Option Value)(ab:Heap)(CX:XA)(k:Nat)(f:Addr)(fd:FuncData)(ps:List Str)(sp:Sp):Prop where
 len:∀vs H Q E,sp vs H Q E->vs.length=ps.length
 run:∀(A:Around)(ag:List Env)(s:Shared)(H:Hp)(args:Args)(us:List Value)(vs:List V)(Q:VK)(E:XK),Room k A->Env0 P w K mg ab A ag s H->BindsTo s fd args (ps.zip us)->Vals vs us->sp vs H Q E->codeAny (model P w) A (.call (.ref f) args) (CR CX ag P w H s Q E) s
section
variable{X:Cx}{aa:List (Addr×Obj)}{σ:St}{H:Hp}{s s':Shared}
def Inv.env0(I:Inv X aa σ H s):Env0 X.prog X.w X.K X.mg X.ab X.A X.stack s H:=⟨I.ok.frames,I.ok.mod,I.bs,Zk I.ok.bsz I.sz,I.stack,I.stkFree,I.hok,I.bare⟩
def Inv.after{Q:VK}{u:Value}(I:Inv X aa σ H s)(h:CE X.stack X.prog X.w H s Q u s'):EP X aa σ Q u s':=by obtain⟨v,H',os,bare,un,hok,r,q⟩:=h;obtain⟨hh,g,d,t,ke⟩:=s';obtain rfl:ke=s.os:=os;exact⟨v,H',I.call (h':=hh) (g':=g) (d':=d) (t':=t) (ch:=[]) un hok bare λb z=>absurd z (by simp),r,q⟩
end
def O6(sp:Sp)(dJ:List V)(E:XK)(t:TA):TE:=λσ H Q=>t σ H λvs H1=>sp (vs++dJ) H1 Q E
def Binds(K:W.Frag)(fd:FuncData)(ps:List Str)(ds:List Value):Prop:=∀(s:Shared)(us:List Value),K.In s.heap->(us++ds).length=ps.length->BindsTo s fd ⟨us,[]⟩ (ps.zip (us++ds))
def Binds.all{K:W.Frag}{fd:FuncData}{ps:List Str}(h:∀us:List Value,us.length=ps.length->bindArgs fd ⟨us,[]⟩=pure (ps.zip us)):Binds K fd ps []:=λs us _ hl=>by rw[Yx]at hl⊢;exact .of_eq (h us hl)
def LB(CX:XA)(X:Cx)(E:XK):Prop:=∀(aa:List (Addr×Obj))(σ:St)(H:Hp)(s:Shared)(e:Value)(s':Shared),Inv X aa σ H s->CX X.stack H s E e s'->X.xe e s'
section
variable{X:Cx}{CX:XA}{k:Nat}{f C:Addr}{fd:FuncData}{ps:List Str}{sp:Sp}{dJ:List V}{ds:List Value}{E:XK}{x m:Str}{p pos apos:Pos}{e o:Expr}{es:List Expr}{ta:TE}{t:TA}
def QhU{aa:List (Addr×Obj)}{σ:St}{H:Hp}{s:Shared}{Q:VK}{us:List Value}{vs:List V}(F:FnOk X.prog X.w X.K X.mg X.ab CX k f fd ps sp)(hr:Room k X.A)(hb:Binds X.K fd ps ds)(hd:Vals dJ ds)(hx:LB CX X E)(I:Inv X aa σ H s)(r:Vals vs us)(h:sp (vs++dJ) H Q E):wpAny (model X.prog X.w) X.A (call (.ref f) us) (EP X aa σ Q) X.xe s:=by
 have r2:Vals (vs++dJ) (us++ds):=r.append hd;have hl:(us++ds).length=ps.length:=by rw[<-r2.length];exact F.len _ _ _ _ h
 refine wpAny_call (codeAny_mono (F.run X.A X.stack s H ⟨us,[]⟩ (us++ds) (vs++dJ) Q E hr I.env0 (hb s us I.kIn hl) r2 h) λr s' hq=>?_);cases r with|error e=>exact hx aa σ H s e s' I hq|ok fl=>cases fl with|ret u=>exact I.after hq|next=>exact False.elim hq|brk=>exact False.elim hq|cont=>exact False.elim hq
def Ih(F:FnOk X.prog X.w X.K X.mg X.ab CX k f fd ps sp)(hr:Room k X.A)(hg:Gl X x)(hm:X.mg x=some (.ref f))(hk:W.keepIn X.K (.ref f)=true)(hb:Binds X.K fd ps ds)(hd:Vals dJ ds)(hx:LB CX X E)(ha:PA X (e::es) t)(cj:(x==("__debug__":Str))=false:=by decide)(he:starEach (e::es) X.env=(false,eval e X.env)::starEach es X.env:=by rfl)(cD:(backTo pos (starEach es X.env)).any (·.1)=false:=by rfl):PE X (.Call (.Name x p) (e::es) [] pos) (O6 sp dJ E t):=by intro aa s σ H Q I h;refine wpAny_Call_Name_kw (DU I hg hm ?_ cj);refine W.callWith_K (h₀:=X.ab) I.ok.mod.kin hk (QW (ha pos aa s σ H _ I h) λus s1⟨vs,H1,I1,r,q⟩=>⟨I1.kIn,?_⟩) he cD;exact QhU F hr hb hd hx I1 r q
end
structure FnScope(N P:List Str)(sc:Scope):Prop where
 kind:sc.kind=.function
 co:sc.isCoroutine=false
 gen:sc.isGenerator=false
 nd:N.Nodup
 pre:N.take P.length=P
 par:∀x∈P,sc.names.lookup x=some .local\/sc.names.lookup x=some .cell
 nofree:∀y∈sc.names,y.2≠.free
theorem FU{kindOf:Str->Option NameKind}{x:Str}:∀{binds:List (Str×Value)}{m:Str->Option Value},(∀v,(x,v)∉binds)->bindL kindOf binds m x=m x
 |[],_,_=>rfl|(n,v)::r,m,h=>by
  unfold bindL;rw[FU λw hw=>h w (JO _ hw)];split
  ·have:x≠n:=by rintro rfl;exact h v Ja
   simp[this]
  ·rfl
theorem FR{kindOf:Str->Option NameKind}{x:Str}:∀{binds:List (Str×Value)}{m:Str->Option Value},(∀v,(x,v)∉binds)->bindC kindOf binds m x=m x
 |[],_,_=>rfl|(n,v)::r,m,h=>by
  unfold bindC;rw[FR λw hw=>h w (JO _ hw)];split;·rfl
  ·have:x≠n:=by rintro rfl;exact h v Ja
   simp[this]
theorem FT{kindOf:Str->Option NameKind}{x:Str}{v:Value}:∀{P:List Str}{vs:List Value}{i:Nat}{m:Str->Option Value},P.Nodup->P[i]?=some x->vs[i]?=some v->kindOf x=some .local->bindL kindOf (P.zip vs) m x=some v|[],_,_,_,_,h,_,_=>by simp at h|_::_,[],_,_,_,_,h,_=>by simp at h|p::P,w::vs,0,m,nd,h1,h2,hk=>by simp at h1 h2;subst h1;subst h2;show bindL kindOf ((p,w)::P.zip vs) m p=_;unfold bindL;rw[FU λv hv=>(q_46.mp nd).1 (Xn hv).1,if_pos hk];simp|p::P,w::vs,i+1,m,nd,h1,h2,hk=>by show bindL kindOf ((p,w)::P.zip vs) m x=_;unfold bindL;exact FT (i:=i) (q_46.mp nd).2 (by simpa using h1) (by simpa using h2) hk
theorem FQ{kindOf:Str->Option NameKind}{x:Str}{v:Value}:∀{P:List Str}{vs:List Value}{i:Nat}{m:Str->Option Value},P.Nodup->P[i]?=some x->vs[i]?=some v->kindOf x≠some .local->bindC kindOf (P.zip vs) m x=some v|[],_,_,_,_,h,_,_=>by simp at h|_::_,[],_,_,_,_,h,_=>by simp at h|p::P,w::vs,0,m,nd,h1,h2,hk=>by simp at h1 h2;subst h1;subst h2;show bindC kindOf ((p,w)::P.zip vs) m p=_;unfold bindC;rw[FR λv hv=>(q_46.mp nd).1 (Xn hv).1,if_neg hk];simp|p::P,w::vs,i+1,m,nd,h1,h2,hk=>by show bindC kindOf ((p,w)::P.zip vs) m x=_;unfold bindC;exact FQ (i:=i) (q_46.mp nd).2 (by simpa using h1) (by simpa using h2) hk
noncomputable def Wl(N:List Str)(vs:List V):St:=vs.map some++List.replicate (N.length-vs.length) none
def Vb(CX:XA)(P:Program)(w:World)(K:W.Frag)(mg:Str->Option Value)(ab:Heap)(N:List Str)(qual:Str)(scope:Scope)(f:Addr)(cd:Value)(A:Around)(ag:List Env)(s:Shared)(H:Hp)(E:XK):Cx where
 prog:=P
 w:=w
 K:=K
 mg:=mg
 ab:=ab
 A:=A.deeper (envOfC qual scope s.heap.objs.size f cd)
 N:=N
 s₀:=s
 H₀:=H
 env:=envOfC qual scope s.heap.objs.size f cd
 ag:=ag
 stack:=envOfC qual scope s.heap.objs.size f cd::ag
 ex:=[]
 calm:=true
 fn:=λ_=>true
 pn:=[]
 xe:=λe s'=>wpAny (model P w) (A.deeper (envOfC qual scope s.heap.objs.size f cd)) (leaving (envOfC qual scope s.heap.objs.size f cd) e) (λ_ gb=>CX ag H s E e gb) (λe' gb=>CX ag H s E e' gb) s'
def Fh{sc:Scope}{n:Nat}{x:Str}(h:sc.names.lookup x=some .cell):∃c,(cellsFrom n sc.names []).lookup x=some c:=by have q:=W.cellsFrom_some sc.names n [] (.inl h);exact Option.isSome_iff_exists.mp q
def QdH{CX:XA}{P:Program}{w:World}{K:W.Frag}{mg:Str->Option Value}{ab:Heap}{N ps:List Str}{qual:Str}{scope:Scope}{f:Addr}{cd:Value}{A:Around}{ag:List Env}{s s1:Shared}{H:Hp}{E:XK}{us:List Value}{vs:List V}(S:FnScope N ps scope)(hd:A.handled=none)(e0:Env0 P w K mg ab A ag s H)(hl:vs.length=ps.length)(r:Vals vs us)(x:InCallC s s.heap.objs.size (bindL (envOfC qual scope s.heap.objs.size f cd).kindOf (ps.zip us) λ_=>none) (cellsFrom (s.heap.objs.size+1) scope.names []) (bindC (envOfC qual scope s.heap.objs.size f cd).kindOf (ps.zip us) λ_=>none) s1):Inv (Vb CX P w K mg ab N qual scope f cd A ag s H E) [] (Wl N vs) H s1:=by
 have cD:ps.length<=N.length:=by have:=congrArg List.length S.pre;rw[Yy]at this;omega
 obtain⟨h1,tk,rfl,hk⟩:=x.done;have fg:∀b:Addr,b∉(Vb CX P w K mg ab N qual scope f cd A ag s H E).ex:=λb z=>absurd (show b∈([]:List Addr)from z) (by simp);refine⟨⟨e0.mod,S.kind,rfl,rfl,Qz _,λy z c h1 h2=>?_,λy hy=>?_,λy c _ h=>?_,λ_=>hd,Around.frames_deeper e0.frames,.inr ⟨rfl,rfl⟩,λb z=>absurd z (fg b),e0.bs,e0.bsz,λb _ _=>fg b,λb z=>absurd z (fg b),e0.funs,e0.frf⟩,rfl,e0.bare,Un.kept hk,⟨_,x.toInCall.ns,λi y v h1 h2 h3=>?_⟩,λy c h=>⟨_,x.cell y c h⟩,e0.hok.fresh (Qz _),λy c h=>?_,λp hp=>absurd (show p∈([]:List (Addr×Obj))from hp) (by simp),e0.hok.kept hk,?_⟩;·exact name_of_addr x.apart (PySem.mem_of_lookup h1) (PySem.mem_of_lookup h2)
 ·have hy:scope.names.lookup y=some .cell\/scope.names.lookup y=some .free:=hy;rcases hy with hy|hy;·exact Fh hy
  ·exact absurd rfl (S.nofree _ (PySem.mem_of_lookup hy))
 ·exact le_of_lt (x.above y c (PySem.mem_of_lookup h))
 ·have hi:i<vs.length:=by
   unfold Wl at h2;by_cases hi:i<vs.length;·exact hi
   ·rw[Vx (by simpa using hi)]at h2;rw[Sq]at h2;split at h2<;>cases h2
  have ha:vs[i]?=some v:=by
   unfold Wl at h2;rw[YO (by simpa using hi),Yz]at h2;cases e:vs[i]? with
   |none=>rw[e]at h2;cases h2|some a=>rw[e]at h2;cases h2;rfl
  obtain⟨u,hu,rv⟩:=r.get ha;have hp:ps[i]?=some y:=by rw[<-S.pre,List.getElem?_take_of_lt (by omega)];exact h1
  have jr:ps.Nodup:=by rw[<-S.pre];exact S.nd.sublist (take_sublist _ _)
  refine⟨u,rv,?_⟩;rcases S.par y (VL hp)with k|k;·exact .inl ⟨k,FT jr hp hu k⟩
  ·obtain⟨c,e⟩:=Fh (n:=s.heap.objs.size+1) k;refine .inr ⟨.inl k,c,e,?_⟩;have q:=x.cell y c e;rw[FQ jr hp hu (by show scope.names.lookup y≠_;rw[k];decide)]at q;exact q
 ·exact e0.hok.fresh (le_of_lt (x.above y c (PySem.mem_of_lookup h)))
 ·unfold Wl;show _=N.length;rw[Qe,Qo,Pz];omega
def Qde{CX:XA}{P:Program}{w:World}{K:W.Frag}{mg:Str->Option Value}{ab:Heap}{k:Nat}{f:Addr}{name qual:Str}{params:Arguments}{body:List Stmt}{scope:Scope}{dV kV doc pm aA ct oc:Value}{an od:Option Addr}{cQ:Array (Option Value)}{N ps:List Str}{sp:Sp}(lk:K.lookup f=some ⟨oc,od,.func (W.fnOf name qual params body scope dV kV doc pm an aA ct),cQ⟩)(b5:W.codeIn K aA qual=true)(S:FnScope N ps scope)(len:∀vs H Q E,sp vs H Q E->vs.length=ps.length)(c7:∀(A:Around)(ag:List Env)(s:Shared)(H:Hp)(vs:List V)(Q:VK)(E:XK),Room k (A.deeper (envOfC qual scope s.heap.objs.size f aA))->sp vs H Q E->∃t,PSs (Vb CX P w K mg ab N qual scope f aA A ag s H E) body t/\t {nx:=λ_ H'=>Q .non H',rt:=Q} (Wl N vs) H):FnOk P w K mg ab CX (k+1) f (W.fnOf name qual params body scope dV kV doc pm an aA ct) ps sp:=by
 refine⟨len,λA ag s H args us vs Q E hr e0 hb r dA=>?_⟩;have hl:=len _ _ _ _ dA;have KX:K.In s.heap:=e0.mod.kin.keeps λb o e=>(e0.bs b o e).1;have lim:s.heap.NoLimit:=e0.mod.nolimit.keeps λb o e=>(e0.bs b o e).1;have fZ:∀y∈ps.zip us,scope.names.lookup y.1=some .local\/(scope.names.lookup y.1=some .cell/\((cellsFrom (s.heap.objs.size+1) scope.names []).lookup y.1).isSome=true):=λ⟨n,v⟩hy=>by
  rcases S.par n (Xn hy).1 with q|q;·exact .inl q
  ·exact .inr ⟨q,W.cellsFrom_some _ _ _ (.inl q)⟩
 refine codeAny_call_function hr.depth (KX _ _ lk) rfl S.co S.gen rfl (W.codeRec_of KX b5) (hb _ _ _ _ ?_);refine wpAny_newFunctionEnv_cells S.kind fZ λenv he s1 x=>?_;subst he;refine⟨lim.keeps x.toInCall.keep,codeAny_func ?_⟩;obtain⟨t,ht,hq⟩:=c7 A ag s H vs Q E (hr.deeper _) dA;have I:Inv (Vb CX P w K mg ab N qual scope f aA A ag s H E) [] (Wl N vs) H s1:=QdH S hr.hd e0 hl r x;refine wpAny_mono (ht [] s1 (Wl N vs) H _ I hq) (λfl s' hs=>?_) λe s' hs=>hs;have fin:∀{σ':St}{H':Hp}{v:V}{u:Value},Inv (Vb CX P w K mg ab N qual scope f aA A ag s H E) [] σ' H' s'->RelV v u->Q v H'->CE ag P w H s Q u s':=λ{σ' H' v u}J rv q=>⟨v,H',J.os,J.bare,J.ab,J.hok,rv,q⟩;cases fl with|ret u=>obtain⟨v,σ',H',J,rv,q⟩:=hs;exact fin J rv q|next=>obtain⟨σ',H',J,q⟩:=hs;exact fin (v:=V.non) (u:=Value.none) J rfl q|brk=>obtain⟨_,_,_,q⟩:=hs;exact False.elim q|cont=>obtain⟨_,_,_,q⟩:=hs;exact False.elim q
section
variable{X:Cx}{x:Str}{p pos:Pos}{e:Expr}{es:List Expr}{t:TA}{id T:String}{r:List V->Hp->VK->Prop}
def AB(r:List V->Hp->VK->Prop)(t:TA):TE:=λσ H Q=>t σ H λvs H1=>r vs H1 Q
def Ii(hc:CallR X (.builtin id) r)(hg:Gl X x)(hm:X.mg x=none)(hv:bootBuiltins x=some (.builtin id))(ha:PA X (e::es) t)(hn:x≠"__name__":=by decide)(cj:(x==("__debug__":Str))=false:=by decide)(he:starEach (e::es) X.env=(false,eval e X.env)::starEach es X.env:=by rfl)(cD:(backTo pos (starEach es X.env)).any (·.1)=false:=by rfl):PE X (.Call (.Name x p) (e::es) [] pos) (AB r t):=by intro aa s σ H Q I h;refine wpAny_Call_Name_kw (SX I hg hm hv ?_ hn cj);exact PyProof.Rows.callWith_builtin1 (QW (ha pos aa s σ H _ I h) λus s1⟨vs,H1,I1,r1,q1⟩=>hc aa s1 σ H1 vs us Q I1 r1 q1) he cD
def QgN(hc:CallR X (.type T) r)(hg:Gl X x)(hm:X.mg x=none)(hv:bootBuiltins x=some (.type T))(ha:PA X (e::es) t)(hn:x≠"__name__":=by decide)(cj:(x==("__debug__":Str))=false:=by decide)(he:starEach (e::es) X.env=(false,eval e X.env)::starEach es X.env:=by rfl)(cD:(backTo pos (starEach es X.env)).any (·.1)=false:=by rfl):PE X (.Call (.Name x p) (e::es) [] pos) (AB r t):=by intro aa s σ H Q I h;refine wpAny_Call_Name_kw (SX I hg hm hv ?_ hn cj);exact PyProof.Rows.callWith_type1 (QW (ha pos aa s σ H _ I h) λus s1⟨vs,H1,I1,r1,q1⟩=>hc aa s1 σ H1 vs us Q I1 r1 q1) he cD
end
end L2
namespace HT
open PySem PyProof.Rows
def eqAt_int(A:Around)(s:Shared)(a:Int)(t:Tok)(c:Int)(u:Tok):∃e,SeqAt.EqAt A s (.int a t) (.int c u) e/\(e=true↔a=c):=⟨a==c,SeqAt.EqAt.int_int a t c u,by simp⟩
section
variable{prog:Program}{w:World}{A:Around}{E:Value->Shared->Prop}{s:Shared}
def cat_tup{t b:Addr}{vs ws:List Value}{Q:Value->Shared->Prop}(ht:IsTup s.heap t vs.toArray)(hb:IsTup s.heap b ws.toArray)(hv:vs≠[])(h1:ws=[]->Q (.ref t) s)(h2:ws≠[]->Q (.ref s.heap.objs.size) {s with heap:=s.heap.push {cls:=.type "tuple",data:=.seq (vs++ws).toArray}})(hsz:vs.length+ws.length<=sizeLine):wpAny (model prog w) A (binaryOp .Add (.ref t) (.ref b)) Q E s:=by
 obtain⟨⟨cls,dd,data,sl⟩,ho,hc,n,hd⟩:=id ht;obtain⟨⟨jh,eX,data2,eD⟩,dg,fF,n2,hd2⟩:=id hb;simp only at hc hd fF hd2;subst hc hd fF hd2;have e:vs.toArray++ws.toArray=(vs++ws).toArray:=by simp
 by_cases hw:ws=[]
 ·exact concat_meets ⟨_,ho,rfl⟩ ⟨_,dg,rfl⟩ noFill_tuple_add seq_tuple_add PySem.F.slot_tuple_add PySem.F.entry_tuple_add (PySem.F.args_tuple_add_2 _ _) (tuple_addW1 t b vs.toArray ws.toArray n n2 dd eX sl eD (by simpa using hv) (by simp[hw])) ⟨ho,dg,h1 hw⟩
 ·refine concat_meets ⟨_,ho,rfl⟩ ⟨_,dg,rfl⟩ noFill_tuple_add seq_tuple_add PySem.F.slot_tuple_add PySem.F.entry_tuple_add (PySem.F.args_tuple_add_2 _ _) (tuple_addW2 t b vs.toArray ws.toArray n n2 dd eX sl eD (by simpa using hv) (by simpa using hw) (by rw[Jp,Jp];exact hsz)) ⟨ho,dg,?_⟩;rw[e];exact h2 hw
noncomputable def sIx(n d:Nat):Option Int->Nat|none=>d|some v=>if v<0 then(v+(n:Int)).toNat else min v.toNat n
def QhW(n d:Nat)(hd:d<=n)(o:Option Int):sIx n d o<=n:=by cases o with|none=>exact hd|some v=>
  show(if v<0 then(v+(n:Int)).toNat else min v.toNat n)<=n;by_cases hv:v<0;·rw[if_pos hv];omega
  ·rw[if_neg hv];exact Nat.min_le_right _ _
def Fi(v:Int)(n d:Nat):(if v<0 then max (v+(n:Int)) 0 else min v (n:Int))=((sIx n d (some v):Nat):Int):=by
 show(if v<0 then max (v+(n:Int)) 0 else min v (n:Int))=((if v<0 then(v+(n:Int)).toNat else min v.toNat n:Nat):Int);by_cases hv:v<0;·simp only[if_pos hv];omega
 ·simp only[if_neg hv];omega
def Qat(lo hi:Option Int)(n:Nat):Builtin.Slice.sliceAdjust lo hi 1 (n:Int)=(((sIx n 0 lo:Nat):Int),((sIx n n hi:Nat):Int)):=by
 have h1:¬((1:Int)<0):=by omega
 unfold Builtin.Slice.sliceAdjust;simp only[h1,if_false];refine Prod.ext ?_ ?_;·cases lo with|none=>rfl|some v=>exact Fi v n 0
 ·cases hi with
  |none=>rfl|some v=>exact Fi v n n
def Qhb(i j:Nat):Builtin.Slice.slicePlaces (i:Int) (j:Int) 1=j-i:=by
 unfold Builtin.Slice.slicePlaces;have h1:(1:Int)>0:=by omega
 simp only[h1,if_true,Int.ediv_one];split<;>omega
def A4{v:Value}{o:Option Int}{Q:Option Int->Shared->Prop}(p:IsPart v o)(h:Q o s):wpAny (model prog w) A (Builtin.Slice.slicePartIndex v) Q E s:=by cases p with|none=>exact slicePart_none h|int i t=>exact slicePart_int h
def Qih{sl:Addr}{vl vu:Value}{lo hi:Option Int}{n:Nat}{Q:Int×Int×Nat->Shared->Prop}(hs:s.heap.IsSliceOf sl vl vu .none)(pl:IsPart vl lo)(pu:IsPart vu hi)(h:Q (((sIx n 0 lo:Nat):Int),1,sIx n n hi-sIx n 0 lo) s):wpAny (model prog w) A (Builtin.Slice.sliceApplied (.ref sl) (pure (n:Int))) Q E s:=by obtain⟨os,fA,jI,gG⟩:=id hs;unfold Builtin.Slice.sliceApplied Builtin.Slice.sliceFields;refine wpAny_bind (wpAny_bind (wpAny_field fA gG (x:=vl) rfl (wpAny_bind (wpAny_field fA gG (x:=vu) rfl (wpAny_bind (wpAny_field fA gG (x:=.none) rfl (wpAny_pure ?_)))))));refine wpAny_bind (slicePart_none ?_);show wpAny _ _ (if((1:Int)==0)=true then _ else _) _ _ s;rw[if_neg (by decide)];refine wpAny_bind (A4 pl (wpAny_bind (A4 pu (wpAny_bind (wpAny_pure ?_)))));show wpAny _ _ (match Builtin.Slice.sliceAdjust lo hi 1 (n:Int)with|(lo,hi)=>pure (lo,(1:Int),Builtin.Slice.slicePlaces lo hi 1)) _ _ s;rw[Qat lo hi n];show wpAny _ _ (pure (((sIx n 0 lo:Nat):Int),(1:Int),Builtin.Slice.slicePlaces ((sIx n 0 lo:Nat):Int) ((sIx n n hi:Nat):Int) 1)) _ _ s;rw[Qhb];exact wpAny_pure h
def Qg8(xs:Array Value)(i k:Nat):((List.range k).filterMap λ(m:Nat)=>xs[((i:Int)+(m:Int)*1).toNat]?).toArray=((xs.toList.drop i).take k).toArray:=by
 have e:(λ(m:Nat)=>xs[((i:Int)+(m:Int)*1).toNat]?)=λm=>xs[i+m]?:=by
  funext m;have:((i:Int)+(m:Int)*1).toNat=i+m:=by omega
  rw[this]
 rw[e];have:=pick_run xs i k;rw[List.filterMap_map]at this;have e2:((λx=>xs[x]?)∘λx=>i+x)=λm=>xs[i+m]?:=rfl;rw[e2]at this;rw[this]
def getItem_tuple_cut{t sl:Addr}{items:Array Value}{vl vu:Value}{lo hi:Option Int}{Q:Value->Shared->Prop}(ht:IsTup s.heap t items)(hs:s.heap.IsSliceOf sl vl vu .none)(pl:IsPart vl lo)(pu:IsPart vu hi)(hw:¬(sIx items.size 0 lo=0/\sIx items.size items.size hi=items.size))(h:Q (.ref s.heap.objs.size) {s with heap:=s.heap.push {cls:=.type "tuple",data:=.seq ((items.toList.drop (sIx items.size 0 lo)).take (sIx items.size items.size hi-sIx items.size 0 lo)).toArray}})(hsz:items.size<=sizeLine):wpAny (model prog w) A (getItem (.ref t) (.ref sl)) Q E s:=by
 have cE:sizeOk (.seq ((items.toList.drop (sIx items.size 0 lo)).take (sIx items.size items.size hi-sIx items.size 0 lo)).toArray):=by
  show((items.toList.drop (sIx items.size 0 lo)).take (sIx items.size items.size hi-sIx items.size 0 lo)).toArray.size<=sizeLine;rw[Jp,Yy,US,Py];omega
 have hj:sIx items.size items.size hi<=items.size:=QhW _ _ (Qz _) hi;obtain⟨os,fA,jI,gG⟩:=id hs;have lP:s.TypeIs (.ref sl) "slice":=⟨os,fA,jI⟩;unfold getItem;try with_reducible refine wpAny_holding ?_
 first|refine wpAny_bind (wpAny_pure ?_)|skip
 refine wpAny_bind (wpAny_sequenceKey ht.typeIs (by decide) ?_);refine wpAny_bind (wpAny_callSpecial?_slot (name:=Str.ofString "__getitem__") ht.typeIs PyProof.Rows.slot_tuple_getitem (wpAny_call_entry PyProof.Rows.slot_tuple_getitem ht.typeIs entry_tuple_getitem ?_ (args_tuple_getitem _ _)));show wpAny _ _ (Builtin.Tuple.tupleItemsOf (.ref t)>>=_) _ _ s;refine wpAny_bind (tupleItemsOf_ ht ?_);refine wpAny_bind (wpAny_typeOf lP ?_);rw[if_pos (by decide)];refine wpAny_bind (Qih hs pl pu ?_);have dB:¬((((sIx items.size 0 lo:Nat):Int)==0&&(1:Int)==1&&(sIx items.size items.size hi-sIx items.size 0 lo)==items.size)=true):=by
  intro q;rw[Xo,Xo]at q;have q1:((sIx items.size 0 lo:Nat):Int)=0:=eq_of_beq q.1.1;have q2:sIx items.size items.size hi-sIx items.size 0 lo=items.size:=eq_of_beq q.2;exact hw ⟨by omega,by omega⟩
 show wpAny _ _ (if(((sIx items.size 0 lo:Nat):Int)==0&&(1:Int)==1&&(sIx items.size items.size hi-sIx items.size 0 lo)==items.size)=true then _ else _) _ _ s;rw[if_neg dB,Qg8];first|exact wpAny_bind (m:=Builtin.Tuple.tupleExact _) (wpAny_newObj_type (wpAny_pure ⟨_,rfl,wpAny_pure h⟩) cE)|exact wpAny_bind (m:=Builtin.Tuple.tupleExact _) (wpAny_newObj_type (wpAny_bind (wpAny_pure (wpAny_pure ⟨_,rfl,wpAny_pure h⟩))) cE)|exact wpAny_bind (wpAny_bind (m:=Builtin.Tuple.tupleExact _) (wpAny_newObj_type (wpAny_pure (wpAny_pure ⟨_,rfl,wpAny_pure h⟩)) cE))|exact wpAny_bind (wpAny_bind (m:=Builtin.Tuple.tupleExact _) (wpAny_newObj_type (wpAny_pure ⟨_,rfl,wpAny_pure h⟩) cE))
end
end HT
namespace L2
open PySem PySem.Spec PyProof.Rows
noncomputable abbrev TO:=St->Hp->(Option Int->Hp->Prop)->Prop
def PO(X:Cx)(e:Option Expr)(t:TO):Prop:=∀(aa:List (Addr×Obj))(s:Shared)(σ:St)(H:Hp)(Q:Option Int->Hp->Prop),Inv X aa σ H s->t σ H Q->wpAny (model X.prog X.w) X.A (evalPart e X.env) (λu s'=>∃o H',Inv X aa σ H' s'/\IsPart u o/\Q o H') X.xe s
def QiB:TO:=λ_ H Q=>Q none H
def QiF(t:TE):TO:=λσ H Q=>t σ H λx H1=>∃i,x=.int i/\Q (some i) H1
def D9{ns:List Int}:∀{us:List Value},Vals (ns.map V.int) us->IntsAre us ns:=by induction ns with|nil=>intro us r;rw[map_nil]at r;cases r;exact .nil|cons n ns ih=>intro us r;rw[ZT]at r;cases r with|cons r1 r2=>obtain⟨t,e⟩:=r1;subst e;exact .cons n t (ih r2)
section
variable{X:Cx}{e:Expr}{te:TE}{lo hi:Option Expr}{tl th:TO}{pos p2:Pos}
def Qhd:PO X none QiB:=by intro aa s σ H Q I h;rw[evalPart_none];exact wpAny_pure ⟨none,H,I,.none,h⟩
def Qhe(h:PE X e te):PO X (some e) (QiF te):=by intro aa s σ H Q I hw;rw[evalPart_some];refine QW (h aa s σ H _ I hw) λu s1⟨x,H1,I1,r1,q1⟩=>?_;obtain⟨i,rfl,q⟩:=q1;obtain⟨t,rfl⟩:=r1;exact⟨some i,H1,I1,.int i t,q⟩
def SlR(X:Cx)(r:V->Option Int->Option Int->Hp->VK->Prop):Prop:=∀(aa:List (Addr×Obj))(s:Shared)(σ:St)(H:Hp)(x:V)(v vl vu:Value)(lo hi:Option Int)(sl:Addr)(Q:VK),Inv X aa σ H s->RelV x v->s.heap.IsSliceOf sl vl vu .none->IsPart vl lo->IsPart vu hi->r x lo hi H Q->∃T id,typeLookup (.type T) "__getitem__"=pure (some (.builtin id))/\s.TypeIs v T/\wpAny (model X.prog X.w) X.A (getItem v (.ref sl)) (EP X aa σ Q) X.xe s
def SlR.or{r r':V->Option Int->Option Int->Hp->VK->Prop}(h:SlR X r)(h':SlR X r'):SlR X λx lo hi H Q=>r x lo hi H Q\/r' x lo hi H Q:=by
 intro aa s σ H x v vl vu lo hi sl Q I rx hs pl pu q;rcases q with q|q;·exact h aa s σ H x v vl vu lo hi sl Q I rx hs pl pu q
 ·exact h' aa s σ H x v vl vu lo hi sl Q I rx hs pl pu q
def tSl(r:V->Option Int->Option Int->Hp->VK->Prop)(te:TE)(tl th:TO):TE:=λσ H Q=>te σ H λx H1=>tl σ H1 λl H2=>th σ H2 λu H3=>r x l u H3 Q
def QgY{r:V->Option Int->Option Int->Hp->VK->Prop}(hr:SlR X r)(he:PE X e te)(hl:PO X lo tl)(hu:PO X hi th):PE X (.Subscript e (.Slice lo hi none p2) pos) (tSl r te tl th):=by intro aa s σ H Q I h;refine Subscript_ (QW (he aa s σ H _ I h) λv s1⟨x,H1,I1,r1,q1⟩=>?_);refine wpAny_Slice (QW (hl aa s1 σ H1 _ I1 q1) λvl s2⟨l,H2,I2,pl,q2⟩=>QW (hu aa s2 σ H2 _ I2 q2) λvu s3⟨u,H3,I3,pu,q3⟩=>?_);rw[evalPart_none];refine wpAny_pure ?_;have I4:Inv X aa σ H3 {s3 with heap:=s3.heap.push {cls:=.type "slice",data:=.fields #[vl,vu,.none]}}:=I3.kept (t':=s3.toks) λb ob q=>Heap.get?_push_of_some _ q;obtain⟨T,id,hT,ht,hg⟩:=hr aa {s3 with heap:=s3.heap.push {cls:=.type "slice",data:=.fields #[vl,vu,.none]}} σ H3 x v vl vu l u s3.heap.objs.size Q I4 r1 (Heap.IsSliceOf.new ..) pl pu q3;show wpAny (model X.prog X.w) X.A (subscriptTail e (.Slice lo hi none p2) v (.ref s3.heap.objs.size)) (EP X aa σ Q) X.xe {s3 with heap:=s3.heap.push {cls:=.type "slice",data:=.fields #[vl,vu,.none]}};exact tail_any (ops:=[.ref s3.heap.objs.size,v]) ht hT hg (by with_unfolding_all rfl)
def Wq(xs:List V)(lo hi:Option Int):List V:=(xs.drop (HT.sIx xs.length 0 lo)).take (HT.sIx xs.length xs.length hi-HT.sIx xs.length 0 lo)
def Fx(xs:List V)(lo hi:Option Int):(Wq xs lo hi).length<=xs.length:=by unfold Wq;rw[Yy,US];omega
def QhE(K:W.Frag):V->Option Int->Option Int->Hp->VK->Prop:=λx lo hi H Q=>∃a xs,x=.ref a/\SqT K H a xs/\¬(HT.sIx xs.length 0 lo=0/\HT.sIx xs.length xs.length hi=xs.length)/\∀p,H p=none->Q (.ref p) (upd H p (.tup (Wq xs lo hi)))
def Qig:SlR X (QhE X.K):=by
 intro aa s σ H x v vl vu lo hi sl Q I rx hs pl pu h;obtain⟨a,xs,rfl,hx,hw,q⟩:=h;cases rx;obtain⟨its,r,ht,hz⟩:=I.tuple hx;have hlen:its.toArray.size=xs.length:=by rw[Jp];exact r.length.symm
 refine⟨"tuple",_,PyProof.Rows.slot_tuple_getitem.lookup,ht.typeIs,?_⟩;refine HT.getItem_tuple_cut ht hs pl pu (by rw[hlen];exact hw) ?_ (by rw[hlen];exact hz);rw[hlen];refine⟨.ref s.heap.objs.size,_,I.laid (t':=s.toks) (o:=.tup (Wq xs lo hi)) (λb ob q=>Heap.get?_push_of_some _ q) (Qz _) ?_,rfl,q _ (I.hok.fresh (Qz _))⟩;exact⟨Zk (Fx xs lo hi) hz,_,(r.drop (HT.sIx xs.length 0 lo)).take (HT.sIx xs.length xs.length hi-HT.sIx xs.length 0 lo),IsTup.new _ _⟩
def Iv(K:W.Frag):R2:=λx y H Q=>∃a b xs ys,x=.ref a/\y=.ref b/\SqT K H a xs/\SqT K H b ys/\xs≠[]/\xs.length+ys.length<=sizeLine/\(ys=[]->Q (.ref a) H)/\(ys≠[]->∀p,H p=none->Q (.ref p) (upd H p (.tup (xs++ys))))
def Vals.nil_iff{xs:List V}{us:List Value}(r:Vals xs us):us=[]↔xs=[]:=by cases r with|nil=>simp|cons _ _=>simp
def Qgl:OpR X (binaryOp .Add) (Iv X.K):=by intro aa s σ H x y v u Q I rx ry h;obtain⟨a,b,xs,ys,rfl,rfl,ha,hb,hx,hz,q1,q2⟩:=h;cases rx;cases ry;obtain⟨its,r1,p1,_⟩:=I.tuple ha;obtain⟨bO,r2,p2,_⟩:=I.tuple hb;refine HT.cat_tup p1 p2 (λz=>hx (r1.nil_iff.mp z)) (λz=>⟨.ref a,H,I,rfl,q1 (r2.nil_iff.mp z)⟩) (λz=>?_) (by rw[<-r1.length,<-r2.length];exact hz);refine⟨.ref s.heap.objs.size,_,I.laid (t':=s.toks) (o:=.tup (xs++ys)) (λb ob q=>Heap.get?_push_of_some _ q) (Qz _) ?_,rfl,q2 (λw=>z (r2.nil_iff.mpr w)) _ (I.hok.fresh (Qz _))⟩;exact⟨by rw[Qe];exact hz,_,r1.append r2,IsTup.new _ _⟩
end
noncomputable def UP(n:Nat)(i:Int):Option Nat:=if 0<=i then(if i<n then some i.toNat else none)else if-(n:Int)<=i then some (i+n).toNat else none
def XW{α:Type}(xs:List α)(i:Int):Option α:=(UP xs.length i).bind λj=>xs[j]?
def DI{n:Nat}{i:Int}{j:Nat}(h:UP n i=some j):seqIndex? i n=some j/\j<n/\-(n:Int)<=i/\i<n:=by
 unfold UP at h;by_cases h0:0<=i
 ·rw[if_pos h0]at h;by_cases h1:i<n;·rw[if_pos h1]at h;have e:i.toNat=j:=Option.some.inj h;exact⟨by rw[seqIndex_of h0 h1,e],by omega,by omega,h1⟩
  ·rw[if_neg h1]at h;cases h
 ·rw[if_neg h0]at h;by_cases h1:-(n:Int)<=i
  ·rw[if_pos h1]at h;have e:(i+n).toNat=j:=Option.some.inj h;exact⟨by rw[seqIndex_neg (by omega) h1,e],by omega,h1,by omega⟩
  ·rw[if_neg h1]at h;cases h
def LO{α:Type}{xs:List α}{i:Int}{v:α}(h:XW xs i=some v):∃j,seqIndex? i xs.length=some j/\xs[j]?=some v/\j<xs.length/\-(xs.length:Int)<=i/\i<xs.length:=by unfold XW at h;cases e:UP xs.length i with|none=>rw[e]at h;cases h|some j=>rw[e]at h;obtain⟨h1,h2,h3,h4⟩:=DI e;exact⟨j,h1,h,h2,h3,h4⟩
def LC(b:Expr):Prop:=∀o i,subscripted b false o i=operate [o,i] (getItem o i)
def IxR(X:Cx)(r:R2):Prop:=∀(value slice:Expr)(aa:List (Addr×Obj))(s:Shared)(σ:St)(H:Hp)(x y:V)(v u:Value)(Q:VK),Inv X aa σ H s->RelV x v->RelV y u->r x y H Q->subscripted slice false v u=operate [v,u] (getItem v u)->wpAny (model X.prog X.w) X.A (subscriptTail value slice v u) (EP X aa σ Q) X.xe s
def OE(X:Cx)(id:String)(r:V->List V->Hp->VK->Prop):Prop:=∀(aa:List (Addr×Obj))(s:Shared)(σ:St)(H:Hp)(x:V)(xs:List V)(v:Value)(us:List Value)(Q:VK),Inv X aa σ H s->RelV x v->Vals xs us->r x xs H Q->wpAny (model X.prog X.w) X.A (call (.builtin id) (v::us)) (EP X aa σ Q) X.xe s
section
variable{X:Cx}{a b:Expr}{ta tb:TE}{pos:Pos}
def IxR.or{r r':R2}(h:IxR X r)(h':IxR X r'):IxR X λx y H Q=>r x y H Q\/r' x y H Q:=by
 intro value slice aa s σ H x y v u Q I rx ry q hs;rcases q with q|q;·exact h value slice aa s σ H x y v u Q I rx ry q hs
 ·exact h' value slice aa s σ H x y v u Q I rx ry q hs
def Pu{r:R2}(hr:IxR X r)(ha:PE X a ta)(hb:PE X b tb)(hs:LC b):PE X (.Subscript a b pos) (X8 r ta tb):=by intro aa s σ H Q I h;exact Subscript_ (Ka ha hb I h λv u s2 x y H2 I2 rx ry q=>hr a b aa s2 σ H2 x y v u Q I2 rx ry q (hs _ _))
def Cm(K:W.Frag):R2:=λx y H Q=>∃p xs i v,x=.ref p/\y=.int i/\SqL K H p xs/\XW xs i=some v/\Q v H
def Co(K:W.Frag):R2:=λx y H Q=>∃p xs i v,x=.ref p/\y=.int i/\SqT K H p xs/\XW xs i=some v/\Q v H
def Cn:R2:=λx y H Q=>∃z i c,x=.str z/\y=.int i/\z.length<=sizeLine/\XW z.cps.toList i=some c/\Q (.str ⟨#[c]⟩) H
def ix_list:IxR X (Cm X.K):=by
 intro value slice aa s σ H x y v u Q I rx ry h hs;obtain⟨p,xs,i,z,rfl,rfl,hq,he,q⟩:=h;cases rx;obtain⟨t,rfl⟩:=ry;obtain⟨its,r,pl,hz⟩:=I.list hq;obtain⟨j,h1,h2,h3,h4,h5⟩:=LO he;obtain⟨w,ew,bN⟩:=r.get h2;have hl:=r.length;have hn:=SY;have fin:EP X aa σ Q w s:=⟨z,H,I,bN,q⟩;by_cases h0:0<=i
 ·have hj:i.toNat=j:=by
   rw[seqIndex_of h0 h5]at h1;exact Option.some.inj h1
  exact item_listR pl.isList h0 (by omega) (by rw[hj];simpa using ew) fin hs
 ·have hj:(i+(its.toArray.size:Int)).toNat=j:=by
   rw[seqIndex_neg (by omega) h4]at h1;rw[Jp,<-hl];exact Option.some.inj h1
  exact subscriptTail_builtinR (x:=w) pl.isList.typeIs slot_list_getitem.lookup (wpAny_getItem_list_neg (Q:=λr s'=>r=w/\EP X aa σ Q r s') pl.isList (by omega) (by rw[Jp]<;>omega) (by omega) (by rw[hj];simpa using ew) ⟨rfl,fin⟩) hs
def ix_tup:IxR X (Co X.K):=by intro value slice aa s σ H x y v u Q I rx ry h hs;obtain⟨p,xs,i,z,rfl,rfl,hq,he,q⟩:=h;cases rx;obtain⟨t,rfl⟩:=ry;obtain⟨its,r,pl,hz⟩:=I.tuple hq;obtain⟨j,h1,h2,h3,h4,h5⟩:=LO he;obtain⟨w,ew,bN⟩:=r.get h2;have hl:=r.length;have hn:=SY;have fin:EP X aa σ Q w s:=⟨z,H,I,bN,q⟩;exact subscriptTail_builtinR (x:=w) pl.typeIs slot_tuple_getitem.lookup (getItem_tuple (j:=j) (Q:=λr s'=>r=w/\EP X aa σ Q r s') pl (by omega) (by omega) (by rw[Jp,<-hl];exact h1) (by simpa using ew) ⟨rfl,fin⟩) hs
def QdW:IxR X Cn:=by
 intro value slice aa s σ H x y v u Q I rx ry h hs;obtain⟨z,i,c,rfl,rfl,hz,he,q⟩:=h;obtain⟨t,rfl⟩:=rx;obtain⟨t',rfl⟩:=ry;obtain⟨j,h1,h2,h3,h4,h5⟩:=LO he;have hl:z.cps.toList.length=z.length:=by simp[Str.length]
 rw[hl]at h1 h4 h5;have hn:=SY;exact tail_any (typeIs_str s z t) slot_str_getitem.lookup (getItem_str (c:=c) (by
  have e1:decide (i< -(2^63:Int))=false:=JU (by omega);have e2:decide (i≥2^63)=false:=JU (by omega);rw[e1,e2,Bool.or_false]) (by rw[h1];simpa using h2) ⟨.str ⟨#[c]⟩,H,I.tok _,⟨_,rfl⟩,q⟩) hs
def UY(K:W.Frag):R2:=λx y H Q=>Cm K x y H Q\/Co K x y H Q\/Cn x y H Q
def P6:IxR X (UY X.K):=ix_list.or (ix_tup.or QdW)
def QeC(its:List Value)(n j:Nat)(u:Value):Obj.mapSeq (·.setIfInBounds j u) {cls:=.type "list",data:=.seq its.toArray n}={cls:=.type "list",data:=.seq (its.set j u).toArray n}:=by simp[Obj.mapSeq]
theorem Inv.lst{aa:List (Addr×Obj)}{σ:St}{H:Hp}{s:Shared}{p:Addr}{xs:List V}(I:Inv X aa σ H s)(h:H p=some (.lst xs)):∃(its:List Value)(n:Nat),Vals xs its/\s.heap.get? p=some {cls:=.type "list",data:=.seq its.toArray n}/\xs.length<=sizeLine:=by obtain⟨z,its,n,r,e⟩:=I.hok p _ h;exact⟨its,n,r,e,z⟩
def Inv.lstUpd{aa:List (Addr×Obj)}{σ:St}{H:Hp}{s:Shared}{p:Addr}{xs ys:List V}{its its':List Value}{n n':Nat}{f:Obj->Obj}(I:Inv X aa σ H s)(h:H p=some (.lst xs))(ho:s.heap.get? p=some {cls:=.type "list",data:=.seq its.toArray n})(hf:f {cls:=.type "list",data:=.seq its.toArray n}={cls:=.type "list",data:=.seq its'.toArray n'})(r:Vals ys its')(hz:ys.length<=sizeLine)(t:Nat):Inv X aa σ (upd H p (.lst ys)) {s with heap:=s.heap.update p f,toks:=t}:=by
 have e:(s.heap.update p f).get? p=some {cls:=.type "list",data:=.seq its'.toArray n'}:=by rw[Heap.get?_update_self f ho (by rw[hf]<;>rfl),hf]
 refine I.write (x:=p) (e:=p) (by rw[h];trivial) (.inl rfl) (λb u hb q=>(Heap.get?_update_other _ _ (Ne.symm hb)).trans q) ⟨_,e⟩ ?_;exact⟨hz,its',n',r,e⟩
def Cq:V->V->V->Hp->(Hp->Prop)->Prop:=λo i v H Q=>∃p xs k j,o=.ref p/\i=.int k/\H p=some (.lst xs)/\UP xs.length k=some j/\Q (upd H p (.lst (xs.set j v)))
def Qib:Gz X Cq:=by
 intro aa s σ H o i v ov iv u Q I ro ri rv h;obtain⟨p,xs,k,j,rfl,rfl,hp,hj,q⟩:=h;cases ro;obtain⟨t,rfl⟩:=ri;obtain⟨its,n,r,ho,hz⟩:=I.lst hp;obtain⟨h1,h2,h3,h4⟩:=DI hj;have hl:=r.length;have hn:=SY;have I':Inv X aa σ (upd H p (.lst (xs.set j v))) {s with heap:=s.heap.update p (Obj.mapSeq (·.setIfInBounds j u))}:=I.lstUpd hp ho (QeC its n j u) (r.set rv j) (by rw[WS];exact hz) s.toks;by_cases h0:0<=k
 ·have hk:k.toNat=j:=by
   rw[seqIndex_of h0 h4]at h1;exact Option.some.inj h1
  exact W.ki_setAt ho h0 (by omega) (by rw[Jp,<-hl];exact h4) (by rw[hk];exact⟨_,I',q⟩)
 ·have hk:(k+(its.toArray.size:Int)).toNat=j:=by
   rw[seqIndex_neg (by omega) h3]at h1;rw[Jp,<-hl];exact Option.some.inj h1
  exact W.ki_setBack ho (by omega) (by rw[Jp,<-hl];exact h3) (by omega) (by rw[hk];exact⟨_,I',q⟩)
def Qik(lo hi:Option Int)(n:Nat):(sliceBounds lo hi none n).1=((HT.sIx n 0 lo:Nat):Int)/\(sliceBounds lo hi none n).2.1=((HT.sIx n n hi:Nat):Int)/\(sliceBounds lo hi none n).2.2=1:=by
 refine⟨?_,?_,rfl⟩;·cases lo with|none=>simp[sliceBounds,HT.sIx]|some i=>
   simp only[sliceBounds,HT.sIx,getD_none,show(1:Int)>0 by decide,if_true];by_cases h:i<0;·simp only[h,if_true]<;>omega
   ·simp only[h,if_false]<;>omega
 ·cases hi with
  |none=>simp[sliceBounds,HT.sIx]|some i=>
   simp only[sliceBounds,HT.sIx,getD_none,show(1:Int)>0 by decide,if_true];by_cases h:i<0;·simp only[h,if_true]<;>omega
   ·simp only[h,if_false]<;>omega
def Qii(its:List Value)(lo hi:Option Int):slicePick its.toArray lo hi none=((its.drop (HT.sIx its.length 0 lo)).take (HT.sIx its.length its.length hi-HT.sIx its.length 0 lo)).toArray:=by obtain⟨h1,h2,h3⟩:=Qik lo hi its.toArray.size;unfold slicePick;rw[h1,h2,h3];simp only[sliceRange_one,pick_run,Jp]<;>rfl
def QhC(K:W.Frag):V->Option Int->Option Int->Hp->VK->Prop:=λx lo hi H Q=>∃a xs,x=.ref a/\SqL K H a xs/\∀p,H p=none->Q (.ref p) (upd H p (.lst (Wq xs lo hi)))
def Qie:SlR X (QhC X.K):=by intro aa s σ H x v vl vu lo hi sl Q I rx hs pl pu h;obtain⟨a,xs,rfl,hx,q⟩:=h;cases rx;obtain⟨its,r,ht,hz⟩:=I.list hx;have hlen:=r.length;refine⟨"list",_,slot_list_getitem.lookup,ht.isList.typeIs,?_⟩;refine wpAny_getItem_list_slice ht.isList hs pl pu .none (by simp) ?_ (by rw[Jp]<;>omega);rw[Qii,<-hlen];refine⟨.ref s.heap.objs.size,_,I.laid (t':=s.toks) (o:=.lst (Wq xs lo hi)) (λb ob q=>Heap.get?_push_of_some _ q) (Qz _) ?_,rfl,q _ (I.hok.fresh (Qz _))⟩;exact⟨Zk (Fx xs lo hi) hz,_,0,(r.drop (HT.sIx xs.length 0 lo)).take (HT.sIx xs.length xs.length hi-HT.sIx xs.length 0 lo),Heap.get?_push_size _ rfl⟩
noncomputable def Xg:V->Bool|.non=>true|.bl _=>true|.int _=>true|.str _=>true|_=>false
noncomputable def VD:V->V->Bool|.non,.non=>true|.bl a,.bl b=>a==b|.bl a,.int b=>(if a then 1 else 0)==b|.int a,.bl b=>a==if b then 1 else 0|.int a,.int b=>a==b|.str a,.str b=>a==b|_,_=>false
def QcY{A:Around}{s:Shared}{y x:V}{u v:Value}(ry:RelV y u)(rx:RelV x v)(fy:Xg y=true)(fx:Xg x=true):SeqAt.EqAt A s u v (VD y x):=by cases y with
 |non=>
  cases ry;cases x with
  |non=>cases rx;exact SeqAt.EqAt.same _|bl b=>cases rx;exact SeqAt.EqAt.none_bool b|int b=>obtain⟨t,rfl⟩:=rx;exact SeqAt.EqAt.none_int b t|str b=>obtain⟨t,rfl⟩:=rx;exact SeqAt.EqAt.none_str b t|_=>exact absurd (show false=true from fx) WR
 |bl a=>
  cases ry;cases x with
  |non=>cases rx;exact SeqAt.EqAt.bool_none a|bl b=>cases rx;exact SeqAt.EqAt.bool_bool a b|int b=>obtain⟨t,rfl⟩:=rx;exact SeqAt.EqAt.bool_int a b t|str b=>obtain⟨t,rfl⟩:=rx;exact SeqAt.EqAt.bool_str a b t|_=>exact absurd (show false=true from fx) WR
 |int a=>
  obtain⟨t',rfl⟩:=ry;cases x with
  |non=>cases rx;exact SeqAt.EqAt.int_none a t'|bl b=>cases rx;exact SeqAt.EqAt.int_bool a t' b|int b=>obtain⟨t,rfl⟩:=rx;exact SeqAt.EqAt.int_int a t' b t|str b=>obtain⟨t,rfl⟩:=rx;exact SeqAt.EqAt.int_str a t' b t|_=>exact absurd (show false=true from fx) WR
 |str a=>
  obtain⟨t',rfl⟩:=ry;cases x with
  |non=>cases rx;exact SeqAt.EqAt.str_none a t'|bl b=>cases rx;exact SeqAt.EqAt.str_bool a t' b|int b=>obtain⟨t,rfl⟩:=rx;exact SeqAt.EqAt.str_int a t' b t|str b=>obtain⟨t,rfl⟩:=rx;exact SeqAt.EqAt.str_str a t' b t|_=>exact absurd (show false=true from fx) WR
 |_=>exact absurd (show false=true from fy) WR
def W6(x:V)(u:Value):Bool:=match u with|.none=>VD .non x|.bool b=>VD (.bl b) x|.int i _=>VD (.int i) x|.str z _=>VD (.str z) x|_=>false
def EZ{x y:V}{u:Value}(r:RelV y u)(f:Xg y=true):W6 x u=VD y x:=by cases y with|non=>cases r;rfl|bl b=>cases r;rfl|int i=>obtain⟨t,rfl⟩:=r;rfl|str z=>obtain⟨t,rfl⟩:=r;rfl|_=>exact absurd (show false=true from f) WR
theorem RI{x:V}:∀{xs:List V}{us:List Value},Vals xs us->xs.all Xg=true->us.any (W6 x)=xs.any λy=>VD y x|_,_,.nil,_=>rfl|y::xs,u::us,.cons r t,f=>by rw[all_cons,Xo]at f;rw[any_cons,any_cons,EZ r f.1,RI t f.2]
theorem PK{A:Around}{s:Shared}{x:V}{v:Value}(rx:RelV x v)(fx:Xg x=true):∀{xs:List V}{us:List Value},Vals xs us->xs.all Xg=true->∀u∈us,SeqAt.EqAt A s u v (W6 x u)
 |_,_,.nil,_=>λu hu=>by cases hu|y::xs,u::us,.cons r t,f=>λu' hu=>by
  rw[all_cons,Xo]at f;rcases q_5.mp hu with rfl|hu;·rw[EZ r f.1];exact QcY r rx f.1 fx
  ·exact PK rx fx t f.2 u' hu
def inV(x:V)(xs:List V):Bool:=xs.any λy=>VD y x
def UX(K:W.Frag)(neg:Bool):R2:=λx y H Q=>∃p xs,y=.ref p/\(SqL K H p xs\/SqT K H p xs)/\Xg x=true/\xs.all Xg=true/\Q (.bl (if neg then !inV x xs else inV x xs)) H
def Qgo:OpR X (compareOp .In) (UX X.K false):=by
 intro aa s σ H x y v u Q I rx ry h;obtain⟨p,xs,rfl,hq,fx,fs,q⟩:=h;cases ry;rcases hq with hq|hq
 ·obtain⟨its,r,pl,hz⟩:=I.list hq;refine SeqAt.in_listAt (W6 x) pl.isList (λw hw=>PK rx fx r fs w (by simpa using hw)) ⟨.bl _,H,I,rfl,?_⟩;rw[show its.toArray.any (W6 x)=its.any (W6 x)by simp,RI r fs];exact q
 ·obtain⟨its,r,pl,hz⟩:=I.tuple hq;refine SeqAt.in_tupleAt (W6 x) pl (λw hw=>PK rx fx r fs w (by simpa using hw)) ⟨.bl _,H,I,rfl,?_⟩;rw[show its.toArray.any (W6 x)=its.any (W6 x)by simp,RI r fs];exact q
def Qgx:OpR X (compareOp .NotIn) (UX X.K true):=by
 intro aa s σ H x y v u Q I rx ry h;obtain⟨p,xs,rfl,hq,fx,fs,q⟩:=h;cases ry;rcases hq with hq|hq
 ·obtain⟨its,r,pl,hz⟩:=I.list hq;refine SeqAt.notIn_listAt (W6 x) pl.isList (λw hw=>PK rx fx r fs w (by simpa using hw)) ⟨.bl _,H,I,rfl,?_⟩;rw[show its.toArray.any (W6 x)=its.any (W6 x)by simp,RI r fs];exact q
 ·obtain⟨its,r,pl,hz⟩:=I.tuple hq;refine SeqAt.notIn_tupleAt (W6 x) pl (λw hw=>PK rx fx r fs w (by simpa using hw)) ⟨.bl _,H,I,rfl,?_⟩;rw[show its.toArray.any (W6 x)=its.any (W6 x)by simp,RI r fs];exact q
def QaP:CallR X (.builtin "len") λxs H Q=>∃p ys,xs=[.ref p]/\(SqL X.K H p ys\/SqT X.K H p ys)/\Q (.int ys.length) H:=by
 intro aa s σ H xs us Q I r h;obtain⟨p,ys,rfl,hq,q⟩:=h;obtain⟨u,rfl,rx⟩:=Ub r;cases rx;have hn:=SY;rcases hq with hq|hq;·obtain⟨its,r',pl,hz⟩:=I.list hq;have hlen:=r'.length;exact Calls.call_len_list pl.isList (by simp only[Jp]<;>omega) ⟨.int ys.length,H,I.tok _,⟨s.toks+1,by rw[Jp,hlen]⟩,q⟩
 ·obtain⟨its,r',pl,hz⟩:=I.tuple hq;have hlen:=r'.length;exact len_tuple pl (by simp only[Jp]<;>omega) ⟨.int ys.length,H,I.tok _,⟨s.toks+1,by rw[Jp,hlen]⟩,q⟩
def QaQ:CallR X (.builtin "len") λxs H Q=>∃z,xs=[.str z]/\z.length<=sizeLine/\Q (.int z.length) H:=by intro aa s σ H xs us Q I r h;obtain⟨z,rfl,hz,q⟩:=h;obtain⟨u,rfl,t,rfl⟩:=Ub r;have hn:=SY;exact len_str (by omega) ⟨.int z.length,H,I.tok _,⟨_,rfl⟩,q⟩
def CallR.or{f:Value}{r r':List V->Hp->VK->Prop}(h:CallR X f r)(h':CallR X f r'):CallR X f λxs H Q=>r xs H Q\/r' xs H Q:=by
 intro aa s σ H xs us Q I rs q;rcases q with q|q;·exact h aa s σ H xs us Q I rs q
 ·exact h' aa s σ H xs us Q I rs q
def Ht(K:W.Frag)(T:String)(x:V)(H:Hp):Prop:=match x with|.str _=>T="str"|.int _=>T="int"|.ref p=>(T="list"/\∃xs,SqL K H p xs)\/(T="tuple"/\∃o,K.lookup p=some o/\o.cls=.type "tuple"/\o.dict=none)\/T="dict"/\((∃ah,H p=some (.dK ah))\/∃ah,H p=some (.dT ah))\/T="set"/\∃S n,H p=some (.set S n)|_=>False
def Ab{aa:List (Addr×Obj)}{σ:St}{H:Hp}{s:Shared}{T:String}{x:V}{v:Value}(I:Inv X aa σ H s)(r:RelV x v)(ty:Ht X.K T x H):s.TypeIs v T/\∀a,v=.ref a->∃ob,s.heap.get? a=some ob/\ob.dict=none:=by cases x with
 |str z=>obtain⟨t,rfl⟩:=r;cases(show T="str"from ty);exact⟨typeIs_str s z t,λ_ e=>nomatch e⟩|int i=>obtain⟨t,rfl⟩:=r;cases(show T="int"from ty);exact⟨typeIs_int s i t,λ_ e=>nomatch e⟩|ref p=>
  cases r;rcases ty with⟨rfl,xs,hq⟩|⟨rfl,o,hk,hc,hd⟩|⟨rfl,hk⟩|⟨rfl,S,n,hk⟩
  ·obtain⟨its,_,pl,_⟩:=I.list hq;refine⟨pl.isList.typeIs,λa e=>?_⟩;cases e;obtain⟨o,n,e,c,hd,_⟩:=pl;exact⟨o,e,hd⟩
  ·refine⟨⟨o,I.kIn p o hk,hc⟩,λa e=>?_⟩;cases e;exact⟨o,I.kIn _ o hk,hd⟩
  ·have z:∃o,s.heap.get? p=some o/\o.ExactDict:=by
    rcases hk with⟨ah,hk⟩|⟨ah,hk⟩
    ·obtain⟨_,_,_,_,o,_,_,e,ex,_⟩:=I.hok p _ hk;exact⟨o,e,ex⟩
    ·obtain⟨_,_,_,_,o,_,_,e,ex,_⟩:=I.hok p _ hk;exact⟨o,e,ex⟩
   obtain⟨o,e,ex⟩:=z;refine⟨⟨o,e,ex.1⟩,λa e2=>?_⟩;cases e2;exact⟨o,e,ex.2.1⟩
  ·obtain⟨o,_,_,_,e,ex,_⟩:=I.hok p _ hk;refine⟨⟨o,e,ex.1⟩,λa e2=>?_⟩;cases e2;exact⟨o,e,ex.2.1⟩|_=>exact False.elim ty
def Qis(K:W.Frag)(T:String)(r:V->List V->Hp->VK->Prop)(to:TE):TE:=λσ H Q=>to σ H λx H1=>Ht K T x H1/\r x [] H1 Q
def R6(K:W.Frag)(T:String)(r:V->List V->Hp->VK->Prop)(to:TE)(t:TA):TE:=λσ H Q=>to σ H λx H1=>Ht K T x H1/\t σ H1 λxs H2=>r x xs H2 Q
variable{o e:Expr}{es:List Expr}{to:TE}{t:TA}{name:Str}{apos aI:Pos}{T id:String}{r:V->List V->Hp->VK->Prop}
def QgM(pa:PlainAttrs T)(slot:Slot T name id)(hZ:typeOf (.builtin id)=pure (.type "method_descriptor"))(hm:OE X id r)(ho:PE X o to)(bM:attributeBase o name X.env (eval o X.env)=eval o X.env:=by rfl)(bL:(apos.endLine==aI.line)=true:=by rfl):PE X (.Call (.Attribute o name apos) [] [] aI) (Qis X.K T r to):=by intro aa s σ H Q I h;refine wpAny_Call_method0_late bM bL (QW (ho aa s σ H _ I h) λv s1⟨x,H1,I1,r1,ty,q1⟩=>?_);obtain⟨h1,h2⟩:=Ab I1 r1 ty;exact⟨T,id,pa,slot,hZ,h1,h2,Calls.callWith_builtin rfl (PySem.evalArgs_none (hm aa s1 σ H1 x [] v [] Q I1 r1 .nil q1))⟩
def Sj(pa:PlainAttrs T)(slot:Slot T name id)(hZ:typeOf (.builtin id)=pure (.type "method_descriptor"))(hm:OE X id r)(ho:PE X o to)(ha:PA X (e::es) t)(bM:attributeBase o name X.env (eval o X.env)=eval o X.env:=by rfl)(cX:((backTo aI (starEach (e::es) X.env)).all (λx=>!x.1)&&(backToKw aI (keywordEach [] X.env)).all (λx=>x.1.isSome)&&decide ((e::es).length+([]:List Keyword).length+(if([]:List Keyword).isEmpty then 0 else 1)<30))=true:=by rfl)(bL:(apos.endLine==aI.line)=true:=by rfl)(hs:starEach (e::es) X.env=(false,eval e X.env)::starEach es X.env:=by rfl)(eA:(backTo aI (starEach es X.env)).any (·.1)=false:=by rfl):PE X (.Call (.Attribute o name apos) (e::es) [] aI) (R6 X.K T r to t):=by intro aa s σ H Q I h;refine wpAny_Call_method_late bM cX bL rfl (QW (ho aa s σ H _ I h) λv s1⟨x,H1,I1,r1,ty,q1⟩=>?_);obtain⟨h1,h2⟩:=Ab I1 r1 ty;refine⟨T,id,pa,slot,hZ,h1,h2,?_⟩;have hA:=ha aI aa s1 σ H1 _ I1 q1;rw[hs]at hA⊢;refine Calls.callWith_builtin (by show(false||(backTo aI (starEach es X.env)).any (·.1))=false;rw[eA]<;>rfl) (Calls.evalArgs_plain ?_);exact QW hA λus s2⟨vs,H2,I2,r2,q2⟩=>hm aa s2 σ H2 x vs v us Q I2 r1 r2 q2
end
def Gp(X:Cx)(id:String)(r:V->List V->Hp->VK->Prop):Prop:=∀(aa:List (Addr×Obj))(s:Shared)(σ:St)(H:Hp)(x:V)(xs:List V)(v:Value)(us:List Value)(Q:VK),Inv X aa σ H s->RelV x v->Vals xs us->r x xs H Q->wpAny (model X.prog X.w) X.A (call (.builtin id) (v::us)) (EP X aa σ Q) X.xe s
def Vals.one:∀{x:V}{us:List Value},Vals [x] us->∃u,us=[u]/\RelV x u|_,_,.cons r .nil=>⟨_,rfl,r⟩
def Vals.zero:∀{us:List Value},Vals [] us->us=[]|_,.nil=>rfl
theorem Vals.rep{xs:List V}{us:List Value}(h:Vals xs us):∀k:Nat,Vals (List.replicate k xs).flatten (List.replicate k us).flatten|0=>.nil|k+1=>by rw[UT,UT,Tq,Tq];exact Vals.append h (Vals.rep h k)
theorem Eu(its:List Value):∀(k:Nat)(acc:List Value),List.foldl (λx1 x2=>x1++x2) acc.toArray (List.replicate k its.toArray)=(acc++(List.replicate k its).flatten).toArray
 |0,acc=>by simp|k+1,acc=>by
  have e:acc.toArray++its.toArray=(acc++its).toArray:=by simp
  have e2:acc++its++(List.replicate k its).flatten=acc++(List.replicate (k+1) its).flatten:=by rw[UT,Tq,Vy]
  rw[<-e2,<-Eu its k (acc++its),<-e,UT,YA]
section
variable{X:Cx}{aa:List (Addr×Obj)}{σ:St}{H:Hp}{s:Shared}{l b:Addr}{xs ys zs:List V}
def Inv.lset{its its':List Value}{n:Nat}{f:Array Value->Array Value}{t':Nat}(I:Inv X aa σ H s)(hH:H l=some (.lst xs))(e:s.heap.get? l=some {cls:=.type "list",data:=.seq its.toArray n})(hf:f its.toArray=its'.toArray)(hv:Vals ys its')(hz:ys.length<=sizeLine):Inv X aa σ (upd H l (.lst ys)) {s with heap:=s.heap.update l (Obj.mapSeq f),toks:=t'}:=by have q:=PySem.IsL.update e f;rw[hf]at q;refine I.write (x:=l) (e:=l) (by rw[hH];exact trivial) (.inl rfl) (λb' u hb hu=>(Heap.get?_update_other s.heap (Obj.mapSeq f) (Ne.symm hb)).trans hu) ⟨_,q⟩ ?_;exact⟨hz,its',_,hv,q⟩
def Inv.lnew{its:List Value}{t':Nat}(I:Inv X aa σ H s)(hv:Vals ys its)(hz:ys.length<=sizeLine):Inv X aa σ (upd H s.heap.objs.size (.lst ys)) {s with heap:=s.heap.push {cls:=.type "list",data:=.seq its.toArray},toks:=t'}:=I.laid (λ_ _ q=>Heap.get?_push_of_some _ q) (Qz _) ⟨hz,its,0,hv,Heap.get?_push_size _ rfl⟩
theorem Inv.fresh(I:Inv X aa σ H s):H s.heap.objs.size=none:=I.hok.fresh (Qz _)
def Inv.lstM(I:Inv X aa σ H s)(hH:H l=some (.lst xs)):xs.length<=sizeLine/\∃(its:List Value)(n:Nat),Vals xs its/\xs.length=its.length/\s.heap.get? l=some {cls:=.type "list",data:=.seq its.toArray n}:=by obtain⟨z,its,n,r,e⟩:=I.hok l _ hH;exact⟨z,its,n,r,r.length,e⟩
def CF{n:Nat}(h:n<=sizeLine):Builtin.List.listTooLong n=false:=by unfold Builtin.List.listTooLong;exact JU (by omega)
end
section
variable{X:Cx}
def Cj:V->List V->Hp->VK->Prop:=λx vs H Q=>∃l xs y,x=.ref l/\vs=[y]/\H l=some (.lst xs)/\xs.length<sizeLine/\Q .non (upd H l (.lst (xs++[y])))
def IJ:Gp X "list.append" Cj:=by intro aa s σ H x vs v us Q I rx rv h;obtain⟨l,xs,y,rfl,rfl,hH,hz,q⟩:=h;cases rx;obtain⟨u,rfl,ru⟩:=rv.one;obtain⟨z,its,n,r,hl,e⟩:=I.lstM hH;refine call_meets F.slot_list_append ⟨_,e,rfl⟩ F.entry_list_append (F.args_list_append_2 _ _) (PySem.list_append l its.toArray n u (by rw[Jp];omega)) ⟨e,?_⟩;refine⟨.non,_,I.lset (its':=its++[u]) hH e (by simp) (r.append (.cons ru .nil)) ?_,rfl,q⟩;rw[Qe,Tr];omega
def MK:V->List V->Hp->VK->Prop:=λx vs H Q=>∃l b xs zs,x=.ref l/\vs=[.ref b]/\H l=some (.lst xs)/\H b=some (.lst zs)/\xs.length+zs.length<=sizeLine/\Q .non (upd H l (.lst (xs++zs)))
def IK:Gp X "list.extend" MK:=by
 intro aa s σ H x vs v us Q I rx rv h;obtain⟨l,b,xs,zs,rfl,rfl,hH,hB,hz,q⟩:=h;cases rx;obtain⟨u,rfl,ru⟩:=rv.one;cases ru;obtain⟨z,its,n,r,hl,e⟩:=I.lstM hH;obtain⟨z2,bO,n2,r2,cS,e2⟩:=I.lstM hB;have hsz:its.toArray.size+bO.toArray.size<=sizeLine:=by rw[Jp,Jp];omega
 have c6:¬(!its.toArray.isEmpty&&Builtin.List.listTooLong (its.toArray.size+bO.toArray.size))=true:=by
  rw[CF hsz,Bool.and_false];exact WR
 refine call_meets F.slot_list_extend ⟨_,e,rfl⟩ F.entry_list_extend (F.args_list_extend_2 _ _) (AutoSeq1.list_extend_list_list_0 l its.toArray n b bO.toArray n2 c6 (by rw[Jp];omega) (by omega)) ⟨e,e2,?_⟩;refine⟨.non,_,I.lset (its':=its++bO) hH e (by simp) (r.append r2) ?_,rfl,q⟩;rw[Qe];omega
def Iu:R2:=λx y H Q=>∃l b xs zs,x=.ref l/\y=.ref b/\H l=some (.lst xs)/\H b=some (.lst zs)/\xs.length+zs.length<=sizeLine/\∀p,H p=none->Q (.ref p) (upd H p (.lst (xs++zs)))
def Qgk:OpR X (binaryOp .Add) Iu:=by
 intro aa s σ H x y v u Q I rx ry h;obtain⟨l,b,xs,zs,rfl,rfl,hH,hB,hz,q⟩:=h;cases rx;cases ry;obtain⟨z,its,n,r,hl,e⟩:=I.lstM hH;obtain⟨z2,bO,n2,r2,cS,e2⟩:=I.lstM hB;refine PySem.P.add_list e e2 ?_ (by rw[Jp,Jp];omega);have ea:its.toArray++bO.toArray=(its++bO).toArray:=by simp
 rw[ea];exact⟨.ref _,_,I.lnew (t':=s.toks) (r.append r2) (by rw[Qe];omega),rfl,q _ I.fresh⟩
def Iz:R2:=λx y H Q=>∃l k xs,x=.ref l/\y=.int k/\H l=some (.lst xs)/\-2^63<=k/\k<2^63/\xs.length*k.toNat<=sizeLine/\∀p,H p=none->Q (.ref p) (upd H p (.lst (List.replicate k.toNat xs).flatten))
def Qer{α:Type}(xs:List α)(k:Nat):(List.replicate k xs).flatten.length=k*xs.length:=by induction k with|zero=>simp|succ k ih=>rw[UT,Tq,Qe,ih,Nat.succ_mul,Nat.add_comm]
def Qgz:OpR X (binaryOp .Mult) Iz:=by
 intro aa s σ H x y v u Q I rx ry h;obtain⟨l,k,xs,rfl,rfl,hH,h1,h2,hz,q⟩:=h;cases rx;obtain⟨t,rfl⟩:=ry;obtain⟨z,its,n,r,hl,e⟩:=I.lstM hH;have hlen:its.toArray.size*k.toNat<=sizeLine:=by rw[Jp,<-hl];exact hz
 have jc:¬its.toArray.size*k.toNat>(2^63-1)/8:=by
  have:(sizeLine:Nat)<=(2^63-1)/8:=by decide
  omega
 have cW:¬(!Builtin.List.listFitsIndex k)=true:=by
  rw[fitsIndex_both h1 h2];exact WR
 have c6:¬Builtin.List.listTooLong (its.toArray.size*k.toNat)=true:=by rw[CF hlen];exact WR
 have i7:List.foldl (λx1 x2=>x1++x2) #[] (List.replicate (if its.toArray.isEmpty=true then 0 else k.toNat) its.toArray)=(List.replicate k.toNat its).flatten.toArray:=by
  have f0:∀m:Nat,List.foldl (λx1 x2=>x1++x2) #[] (List.replicate m its.toArray)=(List.replicate m its).flatten.toArray:=λm=>by
   have:=Eu its m [];rw[nil_append]at this;exact this
  rw[f0];cases its with|nil=>simp|cons a r'=>rw[if_neg (by simp)]
 refine wpAny_binaryOp_repeat_ref (T:="list") (U:="int") (by decide) ⟨_,e,rfl⟩ (λs'=>typeIs_int s' k t) noFill_list_mul F.fills_int_mul F.slot_int_rmul repeat_list F.slot_int_index.lookup (call_meets F.slot_int_rmul (typeIs_int s k t) F.entry_int_rmul (F.args_int_rmul_2 _ _) (int___rmul___int_list k t l its.toArray n) ⟨e,rfl,⟨_,e,rfl⟩,call_meets F.slot_list_mul ⟨_,e,rfl⟩ F.entry_list_mul (F.args_list_mul_2 _ _) (AutoListH.list___mul___list_int_3 l its.toArray n k t cW jc c6) ⟨e,?_⟩⟩);rw[i7];exact⟨.ref _,_,I.lnew (t':=s.toks) (r.rep k.toNat) (by rw[Qer,Nat.mul_comm];exact hz),rfl,q _ I.fresh⟩
end
end L2
namespace Att
open PySem PySem.W PySem.Calls PyProof.Rows
def QdG{P:Params}{h:Heap}:∀(ns:List Int)(vs:List Value),WellAll P h vs (ns.map WData.int)->IntsAre vs ns:=by intro ns;induction ns with|nil=>intro vs w;rw[map_nil]at w;cases w;exact .nil|cons n ns ih=>intro vs w;rw[ZT]at w;cases w with|cons a b=>cases a;exact .cons _ _ (ih _ b)
def QhX{l:OpenLaw}{n:Nat}(hn:l.most=some n){P:Params}{h:Heap}{args:List WData}{vals:List Value}(dm:l.row.toRowW.claim.pre args=true)(hJ:WellAll P h vals args):∃a vs ns,vals=[Value.ref a]/\args=[WData.list (ns.map WData.int)]/\h.get? a=some {cls:=.type "list",data:=.seq vs.toArray}/\IntsAre vs ns/\ns.length<=n:=by
 have kL:WShape.hasAll [] args [.list .int]=true:=(pre_splitW dm).1;have hc:l.pre.holds [] {args:=args}=true:=(pre_splitW dm).2;obtain⟨d,r,rfl,h1,h2⟩:=hasAllW_cons kL;obtain rfl:=hasAllW_nil h2;obtain⟨xs,rfl,h3⟩:=hasW_list h1;obtain⟨ns,rfl⟩:=items_int h3;have hlen:ns.length<=n:=by
  unfold OpenLaw.pre at hc;have h4:(WTm.not (.lt (.lit (.int (n:Int))) (.len (.arg 0)))).holds [] {args:=[.list (ns.map .int)]}=true:=by
   have h4:=(holds_andW hc).1;rw[hn]at h4;exact h4
  have h5:=condW_of h4 (w_not (w_lt w_lit (w_len_list (w_arg rfl))));rw[Qo]at h5;refine Nat.le_of_not_lt λq=>?_;have q':(n:Int)<((ns.length:Nat):Int):=by omega
  first
   |(rw[Z6 q']at h5;exact absurd h5 (by decide))|(simp at h5;omega)
 cases hJ with|cons w1 w2=>cases w2;cases w1 with|list ho jd=>exact⟨_,_,ns,rfl,rfl,ho,QdG ns _ jd,hlen⟩
def Qhh(l:OpenLaw)(args:List WData):l.row.toRowW.claim.post args (.bool true) args=true:=postW_of (r:=l.row.toRowW) (X:=true==true) (show WShape.has [] (.bool true) .bool=true by first|rfl|decide|simp[WShape.has,WShape.arms,WShape.armsAll]) (show(WTm.eq .res (.lit (.bool true))).value [] {args:=args,res:=some (.bool true),after:=args}=some (.bool (true==true))from w_eq_bool (w_res rfl) w_lit) rfl
def attach_call{l:OpenLaw}{n:Nat}{q:Program}{loose:List Str}{XP:(Str->Option Value)->Heap->Prop}{YP:World->Heap->Prop}{d:DefRec}(hn:l.most=some n)(fE:d.params.defaults=[])(call:∀(w:World)(s₀ s₁:Shared)(mg mb:Str->Option Value)(fa:Addr)(o:Obj)(pm cd doc:Value)(a:Addr)(vs:List Value)(ns:List Int),Ground q loose [] XP w s₀ mg mb s₁.heap->YP w s₁.heap->s₁.heap.get? fa=some o->o.data=.func (docDef d.name d.params d.body d.scope pm cd doc)->s₁.heap.CodeRec cd d.name->mg d.name=some (.ref fa)->s₁.heap.get? a=some {cls:=.type "list",data:=.seq vs.toArray}->IntsAre vs ns->ns.length<=n->s₁.gens=#[]->codeAny (model l.prog w) callerA (.call (.ref fa) ⟨[.ref a],[]⟩) (λr s'=>r=.ok (.ret (.bool true))/\OldK s₁.heap s'.heap/\s'.os=s₁.os/\AllBare s'.gens) s₁):WalkO q loose XP YP l.row.toRowW d [] λf vs=>PySem.call f vs:=by intro w s₀ s₁ mg mb G Y fa o pm cd doc dV kV ho hd b5 hD fB hg args vals as dm mB hrd hJ hlo;obtain rfl:dV=.none:=Dflts.none hD fE;obtain rfl:kV=.none:=Dflts.noKw hD;obtain⟨a,vs,ns,rfl,rfl,ef,hints,hlen⟩:=QhX hn dm hJ;refine enter_call (codeAny_mono (call w s₀ s₁ mg mb fa o pm cd doc a vs ns G Y ho (fd_plain hd) b5 fB ef hints hlen hg) λr s' hq=>? _);obtain⟨rfl,h2,h3,h4⟩:=hq;exact⟨.inl ⟨.bool true,.bool true,[],rfl,λ_=>rfl,.bool true,Qhh l _,λ_=>⟨List.Pairwise.nil,λ_ hm=>nomatch hm⟩⟩,h2,h3,h4⟩
end Att
namespace L2
open PySem PySem.Spec PyProof.Rows
theorem Ah:∀{vs:List Value}{ns:List Int},IntsAre vs ns->Vals (ns.map V.int) vs|_,_,.nil=>.nil|_,_,.cons n t h=>.cons ⟨t,rfl⟩ (Ah h)
def L9(H:Hp):Prop:=∀b,H b=none\/∃o xs,H b=some (.frz o (.lst xs))
def Qej{P:Program}{w:World}{K:W.Frag}{mg mb:Str->Option Value}{CX:XA}{k:Nat}{fa a:Addr}{fd:FuncData}{x:Str}{sp:Sp}{s₁:Shared}{vs:List Value}{ns:List Int}(KX:K.In s₁.heap)(eO:s₁.heap.Ns mainGlobals mg)(hb:s₁.heap.Ns builtinsNs mb)(lM:∀x:Str,x≠"__name__"->mb x=bootBuiltins x)(i8:s₁.heap.NoLimit)(hg:s₁.gens=#[])(ha:s₁.heap.get? a=some {cls:=.type "list",data:=.seq vs.toArray})(hi:IntsAre vs ns)(hl:ns.length<=sizeLine)(hr:Room k callerA)(F:∀ab:Heap,K.In ab->ab.Ns mainGlobals mg->FnOk P w K mg ab CX k fa fd [x] sp)(f6:∀(s:Shared)(u:Value),BindsTo s fd ⟨[u],[]⟩ [(x,u)])(dA:∀H:Hp,L9 H->SqL K H a (ns.map V.int)->sp [.ref a] H (λv _=>v=.bl true) λ_ _ _=>False)(iy:∀H e s',CX [] H s₁ (λ_ _ _=>False) e s'->False):codeAny (model P w) callerA (.call (.ref fa) ⟨[.ref a],[]⟩) (λr s'=>r=.ok (.ret (.bool true))/\OldK s₁.heap s'.heap/\s'.os=s₁.os/\AllBare s'.gens) s₁:=by
 have rv:=Ah hi;have iS:=hi.length;have core:∀H:Hp,L9 H->SqL K H a (ns.map V.int)->HOk P w H s₁.heap->(∀b,H b≠none->b=a)->(H a≠none->K.lookup a=none)->codeAny (model P w) callerA (.call (.ref fa) ⟨[.ref a],[]⟩) (λr s'=>r=.ok (.ret (.bool true))/\OldK s₁.heap s'.heap/\s'.os=s₁.os/\AllBare s'.gens) s₁:=by
  intro H hO hS hok hA hK;have cF:∀{b:Addr}{o:Obj},s₁.heap.get? b=some o->H b=none->(UJ s₁.heap H).get? b=some o:=λe n=>Qdu e n;have fg:∀{b:Addr}{o:Obj}{es:Array DictEntry}{ep:Nat},s₁.heap.get? b=some o->o.data=.dict es ep->H b=none:=λ{b o es ep}e d=>by cases q:H b with|none=>rfl|some u=>
    have e':b=a:=hA b (by rw[q];simp);subst e';rw[ha]at e;cases e;have d':Data.seq vs.toArray _=Data.dict es ep:=d;cases d'
  have gm:∀{b:Addr}{m:Str->Option Value},s₁.heap.Ns b m->(UJ s₁.heap H).Ns b m:=λ{b m}⟨o,es,ep,e,d,r⟩=>⟨o,es,ep,cF e (fg e d),d,r⟩;have jK:K.In (UJ s₁.heap H):=λb o e=>cF (KX b o e) (by cases q:H b with
   |none=>rfl|some u=>have e':b=a:=hA b (by rw[q];simp);subst e';rw[hK (by rw[q];simp)]at e;cases e);have hM:Mod K mg (UJ s₁.heap H):=⟨jK,gm eO,⟨mb,gm hb,lM⟩,let⟨mc,h1,h2⟩:=i8;⟨mc,gm h1,h2⟩⟩;have e0:Env0 P w K mg (UJ s₁.heap H) callerA [] s₁ H:=⟨rfl,hM,λb o e=>Qfb e,le_of_eq (Qdv _ _),trivial,λb hb=>absurd (show b∈([]:List Addr)from hb) (by simp),hok,.of_eq hg⟩;refine codeAny_mono ((F _ jK (gm eO)).run callerA [] s₁ H ⟨[.ref a],[]⟩ [.ref a] [.ref a] _ _ hr e0 (f6 s₁ (.ref a)) (.cons rfl .nil) (dA H hO hS)) λr s' h=>?_;cases r with|error e=>exact(iy H e s' h).elim|ok fl=>cases fl with
   |next=>exact False.elim h|brk=>exact False.elim h|cont=>exact False.elim h|ret u=>
    obtain⟨v,H',os,bare,un,iZ,r',q⟩:=h;have q':v=.bl true:=q;subst q';obtain rfl:u=Value.bool true:=r';refine⟨rfl,OldK.of_keep λb o e=>?_,os,bare⟩;cases q:H b with|none=>exact un.keep b o e q (by intro z;exact absurd (show b∈([]:List Addr)from z) (by simp)) (by simp)|some u=>
     rcases hO b with z|⟨ob,xs,z⟩;·rw[q]at z;cases z
     ·have z2:=un.frzs b ob _ z;obtain⟨e1,_⟩:=hok b _ z;obtain⟨e2,_⟩:=iZ b _ z2;rw[e]at e1;cases e1;exact e2
 cases hk:K.lookup a with
 |some o=>
  have e:=KX a o hk;rw[ha]at e;cases e;refine core (λ_=>none) (λ_=>.inl rfl) (.inr ⟨_,vs.toArray,_,hk,rfl,rfl,rfl,by rw[Jp,iS];exact hl,by simpa using rv⟩) (λb u z=>by have z':(none:Option HO)=some u:=z;cases z') (λb z=>absurd rfl z) λz=>absurd rfl z|none=>
  refine core (λb=>if b=a then some (.frz {cls:=.type "list",data:=.seq vs.toArray} (.lst (ns.map V.int)))else none) (λb=>?_) (.inl (.inr ⟨{cls:=.type "list",data:=.seq vs.toArray},if_pos rfl⟩)) (λb u z=>?_) (λb z=>?_) λ_=>hk
  ·by_cases hb:b=a;·exact .inr ⟨_,_,if_pos hb⟩
   ·exact .inl (if_neg hb)
  ·by_cases hb:b=a
   ·have z':=(if_pos hb).symm.trans z;cases z';subst hb;exact⟨ha,by rw[Qo];exact hl,vs,_,rv,ha⟩
   ·have z':=(if_neg hb).symm.trans z;cases z'
  ·by_cases hb:b=a;·exact hb
   ·exact absurd (if_neg hb) z
def walk_of{l:W.OpenLaw}{n k:Nat}{q:Program}{loose:List Str}{XP:(Str->Option Value)->Heap->Prop}{YP:World->Heap->Prop}{d:DefRec}{K:Params->W.Frag}{CX:World->XA}{sp:World->Sp}{x:Str}(hn:l.most=some n)(gE:n<=sizeLine)(fE:d.params.defaults=[])(hr:Room k callerA)(hY:∀(w:World)(h:Heap),YP w h->(K w.params).In h)(F:∀(w:World)(mg:Str->Option Value)(fa:Addr)(h:Heap),(K w.params).In h->h.Ns mainGlobals mg->mg d.name=some (.ref fa)->∃fd:FuncData,(∀(s:Shared)(u:Value),BindsTo s fd ⟨[u],[]⟩ [(x,u)])/\∀ab:Heap,(K w.params).In ab->ab.Ns mainGlobals mg->FnOk l.prog w (K w.params) mg ab (CX w) k fa fd [x] (sp w))(dA:∀(w:World)(H:Hp)(a:Addr)(ns:List Int),ns.length<=n->L9 H->SqL (K w.params) H a (ns.map V.int)->sp w [.ref a] H (λv _=>v=.bl true) λ_ _ _=>False)(iy:∀(w:World)(H:Hp)(s:Shared)(e:Value)(s':Shared),CX w [] H s (λ_ _ _=>False) e s'->False):W.WalkO q loose XP YP l.row.toRowW d [] λf vs=>PySem.call f vs:=by refine Att.attach_call hn fE λw s₀ s₁ mg mb fa o pm cd doc a vs ns G Y ho hd b5 fB ef hints hlen hg=>? _;have KX:=hY w _ Y;obtain⟨fd,hb,hF⟩:=F w mg fa _ KX G.T.g fB;exact Qej KX G.T.g G.T.b G.T.builtins G.T.nolimit hg ef hints (Zk hlen gE) hr hF hb (λH hO hS=>dA w H a ns hlen hO hS) λH e s'=>iy w H s₁ e s'
noncomputable def Ws(s:Stmt):Arguments:=match s with|.FunctionDef _ a _ _ _ _ _ _ _ _=>a|_=>{posonlyargs:=[],args:=[],vararg:=none,kwonlyargs:=[],kw_defaults:=[],kwarg:=none,defaults:=[]}
noncomputable def VN(s:Stmt):List Stmt:=match s with|.FunctionDef _ _ b _ _ _ _ _ _ _=>b|_=>[]
noncomputable def Qr(s:Stmt):Scope:=match s with|.FunctionDef _ _ _ _ _ _ sc _ _ _=>sc|_=>{kind:=.function,names:=[],isGenerator:=false,isCoroutine:=false}
abbrev V8:XA:=λ_ _ _ _ _ _=>False
abbrev E0:XK:=λ_ _ _=>False
def Ig{X:Cx}:LB V8 X E0:=λ_ _ _ _ _ _ _ h=>h.elim
structure Fun(K:W.Frag)(x qual:Str)(st:Stmt)(f:Addr)(fd:FuncData):Prop where
 ex:∃(oc:Value)(od:Option Addr)(kV doc pm:Value)(an:Option Addr)(aA ct:Value)(cQ:Array (Option Value)),fd=W.fnOf x qual (Ws st) (VN st) (Qr st) .none kV doc pm an aA ct/\K.lookup f=some ⟨oc,od,.func fd,cQ⟩/\W.codeIn K aA qual=true
 kp:W.keepIn K (.ref f)=true
section
variable{P:Program}{w:World}{K:W.Frag}{mg:Str->Option Value}{ab:Heap}
def Fun.ok{x qual:Str}{st:Stmt}{f:Addr}{fd:FuncData}{N ps:List Str}{k:Nat}{sp:Sp}(F:Fun K x qual st f fd)(S:FnScope N ps (Qr st))(len:∀vs H Q E,sp vs H Q E->vs.length=ps.length)(c7:∀(aA:Value)(A:Around)(ag:List Env)(s:Shared)(H:Hp)(vs:List V)(Q:VK)(E:XK),Room k (A.deeper (envOfC qual (Qr st) s.heap.objs.size f aA))->sp vs H Q E->∃t,PSs (Vb V8 P w K mg ab N qual (Qr st) f aA A ag s H E).nox (VN st) t/\t {nx:=λ_ H'=>Q .non H',rt:=Q} (Wl N vs) H):FnOk P w K mg ab V8 (k+1) f fd ps sp:=by obtain⟨oc,od,kV,doc,pm,an,aA,ct,cQ,rfl,lk,b5⟩:=F.ex;refine Qde lk b5 S len λA ag s H vs Q E hr dA=>?_;obtain⟨t,h,q⟩:=c7 aA A ag s H vs Q E hr dA;exact⟨t,h.nox,q⟩
def Fun.binds{x qual:Str}{st:Stmt}{f:Addr}{fd:FuncData}{ps:List Str}(F:Fun K x qual st f fd)(h:∀(kV doc pm:Value)(an:Option Addr)(aA ct:Value)(us:List Value),us.length=ps.length->bindArgs (W.fnOf x qual (Ws st) (VN st) (Qr st) .none kV doc pm an aA ct) ⟨us,[]⟩=pure (ps.zip us)):Binds K fd ps []:=by obtain⟨oc,od,kV,doc,pm,an,aA,ct,cQ,rfl,lk,b5⟩:=F.ex;exact .all (h kV doc pm an aA ct)
def Kw{x qual:Str}{st:Stmt}{f:Addr}{oc:Value}{od an:Option Addr}{cQ:Array (Option Value)}{kV doc pm aA ct:Value}(l:K.lookup f=some ⟨oc,od,.func (W.fnOf x qual (Ws st) (VN st) (Qr st) .none kV doc pm an aA ct),cQ⟩)(c:W.codeIn K aA qual=true)(k:W.keepIn K (.ref f)=true):Fun K x qual st f (W.fnOf x qual (Ws st) (VN st) (Qr st) .none kV doc pm an aA ct):=⟨⟨oc,od,kV,doc,pm,an,aA,ct,cQ,rfl,l,c⟩,k⟩
end
def UL{A B:Prop}(h:B):if false=true then A else B:=by rw[if_neg WR];exact h
def UM{A B:Prop}(h:A):if true=true then A else B:=by rw[if_pos rfl];exact h
section
variable{κ:Type}[DecidableEq κ]
noncomputable def Zu(ah:List (κ×V))(k:κ):Option V:=(ah.find? λkv=>decide (kv.1=k)).map (·.2)
noncomputable def VJ(ah:List (κ×V))(k:κ)(v:V):List (κ×V):=if(ah.any λkv=>decide (kv.1=k))=true then ah.map (λkv=>if kv.1=k then(kv.1,v)else kv)else ah++[(k,v)]
noncomputable def Qjb(ah:List (κ×V))(k:κ):List (κ×V):=ah.filter λkv=>decide (kv.1≠k)
def O9{p:κ×V}{r:List (κ×V)}{k:κ}(e:p.1=k):Zu (p::r) k=some p.2:=by simp[Zu,find?_cons,e]
def R8{p:κ×V}{r:List (κ×V)}{k:κ}(e:¬p.1=k):Zu (p::r) k=Zu r k:=by simp[Zu,find?_cons,e]
theorem Hv(k:κ):∀ah:List (κ×V),(ah.any λkv=>decide (kv.1=k))=(Zu ah k).isSome
 |[]=>rfl|p::r=>by
  rw[any_cons];by_cases e:p.1=k;·simp only[O9 e,Z6 e,Bool.true_or,Option.isSome_some]
  ·rw[R8 e,JU e,Bool.false_or];exact Hv k r
def IG(ah:List (κ×V))(k:κ)(v:V):(VJ ah k v).length<=ah.length+1:=by
 unfold VJ;split;·rw[Qo];omega
 ·rw[Qe,JV,WT];omega
def Qhs{ah:List (κ×V)}{k:κ}(v:V)(h:Zu ah k=none):VJ ah k v=ah++[(k,v)]:=by unfold VJ;rw[Hv,h];exact if_neg (by decide)
def RelO.isSome_eq{o:Option V}{u:Option Value}(r:RelO o u):o.isSome=u.isSome:=by cases o with
 |none=>cases u with|none=>rfl|some _=>exact(show False from r).elim
 |some _=>cases u with|none=>exact(show False from r).elim|some _=>rfl
def KV.val{ah:List (κ×V)}{vs:List (κ×Value)}(r:KV ah vs)(k:κ):RelO (Zu ah k) (valueAt vs k):=by unfold KV at r;induction r with|nil=>exact True.intro|@cons p q ps qs h t ih=>
  obtain⟨h1,h2⟩:=h;by_cases e:p.1=k
  ·have e':q.1=k:=h1.symm.trans e;have b:valueAt (q::qs) k=some q.2:=by simp[valueAt,find?_cons,e']
   rw[O9 e,b];exact h2
  ·have e':¬q.1=k:=λz=>e (h1.trans z);have b:valueAt (q::qs) k=valueAt qs k:=by simp[valueAt,find?_cons,e']
   rw[R8 e,b];exact ih
theorem KV.any{ah:List (κ×V)}{vs:List (κ×Value)}(r:KV ah vs)(k:κ):(ah.any λkv=>decide (kv.1=k))=vs.any λkv=>decide (kv.1=k):=by unfold KV at r;induction r with|nil=>rfl|cons h t ih=>rw[any_cons,any_cons,ih,h.1]
def KV.repl{ah:List (κ×V)}{vs:List (κ×Value)}(r:KV ah vs)(k:κ){y:V}{u:Value}(ry:RelV y u):KV (ah.map λkv=>if kv.1=k then(kv.1,y)else kv) (vs.map λkv=>if kv.1=k then(kv.1,u)else kv):=by unfold KV at r⊢;induction r with|nil=>exact .nil|@cons p q ps qs h t ih=>
  rw[ZT,ZT];refine .cons ?_ ih;obtain⟨h1,h2⟩:=h;by_cases e:p.1=k;·rw[if_pos e,if_pos (h1.symm.trans e)];exact⟨h1,ry⟩
  ·rw[if_neg e,if_neg (λz=>e (h1.trans z))];exact⟨h1,h2⟩
def KV.put{ah:List (κ×V)}{vs:List (κ×Value)}(r:KV ah vs)(k:κ){y:V}{u:Value}(ry:RelV y u):KV (VJ ah k y) (stored vs k u):=by
 unfold VJ stored;rw[r.any k];by_cases e:(vs.any λkv=>decide (kv.1=k))=true;·rw[if_pos e,if_pos e];exact r.repl k ry
 ·rw[if_neg e,if_neg e];exact Paired.snoc r ⟨rfl,ry⟩
theorem KV.length{ah:List (κ×V)}{vs:List (κ×Value)}(r:KV ah vs):ah.length=vs.length:=Paired.length r
end
def SW{P:Program}{w:World}{k:JA}{u:Value}(r:RelV (kV k) u):(Yt P w).is k u=true:=by cases k with|inl i=>obtain⟨t,e⟩:=show∃t,u=Value.int i t from r;subst e;exact QeH P w i t|inr x=>obtain⟨t,e⟩:=show∃t,u=Value.str x t from r;subst e;exact QeI P w x t
theorem DD{P:Program}{w:World}:∀{ks:List JA}{us:List Value},Vals (ks.map kV) us->ItemsAre (Yt P w) ks us|[],_,r=>by rw[map_nil]at r;cases r;exact .nil|k::ks,_,r=>by rw[ZT]at r;cases r with|cons h t=>exact .cons (SW h) (DD t)
abbrev KT(H:Hp):List (List JA×V)->List (List JA×Addr×Value)->Prop:=Paired λp q=>p.1=q.1/\H q.2.1=some (.tup (p.1.map kV))/\RelV p.2 q.2.2
def KT.val{H:Hp}{ah:List (List JA×V)}{xs:List (List JA×Addr×Value)}(r:KT H ah xs)(k:List JA):RelO (Zu ah k) ((atKey xs k).map (·.2)):=by induction r with|nil=>exact True.intro|@cons p q ps qs h t ih=>
  obtain⟨h1,_,h2⟩:=h;by_cases e:p.1=k
  ·have e':q.1=k:=h1.symm.trans e;have b:atKey (q::qs) k=some q.2:=by simp[atKey,find?_cons,e']
   rw[O9 e,b];exact h2
  ·have e':¬q.1=k:=λz=>e (h1.trans z);have b:atKey (q::qs) k=atKey qs k:=by simp[atKey,find?_cons,e']
   rw[R8 e,b];exact ih
def KT.repl{H:Hp}{ah:List (List JA×V)}{xs:List (List JA×Addr×Value)}(r:KT H ah xs)(k:List JA){y:V}{u:Value}(ry:RelV y u):KT H (ah.map λkv=>if kv.1=k then(kv.1,y)else kv) (xs.map (putAt k u)):=by induction r with
 |nil=>exact .nil|@cons p q ps qs h t ih=>
  rw[ZT,ZT];refine .cons ?_ ih;obtain⟨h1,h2,h3⟩:=h;unfold putAt;by_cases e:p.1=k;·rw[if_pos e,if_pos (h1.symm.trans e)];exact⟨h1,h2,ry⟩
  ·rw[if_neg e,if_neg (λz=>e (h1.trans z))];exact⟨h1,h2,h3⟩
def KT.put{H:Hp}{ah:List (List JA×V)}{xs:List (List JA×Addr×Value)}(r:KT H ah xs)(k:List JA){b:Addr}{y:V}{u:Value}(hb:H b=some (.tup (k.map kV)))(ry:RelV y u):KT H (VJ ah k y) (storedH xs k b u):=by
 have e:(ah.any λkv=>decide (kv.1=k))=(atKey xs k).isSome:=by rw[Hv,(r.val k).isSome_eq,isSome_map]
 unfold VJ storedH;rw[e];by_cases q:(atKey xs k).isSome=true;·rw[if_pos q,if_pos q];exact r.repl k ry
 ·rw[if_neg q,if_neg q];exact Paired.snoc r ⟨rfl,hb,ry⟩
def KT.keeps{H H':Hp}{ah:List (List JA×V)}{xs:List (List JA×Addr×Value)}(r:KT H ah xs)(ht:∀b ys,H b=some (.tup ys)->H' b=some (.tup ys)):KT H' ah xs:=Paired.mapP r λ_ _ z=>⟨z.1,ht _ _ z.2.1,z.2.2⟩
section
variable{P:Program}{w:World}{H:Hp}{h:Heap}{a:Addr}
def Cr{u:HO}(ok:HOk P w H h)(e:Rd H a u):ObjOk P w H h a u:=e.ok ok
def Ra{ah:List (JA×V)}(ok:HOk P w H h)(e:Rd H a (.dK ah)):ah.length<=sizeLine/\(a==sysModules)=false/\∃vs,KV ah vs/\h.DictOf (Yt P w) a vs:=show ObjOk P w H h a (.dK ah)from Cr ok e
def EJ{ah:List (JA×V)}(ok:HOk P w H h)(e:H a=some (.dK ah)):ah.length<=sizeLine/\(a==sysModules)=false/\∃vs,KV ah vs/\h.DictOf (Yt P w) a vs:=Ra ok (.inl e)
def P7{ks:List JA}(ok:HOk P w H h)(e:H a=some (.tup (ks.map kV))):(tupleKind (Yt P w)).is h ks a:=by obtain⟨_,its,r,o,h1,h2,n,h3⟩:=show ObjOk P w H h a (.tup (ks.map kV))from ok a _ e;exact⟨o,its.toArray,n,h1,h2,h3,by simpa using DD r⟩
def Rc{ah:List (List JA×V)}(ok:HOk P w H h)(e:Rd H a (.dT ah)):ah.length<=sizeLine/\(a==sysModules)=false/\∃xs,KT H ah xs/\h.DictOfH (tupleKind (Yt P w)) a xs:=by
 obtain⟨z,y,xs,r,o,es,ep,h1,h2,h3,h4,h5⟩:=(show ObjOk P w H h a (.dT ah)from Cr ok e);refine⟨z,y,xs,r,o,es,ep,h1,h2,h3,h4,λx hx=>?_,h5⟩;have all:∀{l:List (List JA×V)}{m:List (List JA×Addr×Value)},KT H l m->∀x∈m,(tupleKind (Yt P w)).is h x.1 x.2.1:=by intro l m q;induction q with
  |nil=>intro x hx;exact nomatch hx|@cons p q ps qs hq t ih=>
   intro x hx;rcases q_5.mp hx with e|hx
   ·subst e;exact P7 ok (by rw[<-hq.1];exact hq.2.1)
   ·exact ih x hx
 exact all r x hx
def QcR{ah:List (List JA×V)}(ok:HOk P w H h)(e:H a=some (.dT ah)):ah.length<=sizeLine/\(a==sysModules)=false/\∃xs,KT H ah xs/\h.DictOfH (tupleKind (Yt P w)) a xs:=Rc ok (.inl e)
end
def DGet(H:Hp)(a:Addr)(y:V)(r:Option V):Prop:=(∃ah k,Rd H a (.dK ah)/\y=kV k/\r=Zu ah k)\/∃ah k b,Rd H a (.dT ah)/\y=.ref b/\H b=some (.tup (k.map kV))/\r=Zu ah k
def DPut(H:Hp)(a:Addr)(y v:V)(H':Hp):Prop:=(∃ah k,H a=some (.dK ah)/\y=kV k/\ah.length<sizeLine/\H'=upd H a (.dK (VJ ah k v)))\/∃ah k b,H a=some (.dT ah)/\y=.ref b/\H b=some (.tup (k.map kV))/\ah.length<sizeLine/\H'=upd H a (.dT (VJ ah k v))
theorem DGet.k{H:Hp}{a:Addr}{ah:List (JA×V)}{k:JA}(e:H a=some (.dK ah)):DGet H a (kV k) (Zu ah k):=.inl ⟨ah,k,.inl e,rfl,rfl⟩
theorem DPut.k{H:Hp}{a:Addr}{ah:List (JA×V)}{k:JA}{v:V}(e:H a=some (.dK ah))(hl:ah.length<sizeLine):DPut H a (kV k) v (upd H a (.dK (VJ ah k v))):=.inl ⟨ah,k,e,rfl,hl,rfl⟩
section
variable{X:Cx}{aa:List (Addr×Obj)}{σ:St}{H:Hp}{s:Shared}{a:Addr}{y v:V}{u r:Value}{o:Option V}{A:Around}{E:Value->Shared->Prop}
def Inv.big(I:Inv X aa σ H s):sysModules<s.heap.objs.size:=by have h:mainGlobals<s.heap.objs.size:=(I.mod.glob.keeps I.bk).lt;exact lt_trans (by decide) h
def QbK{Q:Value->Shared->Prop}(hu:A.units+1<cLine)(I:Inv X aa σ H s)(g:DGet H a y (some v))(ry:RelV y u)(h:∀w' s',Inv X aa σ H s'->RelV v w'->Q w' s'):wpAny (model X.prog X.w) A (getItem (.ref a) u) Q E s:=by
 rcases g with⟨ah,k,e,ey,l⟩|⟨ah,k,b,e,ey,eb,l⟩
 ·subst ey;obtain⟨z,hd,vs,rel,dd⟩:=Ra I.hok e;obtain⟨w',hw,bN⟩:=RelO.some_of (v:=v) (o:=valueAt vs k) (by rw[l];exact rel.val k);exact wpAny_getItem_of (SW ry) dd.mapOf hw (h w' _ (I.tok _) bN)
 ·subst ey;cases(show u=Value.ref b from ry);obtain⟨z,hd,xs,rel,dd⟩:=Rc I.hok e;obtain⟨w',hw,bN⟩:=RelO.some_of (v:=v) (o:=(atKey xs k).map (·.2)) (by rw[l];exact rel.val k);obtain⟨p,hp,kR⟩:=q_78.mp hw;refine wpAny_getItem_heap (tupleKind_room_in1 hu) (P7 I.hok eb) dd hp ?_;rw[kR];exact h w' _ (I.tok _) bN
def QbN{Q:Value->Shared->Prop}(hu:A.units+1<cLine)(I:Inv X aa σ H s)(g:DGet H a y o)(ry:RelV y u)(h:∀s',Inv X aa σ H s'->Q (.bool o.isSome) s'):wpAny (model X.prog X.w) A (compareOp .In u (.ref a)) Q E s:=by
 rcases g with⟨ah,k,e,ey,l⟩|⟨ah,k,b,e,ey,eb,l⟩
 ·subst ey;obtain⟨z,hd,vs,rel,dd⟩:=Ra I.hok e;refine wpAny_in_of (SW ry) hd dd.mapOf ?_;rw[<-(rel.val k).isSome_eq,<-l];exact h _ (I.tok _)
 ·subst ey;cases(show u=Value.ref b from ry);obtain⟨z,hd,xs,rel,dd⟩:=Rc I.hok e;refine wpAny_in_heap (tupleKind_room_in1 hu) (P7 I.hok eb) hd dd ?_;have q:=(rel.val k).isSome_eq;rw[isSome_map]at q;rw[<-q,<-l];exact h _ (I.tok _)
def Qb8{Q:Value->Shared->Prop}(hu:A.units+1<cLine)(I:Inv X aa σ H s)(g:DGet H a y o)(ry:RelV y u)(h:∀s',Inv X aa σ H s'->Q (.bool (!o.isSome)) s'):wpAny (model X.prog X.w) A (compareOp .NotIn u (.ref a)) Q E s:=by
 rcases g with⟨ah,k,e,ey,l⟩|⟨ah,k,b,e,ey,eb,l⟩
 ·subst ey;obtain⟨z,hd,vs,rel,dd⟩:=Ra I.hok e;refine wpAny_notIn_of (SW ry) hd dd.mapOf ?_;rw[<-(rel.val k).isSome_eq,<-l];exact h _ (I.tok _)
 ·subst ey;cases(show u=Value.ref b from ry);obtain⟨z,hd,xs,rel,dd⟩:=Rc I.hok e;refine wpAny_notIn_heap (tupleKind_room_in1 hu) (P7 I.hok eb) hd dd ?_;have q:=(rel.val k).isSome_eq;rw[isSome_map]at q;rw[<-q,<-l];exact h _ (I.tok _)
def Km{h':Heap}{t':Nat}{ob:HO}(I:Inv X aa σ H s)(mu:RF (H a))(hs:Heap.SameBut a s.heap h')(he:∃q,h'.get? a=some q)(new:ObjOk X.prog X.w (upd H a ob) h' a ob):Inv X aa σ (upd H a ob) {s with heap:=h',toks:=t'}:=I.write (x:=a) (e:=a) mu (.inl rfl) (λb q hb z=>(hs.2 b hb).trans z) he new
def EI{P:Program}{w:World}{H':Hp}{h':Heap}{ah:List (JA×V)}{vs:List (JA×Value)}(z:ah.length<=sizeLine)(hd:(a==sysModules)=false)(rel:KV ah vs)(dd:h'.DictOf (Yt P w) a vs):ObjOk P w H' h' a (.dK ah):=⟨z,hd,vs,rel,dd⟩
def Qci{H':Hp}{Q:Unit->Shared->Prop}(hu:A.units+1<cLine)(I:Inv X aa σ H s)(g:DPut H a y v H')(ry:RelV y u)(rv:RelV v r)(h:∀s',Inv X aa σ H' s'->Q () s'):wpAny (model X.prog X.w) A (setItem (.ref a) u r) Q E s:=by
 rcases g with⟨ah,k,e,ey,l,eH⟩|⟨ah,k,b,e,ey,eb,l,eH⟩
 ·subst ey eH;obtain⟨z,hd,vs,rel,dd⟩:=EJ I.hok e;have hz:vs.length<=sizeLine:=by rw[<-rel.length];exact z
  have hl:(VJ ah k v).length<=sizeLine:=by have:=IG ah k v;omega
  refine wpAny_setItem_pairs (hsz:=hz) (SW ry) dd λh' gM hs=>h _ ?_;have he:∃q,h'.get? a=some q:=let⟨q,_,_,hq,_⟩:=gM;⟨q,hq⟩;exact Km I (by rw[e];exact True.intro) hs he (EI hl hd (rel.put k rv) gM)
 ·subst ey eH;cases(show u=Value.ref b from ry);obtain⟨z,hd,xs,rel,dd⟩:=QcR I.hok e;have hz:xs.length<=sizeLine:=by rw[<-Paired.length rel];exact z
  have hl:(VJ ah k v).length<=sizeLine:=by have:=IG ah k v;omega
  refine wpAny_setItem_heap (hsz:=hz) (tupleKind_room_in1 hu) (P7 I.hok eb) dd λh' gM hs=>h _ ?_;obtain⟨q,es,ep,hq,h2,h3,h4,_,h5⟩:=gM;refine Km I (by rw[e];exact True.intro) hs ⟨q,hq⟩ ⟨hl,hd,_,(rel.put k eb rv).keeps λc ys ec=>?_,q,es,ep,hq,h2,h3,h4,h5⟩;rw[Qi (QeU ec e (λz=>nomatch z))];exact ec
end
def L8(i:Expr):Prop:=∀ov iv,subscripted i false ov iv=operate [ov,iv] (getItem ov iv)
def Qip{prog:Program}{w:World}{A:Around}{E:Value->Shared->Prop}{s:Shared}{env:Env}{value slice:Expr}{pos:Pos}{T id:String}{Q:Value->Shared->Prop}(hl:typeLookup (.type T) "__getitem__"=pure (some (.builtin id)))(hs:L8 slice)(h:wpAny (model prog w) A (eval value env) (λo s₁=>wpAny (model prog w) A (eval slice env) (λi s₂=>s₂.TypeIs o T/\wpAny (model prog w) A (getItem o i) Q E s₂) E s₁) E s):wpAny (model prog w) A (eval (.Subscript value slice pos) env) Q E s:=by
 refine Subscript_ (wpAny_mono h (λo s₁ h₁=>wpAny_mono h₁ (λi s₂ h₂=>?_) λ_ _ x=>x) λ_ _ x=>x);obtain⟨hT,h₂⟩:=h₂;unfold subscriptTail;refine wpAny_bind ?_;rw[getitemInPython_of_ne hT.not_modules];refine wpAny_bind (wpAny_specialOf hT hl ?_);have fin:wpAny (model prog w) A (subscripted slice false o i) (λr s₃=>wpAny (model prog w) A (letTemporaryGo value o r>>=λ_=>pure r) Q E s₃) E s₂:=by rw[hs o i];exact wpAny_operating (wpAny_mono h₂ (λr s₃ h₃=>wpAny_bind (wpAny_letTemporaryGo (wpAny_pure h₃))) λ_ _ x=>x)
 first|exact wpAny_pure (wpAny_bind fin)|exact wpAny_bind (wpAny_pure (wpAny_bind fin))|exact wpAny_bind fin
def QcC{X:Cx}{aa:List (Addr×Obj)}{σ:St}{H:Hp}{s:Shared}{a:Addr}{y:V}{o:Option V}(I:Inv X aa σ H s)(g:DGet H a y o):s.TypeIs (.ref a) "dict":=by
 rcases g with⟨ah,k,e,_,_⟩|⟨ah,k,b,e,_,_,_⟩
 ·obtain⟨_,_,vs,_,dd⟩:=Ra I.hok e;exact dd.typeIs
 ·obtain⟨_,_,xs,_,dd⟩:=Rc I.hok e;exact dd.typeIs
def Qiu(td ty:TE):TE:=λσ H Q=>td σ H λx H1=>ty σ H1 λy H2=>∃a v,x=.ref a/\DGet H2 a y (some v)/\Q v H2
def Qiv(ty td:TE):TE:=λσ H Q=>ty σ H λy H1=>td σ H1 λx H2=>∃a o,x=.ref a/\DGet H2 a y o/\Q (.bl o.isSome) H2
def Qix(ty td:TE):TE:=λσ H Q=>ty σ H λy H1=>td σ H1 λx H2=>∃a o,x=.ref a/\DGet H2 a y o/\Q (.bl (!o.isSome)) H2
def QhV(td ty tv:TE):TS:=λD σ H=>tv σ H λv H1=>td σ H1 λx H2=>ty σ H2 λy H3=>∃a H4,x=.ref a/\DPut H3 a y v H4/\D.nx σ H4
section
variable{X:Cx}{o i e value:Expr}{pos pos' cp:Pos}{td ty tv:TE}
def QgQ(hu:X.A.units+1<cLine)(ho:PE X o td)(hi:PE X i ty)(hs:L8 i):PE X (.Subscript o i pos) (Qiu td ty):=by intro aa s σ H Q I h;refine Qip PySem.F.slot_dict_getitem.lookup hs (QW (ho aa s σ H _ I h) λu s1⟨x,H1,I1,rx,q1⟩=>QW (hi aa s1 σ H1 _ I1 q1) λiv s2⟨y,H2,I2,ry,a,v,ex,g,q2⟩=>?_);subst ex;obtain rfl:u=Value.ref a:=rx;exact⟨QcC I2 g,QbK hu I2 g ry λw' s3 I3 bN=>⟨v,H2,I3,bN,q2⟩⟩
def QgH(hu:X.A.units+1<cLine)(hi:PE X i ty)(ho:PE X o td):PC X .In i o (Qiv ty td):=by intro aa s σ H Q I h;refine QW (hi aa s σ H _ I h) λiv s1⟨y,H1,I1,ry,q1⟩=>QW (ho aa s1 σ H1 _ I1 q1) λu s2⟨x,H2,I2,rx,a,ov,ex,g,q2⟩=>?_;subst ex;obtain rfl:u=Value.ref a:=rx;exact QbN hu I2 g ry λs3 I3=>⟨.bl ov.isSome,H2,I3,rfl,q2⟩
def QgI(hu:X.A.units+1<cLine)(hi:PE X i ty)(ho:PE X o td):PC X .NotIn i o (Qix ty td):=by intro aa s σ H Q I h;refine QW (hi aa s σ H _ I h) λiv s1⟨y,H1,I1,ry,q1⟩=>QW (ho aa s1 σ H1 _ I1 q1) λu s2⟨x,H2,I2,rx,a,ov,ex,g,q2⟩=>?_;subst ex;obtain rfl:u=Value.ref a:=rx;exact Qb8 hu I2 g ry λs3 I3=>⟨.bl (!ov.isSome),H2,I3,rfl,q2⟩
def Qhk(hu:X.A.units+1<cLine)(ho:PE X o td)(hi:PE X i ty)(hv:PE X value tv)(hs:swapsWith value (some (.Subscript o i pos')) pos.line X.env=pure false):PS X (.Assign [.Subscript o i pos'] value pos) (QhV td ty tv):=by intro aa s σ H D I h;refine wpAny_Assign_Subscript (QW (hv aa s σ H _ I h) λr s1⟨v,H1,I1,rv,q1⟩=>QW (ho aa s1 σ H1 _ I1 q1) λu s2⟨x,H2,I2,rx,q2⟩=>QW (hi aa s2 σ H2 _ I2 q2) λiv s3⟨y,H3,I3,ry,a,H4,ex,g,q3⟩=>?_) hs;subst ex;obtain rfl:u=Value.ref a:=rx;exact Qci hu I3 g ry rv λs4 I4=>⟨σ,H4,I4,q3⟩
end
def QcD{P:Program}{w:World}{H:Hp}(h:Heap)(hb:sysModules<h.objs.size):ObjOk P w H (h.push {cls:=.type "dict",data:=.dict #[]}) h.objs.size (.dK []):=⟨zero_le _,beq_eq_false_iff_ne.mpr (Ne.symm (Y9 hb)),[],.nil,Heap.DictOf.new h⟩
def Qiw:TE:=λ_ H Q=>∀p,H p=none->Q (.ref p) (upd H p (.dK []))
section
variable{X:Cx}{pos:Pos}
def QgR:PE X (.Dict [] [] pos) Qiw:=λaa s σ H Q I h=>wpAny_Dict_empty ⟨.ref s.heap.objs.size,_,I.laid (a:=s.heap.objs.size) (o:=.dK []) (t':=s.toks) (λ_ _ q=>Heap.get?_push_of_some _ q) (Qz _) (QcD s.heap I.big),rfl,h _ (I.hok.fresh (Qz _))⟩
end
end L2
namespace Wd
open PySem
abbrev Kd:=Sum Int Str
inductive D where|non|bl(b:Bool)|int(i:Int)|str(x:Str)|tup(xs:List D)|lst(xs:List D)|scr(ns:List Int)|dic(ks:List Kd)(xs:List D)
abbrev QG:=List (Option D)
abbrev Q7:=QG->Option D
abbrev ZC:=QG->Option (List D)
abbrev T7:=QG->Option (Option Int)
abbrev Jy:=D->QG->Option QG
inductive Fl where|nx(e:QG)|rt(d:D)|bk(e:QG)|ct(e:QG)
abbrev QH:=QG->Option Fl
def lI:Nat:=16777216
def YY{α:Type}:Option D->Option α->Option α->Option α|some (.bl c),x,y=>if c=true then x else y|_,_,_=>none
noncomputable def Ti:Option D->Option D|some (.bl c)=>some (.bl (!c))|_=>none
def Qj{α:Type}(c:Bool)(x y:Option α):YY (some (.bl c)) x y=if c=true then x else y:=rfl
def Yv(c:Bool):Ti (some (.bl c))=some (.bl (!c)):=rfl
def Yn{α:Type}{p:Prop}[Decidable p](a b:Option D)(x y:Option α):YY (if p then a else b) x y=if p then YY a x y else YY b x y:=by split<;>rfl
def Yw{p:Prop}[Decidable p](a b:Option D):Ti (if p then a else b)=if p then Ti a else Ti b:=by split<;>rfl
mutual noncomputable def D.dep:D->Nat|.tup xs=>D.depL xs+1|.lst xs=>D.depL xs+1|.scr _=>1|.dic _ xs=>D.depL xs+1|_=>0 noncomputable def D.depL:List D->Nat|[]=>0|x::xs=>max (D.dep x) (D.depL xs)end
def YW:D.dep .non=0:=by rw[D.dep];all_goals simp
def YV(b:Bool):D.dep (.bl b)=0:=by rw[D.dep];all_goals simp
def J6(i:Int):D.dep (.int i)=0:=by rw[D.dep];all_goals simp
def JF(x:Str):D.dep (.str x)=0:=by rw[D.dep];all_goals simp
def ZP(xs:List D):D.dep (.tup xs)=D.depL xs+1:=by rw[D.dep]
def ZO(xs:List D):D.dep (.lst xs)=D.depL xs+1:=by rw[D.dep]
def ZZ:D.depL []=0:=by rw[D.depL]
def ZI(x:D)(xs:List D):D.depL (x::xs)=max (D.dep x) (D.depL xs):=by rw[D.depL]
def XX(b:Bool):Int:=if b then 1 else 0
noncomputable def OJ:Option Bool->Option Bool->Option Bool|some a,some b=>some (a&&b)|_,_=>none
def Y3(a b:Bool):OJ (some a) (some b)=some (a&&b):=rfl
noncomputable def D.oth:D->Option Bool|.scr _=>none|.dic _ _=>none|_=>some false
mutual noncomputable def D.eq:D->D->Option Bool
 |.non,e=>match e with|.non=>some true|e=>e.oth
 |.bl a,e=>match e with
  |.bl b=>some (a==b)|.int j=>some (decide (XX a=j))|e=>e.oth
 |.int i,e=>match e with
  |.bl b=>some (decide (i=XX b))|.int j=>some (decide (i=j))|e=>e.oth
 |.str x,e=>match e with
  |.str y=>some (decide (x=y))|e=>e.oth
 |.tup xs,e=>match e with
  |.tup ys=>D.eqL xs ys|e=>e.oth
 |.lst xs,e=>match e with
  |.lst ys=>D.eqL xs ys|e=>e.oth
 |.scr _,_=>none|.dic _ _,_=>none noncomputable def D.eqL:List D->List D->Option Bool|[],[]=>some true|x::xs,y::ys=>OJ (D.eq x y) (D.eqL xs ys)|_,_=>some false end
def J9(i j:Int):D.eq (.int i) (.int j)=some (decide (i=j)):=by rw[D.eq]
def Ym(i j:Bool):D.eq (.bl i) (.bl j)=some (i==j):=by rw[D.eq]
def JC(i j:Str):D.eq (.str i) (.str j)=some (decide (i=j)):=by rw[D.eq]
def YX(xs ys:List D):D.eq (.tup xs) (.tup ys)=D.eqL xs ys:=by rw[D.eq]
def Zz(xs ys:List D):D.eq (.lst xs) (.lst ys)=D.eqL xs ys:=by rw[D.eq]
def Zp:D.eqL [] []=some true:=by rw[D.eqL]
def Y5(x y:D)(xs ys:List D):D.eqL (x::xs) (y::ys)=OJ (D.eq x y) (D.eqL xs ys):=by rw[D.eqL]
noncomputable def D.cmp(o:Option Bool):Option D:=o.map .bl
noncomputable def D.cmpN(o:Option Bool):Option D:=o.map λb=>.bl (!b)
def D.eqO(x y:D):Option D:=if x.dep<=40 then D.cmp (D.eq x y)else none
def D.neO(x y:D):Option D:=if x.dep<=40 then D.cmpN (D.eq x y)else none
noncomputable def intsOf:List D->Option (List Int)|[]=>some []|.int i::r=>(intsOf r).map (i::·)|_=>none
noncomputable def X0:List Int->List Int->Bool|[],_=>true|_::_,[]=>false|x::xs,y::ys=>if x=y then X0 xs ys else decide (x<y)
noncomputable def D.lt:D->D->Option D|.int i,.int j=>some (.bl (decide (i<j)))|_,_=>none
def D.le:D->D->Option D
 |.int i,.int j=>some (.bl (decide (i<=j)))|.tup xs,.tup ys=>match intsOf xs,intsOf ys with
  |some a,some b=>some (.bl (X0 a b))|_,_=>none
 |_,_=>none
noncomputable def D.gt:D->D->Option D|.int i,.int j=>some (.bl (decide (j<i)))|_,_=>none
noncomputable def D.ge:D->D->Option D|.int i,.int j=>some (.bl (decide (j<=i)))|_,_=>none
noncomputable def D.len:D->Option D|.str x=>if x.length<=lI then some (.int x.length)else none|.tup xs=>some (.int xs.length)|.lst xs=>some (.int xs.length)|.scr ns=>some (.int ns.length)|_=>none
noncomputable def D.add:D->D->Option D|.int i,.int j=>some (.int (i+j))|.str x,.str y=>if x.length+y.length<=lI then some (.str (x++y))else none|.lst xs,.lst ys=>if xs.length+ys.length<=lI then some (.lst (xs++ys))else none|.tup (x::xs),.tup ys=>if xs.length+1+ys.length<=lI then some (.tup (x::xs++ys))else none|_,_=>none
noncomputable def D.addI:D->D->Option D|.int i,.int j=>some (.int (i+j))|.str x,.str y=>if x.length+y.length<=lI then some (.str (x++y))else none|_,_=>none
noncomputable def D.sub:D->D->Option D|.int i,.int j=>some (.int (i-j))|_,_=>none
noncomputable def D.mul:D->D->Option D|.int i,.int j=>if-2^64<i/\i<2^64\/-2^64<j/\j<2^64 then some (.int (i*j))else none|_,_=>none
noncomputable def D.mod:D->D->Option D|.int i,.int j=>if 0<j then some (.int (i%j))else none|_,_=>none
noncomputable def D.fdiv:D->D->Option D|.int i,.int j=>if 0<j/\j<1073741824 then some (.int (i/j))else none|_,_=>none
noncomputable def D.pow:D->D->Option D|.int i,.int j=>if 0<=j/\j<=1000000/\i.natAbs<2^64 then some (.int (i^j.toNat))else none|_,_=>none
noncomputable def D.neg:D->Option D|.int i=>some (.int (-i))|_=>none
def Sb{i j:Int}(h:-2^64<i/\i<2^64):D.mul (.int i) (.int j)=some (.int (i*j)):=if_pos (.inl h)
def NO{i j:Int}(h:-2^64<j/\j<2^64):D.mul (.int i) (.int j)=some (.int (i*j)):=if_pos (.inr h)
def Xl{i j:Int}(h:0<j):D.mod (.int i) (.int j)=some (.int (i%j)):=if_pos h
def Qc8{i j:Int}(h:0<j/\j<1073741824):D.fdiv (.int i) (.int j)=some (.int (i/j)):=if_pos h
def CY{i j:Int}(h:0<=j/\j<=1000000/\i.natAbs<2^64):D.pow (.int i) (.int j)=some (.int (i^j.toNat)):=if_pos h
noncomputable def D.strI:D->Option D|.int i=>if i.natAbs<2^1900 then some (.str (Str.ofString (toString i)))else none|_=>none
noncomputable def D.intB:D->Option D|.int i=>some (.int i)|.bl b=>some (.int (if b then 1 else 0))|_=>none
noncomputable def D.min2:D->D->Option D|.int i,.int j=>some (.int (if j<i then j else i))|_,_=>none
noncomputable def D.max2:D->D->Option D|.int i,.int j=>some (.int (if j>i then j else i))|_,_=>none
noncomputable def D.isT:D->Option D|.bl b=>some (.bl b)|.int _=>some (.bl false)|_=>none
noncomputable def ZX:D->String|.non=>"NoneType"|.bl _=>"bool"|.int _=>"int"|.str _=>"str"|.tup _=>"tuple"|.lst _=>"list"|.scr _=>"list"|.dic _ _=>"dict"
def D.inst(t:String)(d:D):Option D:=match d with|.scr _=>none|d=>some (.bl (decide (ZX d=t)||decide (t="int")&&decide (ZX d="bool")))
noncomputable def JN(n:Nat)(i:Int):Option Nat:=if 0<=i then(if i<n then some i.toNat else none)else if-(n:Int)<=i then some (i+n).toNat else none
def D.ix:D->D->Option D|.tup xs,.int i=>(JN xs.length i).bind λk=>xs[k]?|.lst xs,.int i=>(JN xs.length i).bind λk=>xs[k]?|.scr ns,.int i=>(JN ns.length i).bind λk=>(ns[k]?).map .int|.str x,.int i=>if x.length<=lI then(JN x.length i).bind λk=>(x.cps[k]?).map λc=>.str ⟨#[c]⟩else none|_,_=>none
noncomputable def ZK(n d:Nat):Option Int->Nat|none=>d|some v=>if v<0 then(v+(n:Int)).toNat else min v.toNat n
def J2{α:Type}(xs:List α)(lo hi:Option Int):List α:=(xs.drop (ZK xs.length 0 lo)).take (ZK xs.length xs.length hi-ZK xs.length 0 lo)
def D.cut:D->Option Int->Option Int->Option D|.lst xs,lo,hi=>some (.lst (J2 xs lo hi))|.tup xs,lo,hi=>if ZK xs.length 0 lo=0/\ZK xs.length xs.length hi=xs.length then none else some (.tup (J2 xs lo hi))|.scr ns,lo,hi=>some (.lst ((J2 ns lo hi).map .int))|_,_,_=>none
def Qa8(x:D)(lo hi:Option Int):Option D:=D.cut x lo hi
def eV(i:Nat):Q7:=λe=>(e[i]?).join
def eC(d:D):Q7:=λ_=>some d
noncomputable def Q5(g:D->D->Option D)(a b:Q7):Q7:=λe=>(a e).bind λx=>(b e).bind λy=>g x y
noncomputable def QB(g:D->Option D)(a:Q7):Q7:=λe=>(a e).bind λx=>g x
def JT(a:Q7):Q7:=λe=>Ti (a e)
noncomputable def Qn(a b:Q7):Q7:=λe=>YY (a e) (b e) (some (.bl false))
noncomputable def Qa(a b:Q7):Q7:=λe=>YY (a e) (some (.bl true)) (b e)
noncomputable def Zb(c a b:Q7):Q7:=λe=>YY (c e) (a e) (b e)
noncomputable def Zy(g g':D->D->Option D)(a b c:Q7):Q7:=λe=>(a e).bind λx=>(b e).bind λy=>YY (g x y) ((c e).bind λz=>g' y z) (some (.bl false))
def lN:ZC:=λ_=>some []
noncomputable def lC(a:Q7)(l:ZC):ZC:=λe=>(a e).bind λx=>(l e).map λxs=>x::xs
def QN(l:ZC):Q7:=λe=>(l e).map .tup
def QF(l:ZC):Q7:=λe=>(l e).map .lst
noncomputable def eK(f:List D->Option D)(l:ZC):Q7:=λe=>(l e).bind f
def Zn(t:String)(a:Q7):Q7:=λe=>(a e).bind λx=>D.inst t x
def JX:T7:=λ_=>some none
noncomputable def JJ(a:Q7):T7:=λe=>(a e).bind λd=>match d with|.int i=>some (some i)|_=>none
def Yi(a:Q7)(lo hi:T7):Q7:=λe=>(a e).bind λx=>(lo e).bind λl=>(hi e).bind λh=>Qa8 x l h
noncomputable def gS(i:Nat):Jy:=λd e=>some (e.set i (some d))
noncomputable def Z9:List Jy->List D->QG->Option QG|[],[],e=>some e|g::gs,d::ds,e=>(g d e).bind λe'=>Z9 gs ds e'|_,_,_=>none
def JQ(gs:List Jy):Jy:=λd e=>match d with|.tup ds=>Z9 gs ds e|_=>none
noncomputable def XO:Option Fl->QH->Option Fl|some (.nx e),k=>k e|some (.rt d),_=>some (.rt d)|some (.bk e),_=>some (.bk e)|some (.ct e),_=>some (.ct e)|none,_=>none
def Jf(e:QG)(k:QH):XO (some (.nx e)) k=k e:=rfl
def Jq(d:D)(k:QH):XO (some (.rt d)) k=some (.rt d):=rfl
def V3(e:QG)(k:QH):XO (some (.bk e)) k=some (.bk e):=rfl
def V4(e:QG)(k:QH):XO (some (.ct e)) k=some (.ct e):=rfl
def V6(k:QH):XO none k=none:=rfl
def V5{c:Prop}[Decidable c](a b:Option Fl)(k:QH):XO (if c then a else b) k=if c then XO a k else XO b k:=by split<;>rfl
def sQ(a b:QH):QH:=λe=>XO (a e) b
noncomputable def QD(c:Q7)(a b:QH):QH:=λe=>YY (c e) (a e) (b e)
def QI(a:Q7):QH:=λe=>(a e).map .rt
def V2:QH:=λ_=>some (.rt .non)
noncomputable def Q6(a:Q7)(g:Jy):QH:=λe=>(a e).bind λd=>(g d e).map .nx
noncomputable def ZV(i:Nat)(g:D->D->Option D)(a:Q7):QH:=λe=>(eV i e).bind λx=>(a e).bind λy=>(g x y).map λz=>.nx (e.set i (some z))
noncomputable def Zg(a:Q7):QH:=λe=>(a e).map λ_=>.nx e
def QE:QH:=λe=>some (.nx e)
def V1:QH:=λe=>some (.bk e)
def YD:QH:=λe=>some (.ct e)
noncomputable def D.app:D->D->Option D|.lst xs,d=>if xs.length<lI then some (.lst (xs++[d]))else none|_,_=>none
noncomputable def D.ext:D->D->Option D|.lst xs,.lst ys=>if xs.length+ys.length<=lI then some (.lst (xs++ys))else none|_,_=>none
def sP(i:Nat)(a:Q7):QH:=λe=>(eV i e).bind λx=>(a e).bind λd=>(D.app x d).map λz=>.nx (e.set i (some z))
def HE(i:Nat)(a:Q7):QH:=λe=>(eV i e).bind λx=>(a e).bind λd=>(D.ext x d).map λz=>.nx (e.set i (some z))
noncomputable def WD:Option Fl->QH->Option Fl|some (.nx e),k=>k e|some (.ct e),k=>k e|some (.bk e),_=>some (.nx e)|some (.rt d),_=>some (.rt d)|none,_=>none
def AZ(e:QG)(k:QH):WD (some (.nx e)) k=k e:=rfl
def Vt(g:Jy)(b:QH):List D->QH|[],e=>some (.nx e)|d::ds,e=>WD ((g d e).bind b) (Vt g b ds)
abbrev ZY:=QG->Option (List D)
def Jb(it:ZY)(g:Jy)(b:QH):QH:=λe=>(it e).bind λds=>Vt g b ds e
noncomputable def rD(lo:Int)(n:Nat):List D:=(List.range n).map λi:Nat=>.int (lo+(i:Int))
noncomputable def Wc:Nat->List D->List D|_,[]=>[]|n,d::ds=>.tup [.int n,d]::Wc (n+1) ds
def D.rng:D->Option (List D)|.int n=>if n.natAbs<4611686018427387904 then some (rD 0 n.toNat)else none|_=>none
noncomputable def D.its:D->Option (List D)|.lst xs=>some xs|.scr ns=>some (ns.map .int)|_=>none
noncomputable def D.itsT:D->Option (List D)|.tup xs=>some xs|_=>none
def VE(a:Q7):ZY:=λe=>(a e).bind λd=>D.rng d
def J1(a:Q7):ZY:=λe=>(a e).bind λd=>D.its d
def Xh(a:Q7):ZY:=λe=>(a e).bind λd=>(D.its d).map λds=>Wc 0 ds
noncomputable def Uj:Option Fl->Option D|some (.rt d)=>some d|some (.nx _)=>some .non|_=>none
def Yl(d:D):Uj (some (.rt d))=some d:=rfl
def Yk(e:QG):Uj (some (.nx e))=some .non:=rfl
def Yj{c:Prop}[Decidable c](a b:Option Fl):Uj (if c then a else b)=if c then Uj a else Uj b:=by split<;>rfl
def Yg{α β:Type}{c:Prop}[Decidable c](a b:Option α)(f:α->Option β):(if c then a else b).bind f=if c then a.bind f else b.bind f:=by split<;>rfl
def Ys{α β:Type}{c:Prop}[Decidable c](a b:Option α)(f:α->β):(if c then a else b).map f=if c then a.map f else b.map f:=by split<;>rfl
noncomputable def sD(n:Nat)(ds:List D):QG:=ds.map some++List.replicate (n-ds.length) none
def QV(n k:Nat)(b:QH)(ds:List D):Option D:=if ds.length=k then Uj (b (sD n ds))else none
noncomputable def XB(g:Jy)(c el:Q7):List D->QG->Option (List D)|[],_=>some []|d::ds,e=>(g d e).bind λe1=>YY (c e1) ((el e1).bind λx=>(XB g c el ds e1).map λr=>x::r) (XB g c el ds e1)
noncomputable def XY(n:Nat)(caps:List Nat)(e:QG):QG:=List.replicate n none++caps.map λi=>(e[i]?).join
def JL(n:Nat)(caps:List Nat)(it:ZY)(g:Jy)(c el:Q7):Q7:=λe=>(it e).bind λds=>if ds.length<=lI then(XB g c el ds (XY n caps e)).map .lst else none
def Zw(x:Str)(lo hi:Option Int):Str:=⟨(J2 x.cps.toList lo hi).toArray⟩
noncomputable def Y0(x:Str)(n:Int):Str:=⟨(List.replicate n.toNat x.cps.toList).flatten.toArray⟩
def ZD(x:D)(lo hi:Option Int):Option D:=match x with|.str z=>if z.length<=lI then some (.str (Zw z lo hi))else none|d=>D.cut d lo hi
def JM(a:Q7)(lo hi:T7):Q7:=λe=>(a e).bind λx=>(lo e).bind λl=>(hi e).bind λh=>ZD x l h
noncomputable def D.strip:D->Option D|.str x=>if x.length<=lI then some (.str (Txt.strip x))else none|_=>none
def D.mulA:D->D->Option D|.int i,.int j=>D.mul (.int i) (.int j)|.str x,.int n=>if-1073741824<n/\n<1073741824/\x.length*n.toNat<=lI then some (.str (Y0 x n))else none|.lst xs,.int n=>if-1073741824<n/\n<1073741824/\xs.length*n.toNat<=lI then some (.lst (List.replicate n.toNat xs).flatten)else none|_,_=>none
noncomputable def Zq:D->Bool|.non|.bl _|.int _|.str _=>true|_=>false
def inD(x:D):List D->Bool|[]=>false|y::ys=>D.eq y x==some true||inD x ys
def D.inO(x y:D):Option D:=match y with|.tup ys=>if Zq x=true/\ys.all Zq=true then some (.bl (inD x ys))else none|.lst ys=>if Zq x=true/\ys.all Zq=true then some (.bl (inD x ys))else none|_=>none
def D.notInO(x y:D):Option D:=match y with|.tup ys=>if Zq x=true/\ys.all Zq=true then some (.bl (!inD x ys))else none|.lst ys=>if Zq x=true/\ys.all Zq=true then some (.bl (!inD x ys))else none|_=>none
noncomputable def Jx:Int->List Int->Int|m,[]=>m|m,n::ns=>Jx (if n>m then n else m) ns
theorem PJ:∀(ns:List Int)(m:Int),(Jx m ns=m\/Jx m ns∈ns)/\m<=Jx m ns/\∀a∈ns,a<=Jx m ns
 |[],m=>⟨.inl rfl,Ji _,λ_ h=>by cases h⟩|n::ns,m=>by
  obtain⟨h1,h2,h3⟩:=PJ ns (if n>m then n else m);show(Jx (if n>m then n else m) ns=m\/_)/\_;refine⟨?_,?_,λa ha=>?_⟩
  ·rcases h1 with h|h
   ·by_cases z:n>m;·right;show Jx (if n>m then n else m) ns∈n::ns;rw[h,if_pos z];exact Ja
    ·left;rw[h,if_neg z]
   ·right;exact JO _ h
  ·show m<=Jx (if n>m then n else m) ns;refine Zf ?_ h2;split<;>omega
  ·show a<=Jx (if n>m then n else m) ns;rcases q_5.mp ha with z|z
   ·subst z;refine Zf ?_ h2;split<;>omega
   ·exact h3 a z
def D.maxL:D->Option D
 |.lst xs=>match intsOf xs with
  |some (m::ns)=>some (.int (Jx m ns))|_=>none
 |_=>none
def D.sumL:D->Option D|.lst xs=>(intsOf xs).map λns=>.int ns.sum|_=>none
noncomputable def U3:List D->Option (List Bool)|[]=>some []|.bl b::r=>(U3 r).map (b::·)|_=>none
def D.anyL:D->Option D|.lst xs=>(U3 xs).map λbs=>.bl (bs.any id)|_=>none
def X6:QH:=λ_=>none
def Jk(i j:Int):D.mulA (.int i) (.int j)=D.mul (.int i) (.int j):=rfl
noncomputable def Xi:D->Option Kd|.str x=>some (.inr x)|.int i=>some (.inl i)|_=>none
noncomputable def hasK(k:Kd)(ks:List Kd):Bool:=ks.any λc=>decide (c=k)
noncomputable def XD:List Kd->List D->Kd->Option D|c::ks,d::ds,k=>if c=k then some d else XD ks ds k|_,_,_=>none
noncomputable def OY:List Kd->List D->Kd->D->List D|c::ks,d::ds,k,v=>(if c=k then v else d)::OY ks ds k v|_,_,_,_=>[]
def D.dget:D->D->Option D|.dic ks ds,y=>(Xi y).bind λk=>XD ks ds k|_,_=>none
def D.dIn(y d:D):Option D:=match d with|.dic ks _=>(Xi y).map λk=>.bl (hasK k ks)|_=>none
def D.dNotIn(y d:D):Option D:=match d with|.dic ks _=>(Xi y).map λk=>.bl (!hasK k ks)|_=>none
def Xb(ks:List Kd)(ds:List D)(k:Kd)(v:D):D:=if hasK k ks=true then .dic ks (OY ks ds k v)else .dic (ks++[k]) (ds++[v])
def D.put(x y v:D):Option D:=match x with|.dic ks ds=>(Xi y).bind λk=>if ks.length<lI then some (Xb ks ds k v)else none|_=>none
def Xs(i:Nat)(key val:Q7):QH:=λe=>(val e).bind λv=>(eV i e).bind λx=>(key e).bind λy=>(D.put x y v).map λz=>.nx (e.set i (some z))
def Xd(n k:Nat)(b:QH)(ds:List D):Option D:=if ds.length=k then match b (sD n ds)with|some (.nx e)=>(e[k-1]?).join|_=>none else none
noncomputable def XN(i:Nat)(f:List D->Option D)(l:ZC):QH:=λe=>(l e).bind λds=>(eV i e).bind λd=>(f (ds++[d])).map λz=>.nx (e.set i (some z))
noncomputable def VY:List D->List D->List D|a::as,b::bs=>.tup [a,b]::VY as bs|_,_=>[]
def Wi(a b:Q7):ZY:=λe=>(a e).bind λx=>(b e).bind λy=>(D.its x).bind λxs=>(D.its y).map λys=>VY xs ys
def X9(c:Q7)(b:QH):Nat->QH|0,_=>none|n+1,e=>YY (c e) (WD (b e) (X9 c b n)) (some (.nx e))
def B1(c:Q7)(b:QH):QH:=X9 c b 100000
def QiT{o:Option Fl}{k k':QH}{r:Fl}(h:∀e r,k e=some r->k' e=some r)(q:WD o k=some r):WD o k'=some r:=by cases o with|none=>cases q|some f=>cases f with|nx e=>exact h e r q|ct e=>exact h e r q|bk e=>exact q|rt d=>exact q
theorem Aj(c:Q7)(b:QH):∀(n m:Nat),n<=m->∀e r,X9 c b n e=some r->X9 c b m e=some r
 |0,_,_,e,r,h=>by cases h|n+1,0,hm,_,_,_=>by omega|n+1,m+1,hm,e,r,h=>by
  have h':YY (c e) (WD (b e) (X9 c b n)) (some (.nx e))=some r:=h;show YY (c e) (WD (b e) (X9 c b m)) (some (.nx e))=some r;cases q:c e with
  |none=>rw[q]at h';cases h'|some d=>cases d with
   |bl k=>
    rw[q]at h';cases k with|true=>exact QiT (Aj c b n m (by omega)) h'|false=>exact h'
   |_=>rw[q]at h';cases h'
noncomputable def kD:Sum Int Str->D|.inl i=>.int i|.inr x=>.str x
def D7(ev:Q7):ZY:=λe=>(ev e).bind λd=>match d with|.dic ks _=>some (ks.map kD)|_=>none
end Wd
namespace Wd
open PySem PySem.Spec PyProof.Rows L2
abbrev Fg:=W.Frag
def Sm(F H:Hp):Prop:=∀a o,F a=some o->H a=some o
def Sm.refl(F:Hp):Sm F F:=λ_ _ h=>h
def Sm.trans{F G H:Hp}(a:Sm F G)(b:Sm G H):Sm F H:=λx o h=>b x o (a x o h)
theorem Sm.none{F H:Hp}(s:Sm F H){a:Addr}(h:H a=none):F a=none:=by cases e:F a with|none=>rfl|some o=>rw[s a o e]at h;cases h
theorem Sm.upd{F H:Hp}(s:Sm F H){p:Addr}(o:HO)(h:F p=Option.none):Sm F (L2.upd H p o):=λa x e=>by
 have:a≠p:=λz=>by rw[z,h]at e;cases e
 rw[Qi this];exact s a x e
def Sm.upd2{F H:Hp}(s:Sm F H)(p:Addr)(o:HO):Sm (L2.upd F p o) (L2.upd H p o):=λa x e=>by
 by_cases z:a=p;·subst z;rw[Jz]at e⊢;exact e
 ·rw[Qi z]at e⊢;exact s a x e
def Sm.sqL{K:Fg}{F H:Hp}(s:Sm F H){a:Addr}{xs:List V}(h:SqL K F a xs):SqL K H a xs:=by
 rcases h with(h|⟨o,h⟩)|h;·exact .inl (.inl (s _ _ h))
 ·exact .inl (.inr ⟨o,s _ _ h⟩)
 ·exact .inr h
mutual inductive Rep(K:Fg)(F:Hp):V->D->Prop where|non:Rep K F .non .non|bl(b:Bool):Rep K F (.bl b) (.bl b)|int(i:Int):Rep K F (.int i) (.int i)|str(x:Str):Rep K F (.str x) (.str x)|tup{a:Addr}{xs:List V}{ds:List D}(h:F a=some (.tup xs))(r:Reps K F xs ds):Rep K F (.ref a) (.tup ds)|lst{a:Addr}{xs:List V}{ds:List D}(h:F a=some (.lst xs))(r:Reps K F xs ds):Rep K F (.ref a) (.lst ds)|scr{a:Addr}{ns:List Int}(h:SqL K F a (ns.map V.int)):Rep K F (.ref a) (.scr ns)|dic{a:Addr}{o:Obj}{ks:List Kd}{xs:List V}{ds:List D}(h:F a=some (.frz o (.dK (ks.zip xs))))(hl:ks.length=xs.length)(r:Reps K F xs ds):Rep K F (.ref a) (.dic ks ds)inductive Reps(K:Fg)(F:Hp):List V->List D->Prop where|nil:Reps K F [] []|cons{x:V}{d:D}{xs:List V}{ds:List D}(h:Rep K F x d)(r:Reps K F xs ds):Reps K F (x::xs) (d::ds)end
mutual theorem Rep.mono{K:Fg}{F F':Hp}(s:Sm F F'):∀{v:V}{d:D},Rep K F v d->Rep K F' v d|_,_,.non=>.non|_,_,.bl b=>.bl b|_,_,.int i=>.int i|_,_,.str x=>.str x|_,_,.tup h r=>.tup (s _ _ h) (Reps.mono s r)|_,_,.lst h r=>.lst (s _ _ h) (Reps.mono s r)|_,_,.scr h=>.scr (s.sqL h)|_,_,.dic h hl r=>.dic (s _ _ h) hl (Reps.mono s r)theorem Reps.mono{K:Fg}{F F':Hp}(s:Sm F F'):∀{vs:List V}{ds:List D},Reps K F vs ds->Reps K F' vs ds|_,_,.nil=>.nil|_,_,.cons h r=>.cons (Rep.mono s h) (Reps.mono s r)end
section
variable{K:Fg}{F H:Hp}
theorem Reps.length:∀{vs:List V}{ds:List D},Reps K F vs ds->vs.length=ds.length|_,_,.nil=>rfl|_,_,.cons _ r=>by rw[JV,JV,r.length]
theorem Reps.get:∀{vs:List V}{ds:List D}{i:Nat}{d:D},Reps K F vs ds->ds[i]?=some d->∃v,vs[i]?=some v/\Rep K F v d|_,_,_,_,.nil,e=>by simp at e|_,_,0,_,.cons h _,e=>by simp at e;subst e;exact⟨_,rfl,h⟩|_,_,i+1,d,.cons _ r,e=>by obtain⟨v,h1,h2⟩:=Reps.get (i:=i) (d:=d) r (by simpa using e);exact⟨v,by simpa using h1,h2⟩
theorem Reps.getV:∀{vs:List V}{ds:List D}{i:Nat}{v:V},Reps K F vs ds->vs[i]?=some v->∃d,ds[i]?=some d/\Rep K F v d|_,_,_,_,.nil,e=>by simp at e|_,_,0,_,.cons h _,e=>by simp at e;subst e;exact⟨_,rfl,h⟩|_,_,i+1,v,.cons _ r,e=>by obtain⟨d,h1,h2⟩:=Reps.getV (i:=i) (v:=v) r (by simpa using e);exact⟨d,by simpa using h1,h2⟩
theorem Reps.append:∀{vs ws:List V}{ds es:List D},Reps K F vs ds->Reps K F ws es->Reps K F (vs++ws) (ds++es)|_,_,_,_,.nil,s=>s|_,_,_,_,.cons h r,s=>.cons h (Reps.append r s)
theorem Reps.drop:∀{vs:List V}{ds:List D}(n:Nat),Reps K F vs ds->Reps K F (vs.drop n) (ds.drop n)|_,_,0,r=>r|_,_,_+1,.nil=>.nil|_,_,n+1,.cons _ r=>Reps.drop n r
theorem Reps.take:∀{vs:List V}{ds:List D}(n:Nat),Reps K F vs ds->Reps K F (vs.take n) (ds.take n)|_,_,0,_=>.nil|_,_,_+1,.nil=>.nil|_,_,n+1,.cons h r=>.cons h (Reps.take n r)
theorem Reps.ints:∀(ns:List Int),Reps K F (ns.map V.int) (ns.map D.int)|[]=>.nil|n::ns=>.cons (.int n) (Reps.ints ns)
theorem Reps.intsOf:∀{vs:List V}{ds:List D}{ns:List Int},Reps K F vs ds->Wd.intsOf ds=some ns->vs=ns.map V.int|_,_,ns,.nil,e=>by cases e;rfl|_,_,ns,.cons (d:=d) h r,e=>by cases h with
  |int i=>
   simp only[Wd.intsOf]at e;cases q:Wd.intsOf _ with
   |none=>rw[q]at e;cases e|some ms=>
    rw[q]at e;cases e;rw[Reps.intsOf r q];rfl
  |_=>simp[Wd.intsOf]at e
end
noncomputable def ho:Option (List Kd)->List V->HO|none,xs=>.lst xs|some ks,xs=>.dK (ks.zip xs)
noncomputable def Zm:Option (List Kd)->List D->D|none,ds=>.lst ds|some ks,ds=>.dic ks ds
noncomputable def WH:Option (List Kd)->List V->Prop|none,_=>True|some ks,xs=>ks.length=xs.length
noncomputable def hz(o:Obj):Option (List Kd)->List V->HO|none,xs=>.lst xs|some ks,xs=>.frz o (.dK (ks.zip xs))
theorem Rep.hz{K:Fg}{F:Hp}{p:Addr}{o:Obj}:∀{k:Option (List Kd)}{xs:List V}{ds:List D},F p=some (hz o k xs)->WH k xs->Reps K F xs ds->Rep K F (.ref p) (Zm k ds)|none,_,_,h,_,r=>.lst h r|some _,_,_,h,hl,r=>.dic h hl r
def RdD(K:Fg)(F H:Hp)(v:V)(d:D):Prop:=Rep K F v d\/∃p k xs ds,v=.ref p/\H p=some (ho k xs)/\Reps K F xs ds/\d=Zm k ds/\WH k xs
structure Gr(F H F' H':Hp):Prop where
 ff:Sm F F'
 hh:Sm H H'
 fh:Sm F' H'
 fr:∀a o,F' a=some o->F a=some o\/H a=none
theorem Gr.refl{F H:Hp}(s:Sm F H):Gr F H F H:=⟨.refl _,.refl _,s,λ_ _ h=>.inl h⟩
theorem Gr.trans{F H F1 H1 F2 H2:Hp}(a:Gr F H F1 H1)(b:Gr F1 H1 F2 H2):Gr F H F2 H2:=⟨a.ff.trans b.ff,a.hh.trans b.hh,b.fh,λx o h=>by
  rcases b.fr x o h with h|h;·exact a.fr x o h
  ·exact .inr (a.hh.none h)⟩
def Gr.new{F H:Hp}(s:Sm F H){p:Addr}(h:H p=none)(o:HO):Gr F H (upd F p o) (upd H p o):=⟨(Sm.refl F).upd o (s.none h),(Sm.refl H).upd o h,s.upd2 p o,λa x e=>by
  by_cases z:a=p;·subst z;exact .inr h
  ·rw[Qi z]at e;exact .inl e⟩
def Gr.newO{F H:Hp}(s:Sm F H){p:Addr}(h:H p=none)(o:HO):Gr F H F (upd H p o):=⟨.refl F,(Sm.refl H).upd o h,s.upd o (s.none h),λ_ _ e=>.inl e⟩
def RdD.gr{K:Fg}{F H F' H':Hp}{v:V}{d:D}(g:Gr F H F' H')(r:RdD K F H v d):RdD K F' H' v d:=by
 rcases r with r|⟨p,k,xs,ds,rfl,h,r,rfl,hk⟩;·exact .inl (r.mono g.ff)
 ·exact .inr ⟨p,k,xs,ds,rfl,g.hh _ _ h,r.mono g.ff,rfl,hk⟩
structure Fz where
 f:Hp
 h:Hp
 p:Option Addr
def Qd(i:Nat):Nat:=1000+i
structure RS(K:Fg)(H₀:Hp)(F0:Fz)(F H:Hp)(σ:L2.St)(e:QG)(O:List Nat):Prop where
 fh:Sm F H
 hh:Sm F0.h H
 ff:Sm F0.f F
 fr:∀a o,F a=some o->F0.f a=some o\/F0.h a=none
 slot:∀i d,e[i]?=some (some d)->i∉O->∃v,σ[i]?=some (some v)/\Rep K F v d
 own:∀i d,e[i]?=some (some d)->i∈O->∃p k xs ds,σ[i]?=some (some (.ref p))/\F0.h p=none/\F p=none/\H p=some (ho k xs)/\Reps K F xs ds/\d=Zm k ds/\WH k xs
 dis:∀i j p d d',i∈O->j∈O->e[i]?=some (some d)->e[j]?=some (some d')->σ[i]?=some (some (.ref p))->σ[j]?=some (some (.ref p))->i=j
 pin:∀i,Qd i∈O->∃p,F0.p=some p/\σ[i]?=some (some (.ref p))len:σ.length=e.length
def RS.grow{K:Fg}{H₀:Hp}{F0:Fz}{F H F' H':Hp}{σ:L2.St}{e:QG}{O:List Nat}(r:RS K H₀ F0 F H σ e O)(g:Gr F H F' H'):RS K H₀ F0 F' H' σ e O where
 fh:=g.fh
 hh:=r.hh.trans g.hh
 ff:=r.ff.trans g.ff
 fr:=λa o h=>by
  rcases g.fr a o h with h|h;·exact r.fr a o h
  ·exact .inr (r.hh.none h)
 slot:=λi d h hi=>by obtain⟨v,h1,h2⟩:=r.slot i d h hi;exact⟨v,h1,h2.mono g.ff⟩
 own:=λi d h hi=>by
  obtain⟨p,k,xs,ds,h1,h2,h3,h4,h5,h6⟩:=r.own i d h hi;refine⟨p,k,xs,ds,h1,h2,?_,g.hh _ _ h4,h5.mono g.ff,h6⟩;cases q:F' p with|none=>rfl|some o=>
   rcases g.fr p o q with z|z;·rw[h3]at z;cases z
   ·rw[h4]at z;cases z
 dis:=r.dis
 pin:=r.pin
 len:=r.len
section
variable(X:Cx)(O:List Nat)
noncomputable def tD(ev:Q7):TE:=λσ H Q=>∃F0 F e d,RS X.K X.H₀ F0 F H σ e O/\ev e=some d/\∀v F' H',Gr F H F' H'->Rep X.K F' v d->Q v H'
def tR(ev:Q7):TE:=λσ H Q=>∃F0 F e d,RS X.K X.H₀ F0 F H σ e O/\ev e=some d/\∀v F' H',Gr F H F' H'->RdD X.K F' H' v d->Q v H'
def tO(ev:Q7):TE:=λσ H Q=>∃F0 F e d,RS X.K X.H₀ F0 F H σ e O/\ev e=some d/\∀p k xs ds F' H',Gr F H F' H'->H p=none->F' p=none->H' p=some (ho k xs)->Reps X.K F' xs ds->d=Zm k ds->WH k xs->Q (.ref p) H'
def tDT(ev:Q7):TT:=λσ H Q=>∃F0 F e b,RS X.K X.H₀ F0 F H σ e O/\ev e=some (.bl b)/\∀F' H',Gr F H F' H'->Q b H'
def tL(l:ZC):TA:=λσ H Q=>∃F0 F e ds,RS X.K X.H₀ F0 F H σ e O/\l e=some ds/\∀vs F' H',Gr F H F' H'->Reps X.K F' vs ds->Q vs H'
def MX(l:T7):TO:=λσ H Q=>∃F0 F e o,RS X.K X.H₀ F0 F H σ e O/\l e=some o/\∀F' H',Gr F H F' H'->Q o H'
end
section
variable{X:Cx}{O:List Nat}{e a b c:Expr}{pos:Pos}
def PE.imp{t t':TE}(h:PE X e t)(q:∀σ H Q,t' σ H Q->t σ H Q):PE X e t':=λaa s σ H Q I z=>h aa s σ H Q I (q σ H Q z)
def PT.imp{t t':TT}(h:PT X e t)(q:∀σ H Q,t' σ H Q->t σ H Q):PT X e t':=λaa s σ H Q I z=>h aa s σ H Q I (q σ H Q z)
def PW.imp{t t':TT}(h:PW X e t)(q:∀σ H Q,t' σ H Q->t σ H Q):PW X e t':=λw aa s σ H Q I z=>h w aa s σ H Q I (q σ H Q z)
def PA.imp{es:List Expr}{t t':TA}(h:PA X es t)(q:∀σ H Q,t' σ H Q->t σ H Q):PA X es t':=λp aa s σ H Q I z=>h p aa s σ H Q I (q σ H Q z)
def PS.imp{st:Stmt}{t t':TS}(h:PS X st t)(q:∀D σ H,t' D σ H->t D σ H):PS X st t':=λaa s σ H D I z=>h aa s σ H D I (q D σ H z)
def PSs.imp{st:List Stmt}{t t':TS}(h:PSs X st t)(q:∀D σ H,t' D σ H->t D σ H):PSs X st t':=λaa s σ H D I z=>h aa s σ H D I (q D σ H z)
def dr{ev:Q7}(h:PE X e (tD X O ev)):PE X e (tR X O ev):=PE.imp h λσ H Q⟨F0,F,en,d,r,w,k⟩=>⟨F0,F,en,d,r,w,λv F' H' g q=>k v F' H' g (.inl q)⟩
def dC{v:V}{d:D}(hr:∀K F,Rep K F v d)(h:PE X e (tC v)):PE X e (tD X O (eC d)):=PE.imp h λσ H Q⟨F0,F,en,d',r,w,k⟩=>by cases w;exact k v F H (.refl r.fh) (hr _ _)
def TM{b:Bool}{j}:PE X (.Constant (.bool b) j pos) (tD X O (eC (.bl b))):=dC (λ_ _=>.bl b) QgK
def Qy{i:Int}{j}:PE X (.Constant (.int i) j pos) (tD X O (eC (.int i))):=dC (λ_ _=>.int i) Sk
def QM{x:Str}{j}:PE X (.Constant (.str x) j pos) (tD X O (eC (.str x))):=dC (λ_ _=>.str x) CP
def JW{x:Str}{i:Int}(hm:∃t,X.mg x=some (.int i t))(hg:Gl X x)(hd:(x==("__debug__":Str))=false:=by decide):PE X (.Name x pos) (tD X O (eC (.int i))):=by obtain⟨t,hm⟩:=hm;exact dC (λ_ _=>.int i) (QgT hg hm (show RelV (.int i) _ from⟨t,rfl⟩) hd)
def Vf{i:Nat}{en:QG}{d:D}(h:eV i en=some d):en[i]?=some (some d):=by unfold eV at h;cases q:en[i]? with|none=>rw[q]at h;cases h|some o=>rw[q]at h;cases o with|none=>cases h|some x=>cases h;rfl
def Ql(i:Nat){x:Str}(hN:X.N[i]?=some x:=by rfl)(hv:WK X.env.scope x:=by first|exact Or.inl rfl|exact Or.inr (Or.inl rfl)|exact Or.inr (Or.inr rfl))(hO:i∉O:=by decide)(hd:(x==("__debug__":Str))=false:=by decide)(b5:(x==("__classdict__":Str))=false:=by decide):PE X (.Name x pos) (tD X O (eV i)):=PE.imp (Zt hN hv hd b5) λσ H Q⟨F0,F,en,d,r,w,k⟩=>by obtain⟨v,h1,h2⟩:=r.slot i d (Vf w) hO;exact⟨v,h1,k v F H (.refl r.fh) h2⟩
def Wu(i:Nat){x:Str}(hN:X.N[i]?=some x:=by rfl)(hv:WK X.env.scope x:=by first|exact Or.inl rfl|exact Or.inr (Or.inl rfl)|exact Or.inr (Or.inr rfl))(hd:(x==("__debug__":Str))=false:=by decide)(b5:(x==("__classdict__":Str))=false:=by decide):PE X (.Name x pos) (tR X O (eV i)):=PE.imp (Zt hN hv hd b5) λσ H Q⟨F0,F,en,d,r,w,k⟩=>by
  by_cases hO:i∈O
  ·obtain⟨p,kk,xs,ds,h1,_,_,h4,h5,h6,h7⟩:=r.own i d (Vf w) hO;exact⟨_,h1,k _ F H (.refl r.fh) (.inr ⟨p,kk,xs,ds,rfl,h4,h5,h6,h7⟩)⟩
  ·obtain⟨v,h1,h2⟩:=r.slot i d (Vf w) hO;exact⟨v,h1,k v F H (.refl r.fh) (.inl h2)⟩
def Z7(X:Cx)(r:R2)(g:D->D->Option D):Prop:=∀(F H:Hp)(x y:V)(dx dy d:D)(Q:VK),Sm F H->RdD X.K F H x dx->RdD X.K F H y dy->g dx dy=some d->(∀v F' H',Gr F H F' H'->Rep X.K F' v d->Q v H')->r x y H Q
def U2{α β γ:Type}{a:Option α}{b:Option β}{g:α->β->Option γ}{d:γ}(h:(a.bind λx=>b.bind λy=>g x y)=some d):∃x y,a=some x/\b=some y/\g x y=some d:=by cases a with|none=>cases h|some x=>cases b with|none=>cases h|some y=>exact⟨x,y,rfl,rfl,h⟩
def JB{α β:Type}{a:Option α}{g:α->Option β}{d:β}(h:(a.bind λx=>g x)=some d):∃x,a=some x/\g x=some d:=by cases a with|none=>cases h|some x=>exact⟨x,rfl,h⟩
def Z5{α β:Type}{a:Option α}{g:α->β}{d:β}(h:a.map g=some d):∃x,a=some x/\g x=d:=by cases a with|none=>cases h|some x=>cases h;exact⟨x,rfl,rfl⟩
def NT{r:R2}{g:D->D->Option D}{ea eb:Q7}(ho:Z7 X r g){σ:L2.St}{H:Hp}{Q:VK}(h:tD X O (Q5 g ea eb) σ H Q):X8 r (tR X O ea) (tR X O eb) σ H Q:=by obtain⟨F0,F,en,d,rs,w,k⟩:=h;obtain⟨dx,dy,e1,e2,e3⟩:=U2 w;refine⟨F0,F,en,dx,rs,e1,λx F1 H1 g1 r1=>?_⟩;refine⟨F0,F1,en,dy,rs.grow g1,e2,λy F2 H2 g2 r2=>?_⟩;exact ho F2 H2 x y dx dy d Q g2.fh (r1.gr g2) r2 e3 λv F' H' g3 r3=>k v F' H' ((g1.trans g2).trans g3) r3
def Q8{op:Operator}{r:R2}{g:D->D->Option D}{ea eb:Q7}(ho:OpR X (binaryOp op) r/\Z7 X r g)(ha:PE X a (tR X O ea))(hb:PE X b (tR X O eb)):PE X (.BinOp a op b pos) (tD X O (Q5 g ea eb)):=PE.imp (Ij ho.1 ha hb) λσ H Q=>NT ho.2
def VB{op:CmpOp}{r:R2}{g:D->D->Option D}{ea eb:Q7}(ho:OpR X (compareOp op) r/\Z7 X r g)(ha:PE X a (tR X O ea))(hb:PE X b (tR X O eb))(hm:behindInMarks op b=false):PE X (.Compare a [op] [b] pos) (tD X O (Q5 g ea eb)):=PE.imp (QgP ho.1 ha hb hm) λσ H Q=>NT ho.2
def Qcv{ea eb:Q7}{r:R2}(ho:IxR X r/\Z7 X r D.ix)(ha:PE X a (tR X O ea))(hb:PE X b (tR X O eb))(hs:LC b:=by intro _ _;rfl):PE X (.Subscript a b pos) (tD X O (Q5 D.ix ea eb)):=PE.imp (Pu ho.1 ha hb hs) λσ H Q=>NT ho.2
end
section
variable{K:Fg}{F H:Hp}{v:V}
theorem RdD.int{i:Int}(r:RdD K F H v (.int i)):v=.int i:=by
 rcases r with r|⟨_,k,_,_,_,_,_,z,_⟩;·cases r;rfl
 ·cases k<;>cases z
theorem RdD.bl{b:Bool}(r:RdD K F H v (.bl b)):v=.bl b:=by
 rcases r with r|⟨_,k,_,_,_,_,_,z,_⟩;·cases r;rfl
 ·cases k<;>cases z
theorem RdD.str{x:Str}(r:RdD K F H v (.str x)):v=.str x:=by
 rcases r with r|⟨_,k,_,_,_,_,_,z,_⟩;·cases r;rfl
 ·cases k<;>cases z
theorem RdD.non(r:RdD K F H v .non):v=.non:=by
 rcases r with r|⟨_,k,_,_,_,_,_,z,_⟩;·cases r;rfl
 ·cases k<;>cases z
theorem RdD.tup{ds:List D}(r:RdD K F H v (.tup ds)):∃p xs,v=.ref p/\F p=some (.tup xs)/\Reps K F xs ds:=by
 rcases r with r|⟨_,k,_,_,_,_,_,z,_⟩;·cases r with|tup h r=>exact⟨_,_,rfl,h,r⟩
 ·cases k<;>cases z
theorem RdD.lst{ds:List D}(s:Sm F H)(r:RdD K F H v (.lst ds)):∃p xs,v=.ref p/\H p=some (.lst xs)/\Reps K F xs ds:=by
 rcases r with r|⟨p,k,xs,cy,h1,h2,h3,z,_⟩;·cases r with|lst h r=>exact⟨_,_,rfl,s _ _ h,r⟩
 ·cases k with|none=>cases z;exact⟨p,xs,h1,h2,h3⟩|some ks=>cases z
theorem RdD.dic{ks:List Kd}{ds:List D}(s:Sm F H)(r:RdD K F H v (.dic ks ds)):∃p xs,v=.ref p/\Rd H p (.dK (ks.zip xs))/\ks.length=xs.length/\Reps K F xs ds:=by
 rcases r with r|⟨p,k,xs,cy,h1,h2,h3,z,h4⟩;·cases r with|dic h hl r=>exact⟨_,_,rfl,.inr ⟨_,s _ _ h⟩,hl,r⟩
 ·cases k with|none=>cases z|some gw=>cases z;exact⟨p,xs,h1,.inl h2,h4,h3⟩
theorem RdD.scr{ns:List Int}(r:RdD K F H v (.scr ns)):∃p,v=.ref p/\SqL K F p (ns.map V.int):=by
 rcases r with r|⟨_,k,_,_,_,_,_,z,_⟩;·cases r with|scr h=>exact⟨_,rfl,h⟩
 ·cases k<;>cases z
def RdD.rep{d:D}(s:Sm F H)(hd:∀ks ds,d≠.dic ks ds)(r:RdD K F H v d):Rep K H v d:=by
 rcases r with r|⟨p,k,xs,cy,rfl,h2,h3,rfl,h4⟩;·exact r.mono s
 ·cases k with|none=>exact .lst h2 (h3.mono s)|some ks=>exact absurd rfl (hd ks cy)
end
section
variable{X:Cx}
def Vj:sizeLine=lI:=by decide
def QX:OpR X (binaryOp .Add) (λx y H Q=>((∃i j,x=.int i/\y=.int j/\Q (.int (i+j)) H)\/∃i j,x=.str i/\y=.str j/\i.length+j.length<=sizeLine/\Q (.str (i++j)) H)\/Iu x y H Q\/Iv X.K x y H Q)/\Z7 X (λx y H Q=>((∃i j,x=.int i/\y=.int j/\Q (.int (i+j)) H)\/∃i j,x=.str i/\y=.str j/\i.length+j.length<=sizeLine/\Q (.str (i++j)) H)\/Iu x y H Q\/Iv X.K x y H Q) D.add:=by
 refine⟨OpR.or (OpR.or Qgj Ic) (OpR.or Qgk Qgl),λF H x y dx dy d Q s rx ry e k=>? _⟩;cases dx<;>cases dy<;>try(simp[D.add]at e;done)
 case int.int i j=>
  cases e;exact .inl (.inl ⟨i,j,rx.int,ry.int,k _ F H (.refl s) (.int _)⟩)
 case str.str i j=>
  simp only[D.add]at e;split at e
  ·rename_i hz;cases e;exact .inl (.inr ⟨i,j,rx.str,ry.str,by rw[Vj];exact hz,k _ F H (.refl s) (.str _)⟩)
  ·cases e
 case lst.lst xs ys=>
  simp only[D.add]at e;split at e
  ·rename_i hz;cases e;obtain⟨p,us,rfl,h1,r1⟩:=rx.lst s;obtain⟨q,ws,rfl,h2,r2⟩:=ry.lst s;refine .inr (.inl ⟨p,q,us,ws,rfl,rfl,h1,h2,by rw[Vj,r1.length,r2.length];exact hz,λl hl=>? _⟩);have g:=Gr.new s hl (.lst (us++ws));exact k _ _ _ g (.lst Jz ((r1.append r2).mono g.ff))
  ·cases e
 case tup.tup xs ys=>cases xs with
  |nil=>simp[D.add]at e|cons z xs=>
   simp only[D.add]at e;split at e
   ·rename_i hz;cases e;obtain⟨p,us,rfl,h1,r1⟩:=rx.tup;obtain⟨q,ws,rfl,h2,r2⟩:=ry.tup;have hu:us≠[]:=λz=>by subst z;cases r1
    refine .inr (.inr ⟨p,q,us,ws,rfl,rfl,SqT.of (s _ _ h1),SqT.of (s _ _ h2),hu,? _,λz=>? _,λ_ l hl=>? _⟩);·rw[Vj,r1.length,r2.length];exact hz
    ·subst z;cases r2;refine k _ F H (.refl s) ? _;rw[Yx];exact .tup h1 r1
    ·have g:=Gr.new s hl (.tup (us++ws));exact k _ _ _ g (.tup Jz ((r1.append r2).mono g.ff))
   ·cases e
def NC{g:D->D->Option D}(h:∀dx dy d,g dx dy=some d->∃i j,dx=.int i/\dy=.int j){C:Int->Int->Prop}{f:Int->Int->V}{fd:Int->Int->D}(hg:∀i j d,g (.int i) (.int j)=some d->C i j/\d=fd i j)(hf:∀K F i j,Rep K F (f i j) (fd i j)):Z7 X (rI C f) g:=λF H x y dx dy d Q s rx ry e k=>by obtain⟨i,j,rfl,rfl⟩:=h dx dy d e;obtain⟨c,rfl⟩:=hg i j d e;exact⟨i,j,rx.int,ry.int,c,k _ F H (.refl s) (hf _ _ i j)⟩
def ND{g:D->D->Option D}(h:∀dx dy d,g dx dy=some d->∃i j,dx=.int i/\dy=.int j){f:Int->Int->V}{fd:Int->Int->D}(hg:∀i j d,g (.int i) (.int j)=some d->d=fd i j)(hf:∀K F i j,Rep K F (f i j) (fd i j)):Z7 X (YS f) g:=λF H x y dx dy d Q s rx ry e k=>by obtain⟨i,j,rfl,rfl⟩:=h dx dy d e;cases hg i j d e;exact⟨i,j,rx.int,ry.int,k _ F H (.refl s) (hf _ _ i j)⟩
def VH:OpR X (binaryOp .Sub) (YS λi j=>.int (i-j))/\Z7 X (YS λi j=>.int (i-j)) D.sub:=⟨QgA,ND (fd:=λi j=>.int (i-j)) (λdx dy d e=>by cases dx<;>cases dy<;>simp[D.sub]at e⊢) (λi j d e=>by cases e;rfl) λ_ _ _ _=>.int _⟩
def Qgu:OpR X (binaryOp .Mult) (rI CMul λi j=>.int (i*j))/\Z7 X (rI CMul λi j=>.int (i*j)) D.mul:=⟨CJ,NC (fd:=λi j=>.int (i*j)) (λdx dy d e=>by cases dx<;>cases dy<;>simp[D.mul]at e⊢) (λi j d e=>by
  simp only[D.mul]at e;split at e;·rename_i h;cases e;exact⟨h,rfl⟩
  ·cases e) λ_ _ _ _=>.int _⟩
def Js:OpR X (binaryOp .Mod) (rI (λ_ j=>0<j) λi j=>.int (i%j))/\Z7 X (rI (λ_ j=>0<j) λi j=>.int (i%j)) D.mod:=⟨Qgt,NC (fd:=λi j=>.int (i%j)) (λdx dy d e=>by cases dx<;>cases dy<;>simp[D.mod]at e⊢) (λi j d e=>by
  simp only[D.mod]at e;split at e;·rename_i h;cases e;exact⟨h,rfl⟩
  ·cases e) λ_ _ _ _=>.int _⟩
def VF:OpR X (binaryOp .FloorDiv) (rI Mi λi j=>.int (i/j))/\Z7 X (rI Mi λi j=>.int (i/j)) D.fdiv:=⟨Qgm,NC (fd:=λi j=>.int (i/j)) (λdx dy d e=>by cases dx<;>cases dy<;>simp[D.fdiv]at e⊢) (λi j d e=>by
  simp only[D.fdiv]at e;split at e;·rename_i h;cases e;exact⟨h,rfl⟩
  ·cases e) λ_ _ _ _=>.int _⟩
def CL:OpR X (binaryOp .Pow) (rI Mj λi j=>.int (i^j.toNat))/\Z7 X (rI Mj λi j=>.int (i^j.toNat)) D.pow:=⟨Qgy,NC (fd:=λi j=>.int (i^j.toNat)) (λdx dy d e=>by cases dx<;>cases dy<;>simp[D.pow]at e⊢) (λi j d e=>by
  simp only[D.pow]at e;split at e;·rename_i h;cases e;exact⟨h,rfl⟩
  ·cases e) λ_ _ _ _=>.int _⟩
def NY:OpR X (compareOp .Lt) (YS λi j=>.bl (decide (i<j)))/\Z7 X (YS λi j=>.bl (decide (i<j))) D.lt:=⟨Qgs,ND (fd:=λi j=>.bl (decide (i<j))) (λdx dy d e=>by cases dx<;>cases dy<;>simp[D.lt]at e⊢) (λi j d e=>by cases e;rfl) λ_ _ _ _=>.bl _⟩
def Uv:OpR X (compareOp .Gt) (YS λi j=>.bl (decide (j<i)))/\Z7 X (YS λi j=>.bl (decide (j<i))) D.gt:=⟨Qgn,ND (fd:=λi j=>.bl (decide (j<i))) (λdx dy d e=>by cases dx<;>cases dy<;>simp[D.gt]at e⊢) (λi j d e=>by cases e;rfl) λ_ _ _ _=>.bl _⟩
def LP{xs:List V}{ds:List D}{F:Hp}{i:Int}{d:D}(r:Reps X.K F xs ds)(e:((JN ds.length i).bind λk=>ds[k]?)=some d):∃v,XW xs i=some v/\Rep X.K F v d:=by obtain⟨k,e1,e2⟩:=JB e;obtain⟨v,h1,h2⟩:=r.get e2;refine⟨v,?_,h2⟩;unfold XW;rw[r.length,show UP ds.length i=some k from e1];exact h1
def Qgi:Z7 X (UY X.K) D.ix:=λF H x y dx dy d Q s rx ry e k=>by
 cases dx<;>cases dy<;>try(simp[D.ix]at e;done)
 case str.int z i=>
  simp only[D.ix]at e;split at e
  ·rename_i hz;obtain⟨j,e1,e2⟩:=JB e;obtain⟨c,e3,rfl⟩:=Z5 e2;refine .inr (.inr ⟨z,i,c,rx.str,ry.int,by rw[Vj];exact hz,?_,k _ F H (.refl s) (.str _)⟩);unfold XW;have hl:z.cps.toList.length=z.length:=by simp[Str.length]
   rw[hl,show UP z.length i=some j from e1];simpa using e3
  ·cases e
 case tup.int ds i=>
  obtain⟨p,xs,rfl,h,r⟩:=rx.tup;obtain⟨v,h1,h2⟩:=LP r e;exact .inr (.inl ⟨p,xs,i,v,rfl,ry.int,SqT.of (s _ _ h),h1,k _ F H (.refl s) h2⟩)
 case lst.int ds i=>
  obtain⟨p,xs,rfl,h,r⟩:=rx.lst s;obtain⟨v,h1,h2⟩:=LP r e;exact .inl ⟨p,xs,i,v,rfl,ry.int,SqL.of h,h1,k _ F H (.refl s) h2⟩
 case scr.int ns i=>
  obtain⟨p,rfl,h⟩:=rx.scr;have r:Reps X.K F (ns.map V.int) (ns.map D.int):=Reps.ints ns;have e':((JN (ns.map D.int).length i).bind λk=>(ns.map D.int)[k]?)=some d:=by
   rw[Qo];simp only[D.ix]at e;simpa using e
  obtain⟨v,h1,h2⟩:=LP r e';exact .inl ⟨p,_,i,v,rfl,ry.int,s.sqL h,h1,k _ F H (.refl s) h2⟩
def Qgp:IxR X (UY X.K)/\Z7 X (UY X.K) D.ix:=⟨P6,Qgi⟩
def Qh{O:List Nat}{a b:Expr}{pos:Pos}{ea eb:Q7}(ha:PE X a (tR X O ea))(hb:PE X b (tR X O eb))(hs:LC b:=by intro _ _;rfl):PE X (.Subscript a b pos) (tD X O (Q5 D.ix ea eb)):=Qcv Qgp ha hb hs
end
def Wb(ds es:List D)(j:Nat):Bool:=match ds[j]?,es[j]? with|some d,some e=>(D.eq d e).getD false|_,_=>false
def QcS(d e:D)(ds es:List D)(j:Nat):Wb (d::ds) (e::es) (j+1)=Wb ds es j:=by simp[Wb]
theorem Oj:∀(ds es:List D)(b:Bool),D.eqL ds es=some b->(∀(j:Nat)(d e:D),ds[j]?=some d->es[j]?=some e->∃c,D.eq d e=some c)/\b=((List.range (min ds.length es.length)).all (Wb ds es)&&ds.length==es.length)
 |[],[],b,h=>by
  rw[D.eqL]at h;cases h;exact⟨λj d e h=>by simp at h,by simp⟩|[],e::es,b,h=>by
  rw[D.eqL]at h;·cases h;exact⟨λj d e h=>by simp at h,by simp⟩
  all_goals simp|d::ds,[],b,h=>by
  rw[D.eqL]at h;·cases h;exact⟨λj d e _ h=>by simp at h,by simp⟩
  all_goals simp|d::ds,e::es,b,h=>by
  rw[D.eqL]at h;cases q1:D.eq d e with
  |none=>rw[q1]at h;cases h|some b1=>cases q2:D.eqL ds es with
   |none=>rw[q1,q2]at h;cases h|some b2=>
    rw[q1,q2,Y3]at h;cases h;obtain⟨i1,i2⟩:=Oj ds es b2 q2;refine⟨λj d' e' h1 h2=>?_,?_⟩;·cases j with
     |zero=>simp at h1 h2;subst h1 h2;exact⟨b1,q1⟩|succ j=>exact i1 j d' e' (by simpa using h1) (by simpa using h2)
    ·have hm:min (d::ds).length (e::es).length=min ds.length es.length+1:=by simp only[JV];omega
     rw[hm,List.range_succ_eq_map,all_cons,List.all_map];have h0:Wb (d::ds) (e::es) 0=b1:=by simp[Wb,q1]
     have hf:(Wb (d::ds) (e::es)∘Nat.succ)=Wb ds es:=funext λj=>QcS d e ds es j;rw[h0,hf,i2];simp[Bool.and_assoc]
mutual theorem Qc4{K:Fg}{H:Hp}:∀{x:V}{d e:D}{b:Bool},Rep K H x d->Rep K H x e->D.eq d e=some b->b=true
 |_,_,_,b,.non,r,h=>by cases r;simp[D.eq,D.oth]at h;exact h|_,_,_,b,.bl c,r,h=>by cases r;simp[D.eq,D.oth]at h;exact h|_,_,_,b,.int c,r,h=>by cases r;simp[D.eq,D.oth]at h;exact h|_,_,_,b,.str c,r,h=>by cases r;simp[D.eq,D.oth]at h;exact h|_,_,_,b,.tup h1 r1,r,h=>by cases r with
  |tup h2 r2=>
   rw[h1]at h2;cases h2;rw[D.eq]at h;exact eqs_same r1 r2 h|lst h2 r2=>rw[h1]at h2;cases h2|scr h2=>simp[D.eq,D.oth]at h|dic h2 cS r2=>simp[D.eq,D.oth]at h
 |_,_,_,b,.lst h1 r1,r,h=>by cases r with
  |lst h2 r2=>rw[h1]at h2;cases h2;rw[D.eq]at h;exact eqs_same r1 r2 h|tup h2 r2=>rw[h1]at h2;cases h2|scr h2=>simp[D.eq,D.oth]at h|dic h2 cS r2=>simp[D.eq,D.oth]at h
 |_,_,_,b,.scr h1,r,h=>by
  rw[D.eq]at h;cases h|_,_,_,b,.dic h1 _ _,r,h=>by cases r<;>simp[D.eq,D.oth]at h theorem eqs_same{K:Fg}{H:Hp}:∀{xs:List V}{ds es:List D}{b:Bool},Reps K H xs ds->Reps K H xs es->D.eqL ds es=some b->b=true
 |_,_,_,b,.nil,r,h=>by cases r;rw[D.eqL]at h;cases h;rfl|_,_,_,b,.cons (d:=d) (ds:=ds) h1 r1,.cons (d:=e) (ds:=es) h2 r2,h=>by rw[D.eqL]at h;cases q1:D.eq d e with|none=>rw[q1]at h;cases h|some b1=>cases q2:D.eqL ds es with|none=>rw[q1,q2]at h;cases h|some b2=>rw[q1,q2,Y3]at h;cases h;rw[Qc4 h1 h2 q1,eqs_same r1 r2 q2];rfl end
def KZ(i j:Int):(i==j)=decide (i=j):=by by_cases h:i=j<;>simp[h]
theorem E8:∀{ds:List D}{j:Nat}{d:D},ds[j]?=some d->d.dep<=D.depL ds|[],_,_,h=>by simp at h|d::ds,0,_,h=>by simp at h;subst h;rw[ZI];exact Nat.le_max_left _ _|d::ds,j+1,x,h=>by rw[ZI];exact Zk (E8 (ds:=ds) (j:=j) (by simpa using h)) (Nat.le_max_right _ _)
section
variable{X:Cx}{aa:List (Addr×Obj)}{σ:L2.St}{H:Hp}{s:Shared}
def OA(A:Around)(s:Shared)(v u:Value)(b:Bool):Prop:=SeqAt.RcAt A s v u b/\SeqAt.EqAt A s v u b/\SeqAt.RcNeAt A s v u (!b)
def DE(I:Inv X aa σ H s){n:Nat}{ds es:List D}{xs ys:List V}{us ws:List Value}{A:Around}{b:Bool}(hn:D.depL ds<=n)(hA:A.units+n<cLine)(ih:∀(d e:D)(x y:V)(v u:Value)(b:Bool),d.dep<=n->Rep X.K H x d->Rep X.K H y e->RelV x v->RelV y u->D.eq d e=some b->OA A s v u b)(r1:Reps X.K H xs ds)(r2:Reps X.K H ys es)(v1:Vals xs us)(v2:Vals ys ws)(h:D.eqL ds es=some b):∀j(h1:j<us.toArray.size)(h2:j<ws.toArray.size),SeqAt.EqAt A s us.toArray[j] ws.toArray[j] (Wb ds es j):=λj h1 h2=>by
 obtain⟨q1,q2⟩:=Oj ds es b h;have l1:=r1.length;have l2:=r2.length;have l3:=v1.length;have l4:=v2.length;simp only[Jp]at h1 h2;have hd:j<ds.length:=by omega
 have he:j<es.length:=by omega
 obtain⟨x,hx,rx⟩:=r1.get (Qf hd);obtain⟨y,hy,ry⟩:=r2.get (Qf he);obtain⟨u,hu,ru⟩:=v1.get hx;obtain⟨w,hw,bN⟩:=v2.get hy;obtain⟨c,hc⟩:=q1 j _ _ (Qf hd) (Qf he);have e1:us.toArray[j]=u:=by
  rw[Qf h1]at hu;simpa using Option.some.inj hu
 have e2:ws.toArray[j]=w:=by
  rw[Qf h2]at hw;simpa using Option.some.inj hw
 have e3:Wb ds es j=c:=by simp[Wb,Qf hd,Qf he,hc]
 rw[e1,e2,e3];exact(ih _ _ x y u w c (Zk (E8 (Qf hd)) hn) rx ry ru bN hc).2.1
def HA{A:Around}{p q:Addr}{b:Bool}(h:SeqAt.RcAt A s (.ref p) (.ref q) b)(hn:SeqAt.RcNeAt A s (.ref p) (.ref q) (!b))(hs:p=q->b=true):OA A s (.ref p) (.ref q) b:=by
 refine⟨h,?_,hn⟩;by_cases e:p=q;·rw[hs e,e];exact SeqAt.EqAt.same _
 ·exact SeqAt.EqAt.of_refs e h
def Ed(I:Inv X aa σ H s){d e:D}{x y:V}{v u:Value}{A:Around}{b:Bool}(hd:d.dep=0)(hu:A.units<cLine)(rx:Rep X.K H x d)(ry:Rep X.K H y e)(rv:RelV x v)(ru:RelV y u)(h:D.eq d e=some b):OA A s v u b:=by
 have L:∀{a:Addr}{xs:List V},H a=some (.lst xs)->∃its,s.heap.IsList a its:=λh=>let⟨its,_,pl,_⟩:=I.list (SqL.of h);⟨_,pl.isList⟩;have T:∀{a:Addr}{xs:List V},H a=some (.tup xs)->∃its,s.heap.IsTuple a its:=λh=>let⟨its,_,pl,_⟩:=I.tuple (SqT.of h);⟨_,pl⟩;cases rx with
 |tup h1 r1=>rw[ZP]at hd;omega|lst h1 r1=>rw[ZO]at hd;omega|scr h1=>rw[D.eq]at h;cases h|dic h1 kZ r1=>cases ry<;>simp[D.eq,D.oth]at h|non=>
  cases show v=Value.none from rv;cases ry with
  |non=>
   cases show u=Value.none from ru;simp[D.eq,D.oth]at h;subst h;exact⟨SeqAt.RcAt.none_none,SeqAt.EqAt.same _,SeqAt.RcNeAt.none_none⟩|bl c2=>cases show u=Value.bool c2 from ru;simp[D.eq,D.oth]at h;subst h;exact⟨SeqAt.RcAt.none_bool _,SeqAt.EqAt.none_bool _,SeqAt.RcNeAt.none_bool _⟩|int i2=>obtain⟨tu,qu⟩:=show∃t,u=Value.int i2 t from ru;cases qu;simp[D.eq,D.oth]at h;subst h;exact⟨SeqAt.RcAt.none_int _ _,SeqAt.EqAt.none_int _ _,SeqAt.RcNeAt.none_int _ _⟩|str z2=>
   obtain⟨tu,qu⟩:=show∃t,u=Value.str z2 t from ru;cases qu;simp[D.eq,D.oth]at h;subst h;exact⟨SeqAt.RcAt.none_str _ _,SeqAt.EqAt.none_str _ _,SeqAt.RcNeAt.none_str _ _⟩|tup h2 r2=>
   cases show u=Value.ref _ from ru;simp[D.eq,D.oth]at h;subst h;obtain⟨its,hi⟩:=T h2;exact⟨SeqAt.RcAt.none_tuple hi hu,SeqAt.EqAt.none_tuple hi hu,SeqAt.RcNeAt.none_tuple hi hu⟩|lst h2 r2=>cases show u=Value.ref _ from ru;simp[D.eq,D.oth]at h;subst h;obtain⟨its,hi⟩:=L h2;exact⟨SeqAt.RcAt.none_list hi hu,SeqAt.EqAt.none_list hi hu,SeqAt.RcNeAt.none_list hi hu⟩|scr h2=>simp[D.eq,D.oth]at h|dic h2 cS r2=>simp[D.eq,D.oth]at h
 |bl c=>cases show v=Value.bool c from rv;cases ry with
  |non=>cases show u=Value.none from ru;simp[D.eq,D.oth]at h;subst h;exact⟨SeqAt.RcAt.bool_none _,SeqAt.EqAt.bool_none _,SeqAt.RcNeAt.bool_none _⟩|bl c2=>
   cases show u=Value.bool c2 from ru;simp only[D.eq]at h;have hb:b=(c==c2):=(Option.some.inj h).symm;subst hb;exact⟨SeqAt.RcAt.bool_bool _ _,SeqAt.EqAt.bool_bool _ _,SeqAt.RcNeAt.bool_bool _ _⟩|int i2=>
   obtain⟨tu,qu⟩:=show∃t,u=Value.int i2 t from ru;cases qu;simp only[D.eq]at h;have hb:b=((if c then 1 else 0)==i2):=by rw[<-Option.some.inj h,KZ];rfl
   subst hb;exact⟨SeqAt.RcAt.bool_int _ _ _,SeqAt.EqAt.bool_int _ _ _,SeqAt.RcNeAt.bool_int _ _ _⟩|str z2=>obtain⟨tu,qu⟩:=show∃t,u=Value.str z2 t from ru;cases qu;simp[D.eq,D.oth]at h;subst h;exact⟨SeqAt.RcAt.bool_str _ _ _,SeqAt.EqAt.bool_str _ _ _,SeqAt.RcNeAt.bool_str _ _ _⟩|tup h2 r2=>
   cases show u=Value.ref _ from ru;simp[D.eq,D.oth]at h;subst h;obtain⟨its,hi⟩:=T h2;exact⟨SeqAt.RcAt.bool_tuple _ hi hu,SeqAt.EqAt.bool_tuple _ hi hu,SeqAt.RcNeAt.bool_tuple _ hi hu⟩|lst h2 r2=>
   cases show u=Value.ref _ from ru;simp[D.eq,D.oth]at h;subst h;obtain⟨its,hi⟩:=L h2;exact⟨SeqAt.RcAt.bool_list _ hi hu,SeqAt.EqAt.bool_list _ hi hu,SeqAt.RcNeAt.bool_list _ hi hu⟩|scr h2=>simp[D.eq,D.oth]at h|dic h2 cS r2=>simp[D.eq,D.oth]at h
 |int i=>obtain⟨tv,qv⟩:=show∃t,v=Value.int i t from rv;cases qv;cases ry with
  |non=>
   cases show u=Value.none from ru;simp[D.eq,D.oth]at h;subst h;exact⟨SeqAt.RcAt.int_none _ _,SeqAt.EqAt.int_none _ _,SeqAt.RcNeAt.int_none _ _⟩|bl c2=>
   cases show u=Value.bool c2 from ru;simp only[D.eq]at h;have hb:b=(i==if c2 then 1 else 0):=by rw[<-Option.some.inj h,KZ];rfl
   subst hb;exact⟨SeqAt.RcAt.int_bool _ _ _,SeqAt.EqAt.int_bool _ _ _,SeqAt.RcNeAt.int_bool _ _ _⟩|int i2=>
   obtain⟨tu,qu⟩:=show∃t,u=Value.int i2 t from ru;cases qu;simp only[D.eq]at h;have hb:b=(i==i2):=by rw[<-Option.some.inj h,KZ]
   subst hb;exact⟨SeqAt.RcAt.int_int _ _ _ _,SeqAt.EqAt.int_int _ _ _ _,SeqAt.RcNeAt.int_int _ _ _ _⟩|str z2=>
   obtain⟨tu,qu⟩:=show∃t,u=Value.str z2 t from ru;cases qu;simp[D.eq,D.oth]at h;subst h;exact⟨SeqAt.RcAt.int_str _ _ _ _,SeqAt.EqAt.int_str _ _ _ _,SeqAt.RcNeAt.int_str _ _ _ _⟩|tup h2 r2=>cases show u=Value.ref _ from ru;simp[D.eq,D.oth]at h;subst h;obtain⟨its,hi⟩:=T h2;exact⟨SeqAt.RcAt.int_tuple _ _ hi hu,SeqAt.EqAt.int_tuple _ _ hi hu,SeqAt.RcNeAt.int_tuple _ _ hi hu⟩|lst h2 r2=>cases show u=Value.ref _ from ru;simp[D.eq,D.oth]at h;subst h;obtain⟨its,hi⟩:=L h2;exact⟨SeqAt.RcAt.int_list _ _ hi hu,SeqAt.EqAt.int_list _ _ hi hu,SeqAt.RcNeAt.int_list _ _ hi hu⟩|scr h2=>simp[D.eq,D.oth]at h|dic h2 cS r2=>simp[D.eq,D.oth]at h
 |str z=>
  obtain⟨tv,qv⟩:=show∃t,v=Value.str z t from rv;cases qv;cases ry with
  |non=>
   cases show u=Value.none from ru;simp[D.eq,D.oth]at h;subst h;exact⟨SeqAt.RcAt.str_none _ _,SeqAt.EqAt.str_none _ _,SeqAt.RcNeAt.str_none _ _⟩|bl c2=>cases show u=Value.bool c2 from ru;simp[D.eq,D.oth]at h;subst h;exact⟨SeqAt.RcAt.str_bool _ _ _,SeqAt.EqAt.str_bool _ _ _,SeqAt.RcNeAt.str_bool _ _ _⟩|int i2=>obtain⟨tu,qu⟩:=show∃t,u=Value.int i2 t from ru;cases qu;simp[D.eq,D.oth]at h;subst h;exact⟨SeqAt.RcAt.str_int _ _ _ _,SeqAt.EqAt.str_int _ _ _ _,SeqAt.RcNeAt.str_int _ _ _ _⟩|str z2=>
   obtain⟨tu,qu⟩:=show∃t,u=Value.str z2 t from ru;cases qu;simp only[D.eq]at h;have hb:b=(z==z2):=by
    rw[<-Option.some.inj h];by_cases q:z=z2<;>simp[q]
   subst hb;exact⟨SeqAt.RcAt.str_str _ _ _ _,SeqAt.EqAt.str_str _ _ _ _,SeqAt.RcNeAt.str_str _ _ _ _⟩|tup h2 r2=>
   cases show u=Value.ref _ from ru;simp[D.eq,D.oth]at h;subst h;obtain⟨its,hi⟩:=T h2;exact⟨SeqAt.RcAt.str_tuple _ _ hi hu,SeqAt.EqAt.str_tuple _ _ hi hu,SeqAt.RcNeAt.str_tuple _ _ hi hu⟩|lst h2 r2=>cases show u=Value.ref _ from ru;simp[D.eq,D.oth]at h;subst h;obtain⟨its,hi⟩:=L h2;exact⟨SeqAt.RcAt.str_list _ _ hi hu,SeqAt.EqAt.str_list _ _ hi hu,SeqAt.RcNeAt.str_list _ _ hi hu⟩|scr h2=>simp[D.eq,D.oth]at h|dic h2 cS r2=>simp[D.eq,D.oth]at h
def Ea(I:Inv X aa σ H s):∀(n:Nat)(d e:D)(x y:V)(v u:Value)(A:Around)(b:Bool),d.dep<=n->A.units+n<cLine->Rep X.K H x d->Rep X.K H y e->RelV x v->RelV y u->D.eq d e=some b->OA A s v u b:=by
 have L:∀{a:Addr}{xs:List V},H a=some (.lst xs)->∃its:List Value,Vals xs its/\s.heap.IsList a its.toArray:=λh=>let⟨its,r,pl,_⟩:=I.list (SqL.of h);⟨its,r,pl.isList⟩;have T:∀{a:Addr}{xs:List V},H a=some (.tup xs)->∃its:List Value,Vals xs its/\s.heap.IsTuple a its.toArray:=λh=>let⟨its,r,pl,_⟩:=I.tuple (SqT.of h);⟨its,r,pl⟩;intro n;induction n with|zero=>intro d e x y v u A b hd hA rx ry rv ru h;exact Ed I (by omega) (by omega) rx ry rv ru h|succ n ih=>
  intro d e x y v u A b hd hA rx ry rv ru h;have hu:A.units<cLine:=by omega
  have gI:A.in1.units+n<cLine:=by show A.units+1+n<cLine;omega
  by_cases h0:d.dep=0;·exact Ed I h0 hu rx ry rv ru h
  cases rx with
  |non=>exact absurd YW h0|bl c=>exact absurd (YV c) h0|int c=>exact absurd (J6 c) h0|str c=>exact absurd (JF c) h0|scr h1=>
   rw[D.eq]at h;·cases h
   all_goals simp|dic h1 kZ r1=>cases ry<;>simp[D.eq,D.oth]at h|@tup p xs ds h1 r1=>
   cases show v=Value.ref p from rv;rw[ZP]at hd;obtain⟨us,v1,t1⟩:=T h1;cases ry with
   |scr h2=>simp[D.eq,D.oth]at h|dic h2 cS r2=>simp[D.eq,D.oth]at h|non=>cases show u=Value.none from ru;simp[D.eq,D.oth]at h;subst h;exact⟨SeqAt.RcAt.tuple_none t1 hu,SeqAt.EqAt.tuple_none t1 hu,SeqAt.RcNeAt.tuple_none t1 hu⟩|bl c2=>
    cases show u=Value.bool c2 from ru;simp[D.eq,D.oth]at h;subst h;exact⟨SeqAt.RcAt.tuple_bool _ t1 hu,SeqAt.EqAt.tuple_bool _ t1 hu,SeqAt.RcNeAt.tuple_bool _ t1 hu⟩|int i2=>
    obtain⟨tu,qu⟩:=show∃t,u=Value.int i2 t from ru;cases qu;simp[D.eq,D.oth]at h;subst h;exact⟨SeqAt.RcAt.tuple_int _ _ t1 hu,SeqAt.EqAt.tuple_int _ _ t1 hu,SeqAt.RcNeAt.tuple_int _ _ t1 hu⟩|str z2=>
    obtain⟨tu,qu⟩:=show∃t,u=Value.str z2 t from ru;cases qu;simp[D.eq,D.oth]at h;subst h;exact⟨SeqAt.RcAt.tuple_str _ _ t1 hu,SeqAt.EqAt.tuple_str _ _ t1 hu,SeqAt.RcNeAt.tuple_str _ _ t1 hu⟩|@lst q ys es h2 r2=>cases show u=Value.ref q from ru;obtain⟨ws,v2,t2⟩:=L h2;simp[D.eq,D.oth]at h;subst h;exact⟨SeqAt.RcAt.tuple_list t1 t2 hu,SeqAt.EqAt.tuple_list t1 t2 hu,SeqAt.RcNeAt.tuple_list t1 t2 hu⟩|@tup q ys es h2 r2=>
    cases show u=Value.ref q from ru;obtain⟨ws,v2,t2⟩:=T h2;rw[D.eq]at h;have hi:=DE (A:=A.in1) I (by omega) gI (λd e x y v u b hd rx ry rv ru h=>ih d e x y v u A.in1 b hd gI rx ry rv ru h) r1 r2 v1 v2 h;have hr:=SeqAt.RcAt.tuples t1 t2 hu hi;have hn:=SeqAt.RcNeAt.tuples t1 t2 hu hi;have hb:b=((List.range (min us.toArray.size ws.toArray.size)).all (Wb ds es)&&us.toArray.size==ws.toArray.size):=by
     rw[(Oj ds es b h).2];simp only[Jp];rw[<-v1.length,<-v2.length,r1.length,r2.length]
    rw[<-hb]at hr hn;refine HA hr hn λz=>? _;subst z;rw[h1]at h2;cases h2;exact eqs_same r1 r2 h
  |@lst p xs ds h1 r1=>cases show v=Value.ref p from rv;rw[ZO]at hd;obtain⟨us,v1,t1⟩:=L h1;cases ry with
   |scr h2=>simp[D.eq,D.oth]at h|dic h2 cS r2=>simp[D.eq,D.oth]at h|non=>cases show u=Value.none from ru;simp[D.eq,D.oth]at h;subst h;exact⟨SeqAt.RcAt.list_none t1 hu,SeqAt.EqAt.list_none t1 hu,SeqAt.RcNeAt.list_none t1 hu⟩|bl c2=>cases show u=Value.bool c2 from ru;simp[D.eq,D.oth]at h;subst h;exact⟨SeqAt.RcAt.list_bool _ t1 hu,SeqAt.EqAt.list_bool _ t1 hu,SeqAt.RcNeAt.list_bool _ t1 hu⟩|int i2=>
    obtain⟨tu,qu⟩:=show∃t,u=Value.int i2 t from ru;cases qu;simp[D.eq,D.oth]at h;subst h;exact⟨SeqAt.RcAt.list_int _ _ t1 hu,SeqAt.EqAt.list_int _ _ t1 hu,SeqAt.RcNeAt.list_int _ _ t1 hu⟩|str z2=>
    obtain⟨tu,qu⟩:=show∃t,u=Value.str z2 t from ru;cases qu;simp[D.eq,D.oth]at h;subst h;exact⟨SeqAt.RcAt.list_str _ _ t1 hu,SeqAt.EqAt.list_str _ _ t1 hu,SeqAt.RcNeAt.list_str _ _ t1 hu⟩|@tup q ys es h2 r2=>cases show u=Value.ref q from ru;obtain⟨ws,v2,t2⟩:=T h2;simp[D.eq,D.oth]at h;subst h;exact⟨SeqAt.RcAt.list_tuple t1 t2 hu,SeqAt.EqAt.list_tuple t1 t2 hu,SeqAt.RcNeAt.list_tuple t1 t2 hu⟩|@lst q ys es h2 r2=>
    cases show u=Value.ref q from ru;obtain⟨ws,v2,t2⟩:=L h2;rw[D.eq]at h;have hb:=(Oj ds es b h).2;have l1:=r1.length;have l2:=r2.length;have l3:=v1.length;have l4:=v2.length;by_cases hz:ds.length=es.length
    ·have hi:=DE (A:=A.in1) I (by omega) gI (λd e x y v u b hd rx ry rv ru h=>ih d e x y v u A.in1 b hd gI rx ry rv ru h) r1 r2 v1 v2 h;have hr:=SeqAt.RcAt.lists t1 t2 (by simp only[Jp];omega) hu hi;have hn:=SeqAt.RcNeAt.lists t1 t2 (by simp only[Jp];omega) hu hi;have d5:b=(List.range us.toArray.size).all (Wb ds es):=by
      rw[hb];simp only[Jp];rw[<-l3,l1,hz,min_self];simp
     rw[<-d5]at hr hn;refine HA hr hn λz=>? _;subst z;rw[h1]at h2;cases h2;exact eqs_same r1 r2 h
    ·have hr:=SeqAt.RcAt.lists_lengths (A:=A) t1 t2 (by simp only[Jp,bne_iff_ne];omega) hu;have hn:=SeqAt.RcNeAt.lists_lengths (A:=A) t1 t2 (by simp only[Jp,bne_iff_ne];omega) hu;have d5:b=false:=by rw[hb];simp[hz]
     rw[d5];refine HA hr hn λz=>? _;subst z;rw[h1]at h2;cases h2;omega
def Eb{dx dy:D}{b:Bool}(h:D.eq dx dy=some b)(ks:List Kd)(ds:List D):dx≠.dic ks ds:=by rintro rfl;cases dy<;>simp[D.eq,D.oth]at h
def Ec{dx dy:D}{b:Bool}(h:D.eq dx dy=some b)(ks:List Kd)(ds:List D):dy≠.dic ks ds:=by rintro rfl;cases dx<;>simp[D.eq,D.oth]at h
def MJ(X:Cx)(g:Bool->Bool):R2:=λx y H Q=>∃F dx dy b,Sm F H/\RdD X.K F H x dx/\RdD X.K F H y dy/\dx.dep<=40/\D.eq dx dy=some b/\Q (.bl (g b)) H
def Xm(hu:X.A.units+64<cLine):OpR X (compareOp .Eq) (MJ X id)/\Z7 X (MJ X id) D.eqO:=by
 refine⟨λaa s σ H x y v u Q I rx ry⟨F,dx,dy,b,sm,r1,r2,hd,h,q⟩=>?_,λF H x y dx dy d Q sm rx ry e k=>?_⟩
 ·have:=(Ea I 40 dx dy x y v u X.A b hd (by omega) (r1.rep sm (Eb h)) (r2.rep sm (Ec h)) rx ry h).1;exact this X.prog X.w X.xe _ ⟨.bl b,H,I,rfl,q⟩
 ·simp only[D.eqO]at e;split at e
  ·rename_i hd;obtain⟨b,e1,rfl⟩:=Z5 e;exact⟨F,dx,dy,b,sm,rx,ry,hd,e1,k _ F H (.refl sm) (.bl b)⟩
  ·cases e
def Qgw(hu:X.A.units+64<cLine):OpR X (compareOp .NotEq) (MJ X (!·))/\Z7 X (MJ X (!·)) D.neO:=by
 refine⟨λaa s σ H x y v u Q I rx ry⟨F,dx,dy,b,sm,r1,r2,hd,h,q⟩=>?_,λF H x y dx dy d Q sm rx ry e k=>?_⟩
 ·have:=(Ea I 40 dx dy x y v u X.A b hd (by omega) (r1.rep sm (Eb h)) (r2.rep sm (Ec h)) rx ry h).2.2;exact this X.prog X.w X.xe _ ⟨.bl (!b),H,I,rfl,q⟩
 ·simp only[D.neO]at e;split at e
  ·rename_i hd;obtain⟨b,e1,rfl⟩:=Z5 e;exact⟨F,dx,dy,b,sm,rx,ry,hd,e1,k _ F H (.refl sm) (.bl (!b))⟩
  ·cases e
end
def QhH(A:Around)(s:Shared)(a:Int)(t:Tok)(c:Int)(u:Tok)(prog:Program)(w:World)(E:Value->Shared->Prop)(Q:Value->Shared->Prop)(h:Q (.bool (decide (a<=c))) s):wpAny (model prog w) A (richCompare .LtE (.int a t) (.int c u)) Q E s:=(PyProof.Rows.le_int h:wpAny (model prog w) A (compareOp .LtE (.int a t) (.int c u)) Q E s)
section
open PySem.SeqAt
open PySem.AutoSeq1(wpAny_loadPart')
open PySem.MeetsSeq PySem.MeetsSeq2 PySem.MeetsSeq3
def Qes(x y:Int)(xs ys:List Int):X0 (x::xs) (y::ys)=if x=y then X0 xs ys else decide (x<y):=rfl
def QiS(l b:Addr)(items bf:Array Value)(n n2:Nat)(dd eX:Option Addr)(sl eD:Array (Option Value))(ns ms:List Int)(hi:IntsAre items.toList ns)(hj:IntsAre bf.toList ms):Meets (Builtin.«tuple.__le__» ⟨[.ref l,.ref b],[]⟩) (λ_ R s=>s.heap.get? l=some {cls:=.type "tuple",dict:=dd,data:=.seq items n,slots:=sl}/\s.heap.get? b=some {cls:=.type "tuple",dict:=eX,data:=.seq bf n2,slots:=eD}/\R (.ok (.ret (.bool (X0 ns ms)))) s):=.of_wp λprog w A R s h=>by
  obtain⟨hp,g,d,tk,os⟩:=s;obtain⟨hl,hb,h⟩:=h;have f2:=AutoSeq1.sub_tuple_tuple;have z1:items.size=ns.length:=by rw[<-hi.length];simp
  have z2:bf.size=ms.length:=by rw[<-hj.length];simp
  wp_walk using wpAny_loadPart' hl,wpAny_loadPart' hb,wpAny_forIn_list _ (λJ7 b s'=>b.1=none/\s'=⟨hp,g,d,tk,os⟩/\∃(vs ws:List Value)(bJ eF:List Int),J7=vs.zip ws/\IntsAre vs bJ/\IntsAre ws eF/\bJ.length+bf.size=eF.length+items.size/\R (.ok (.ret (.bool (X0 bJ eF)))) ⟨hp,g,d,tk,os⟩) _;case turn=>rintro⟨y,x⟩J7 b s'⟨d5,rfl,vs,ws,bJ,eF,hz,hV,hU,hlen,hR⟩;cases hV with|nil=>rw[List.zip_nil_left]at hz;cases hz|cons a t iX=>cases hU with|nil=>rw[List.zip_nil_right]at hz;cases hz|cons c u iU=>
     rw[Uy]at hz;injection hz with kA fY;injection kA with hy hx;subst hy hx;rw[Qes]at hR;simp only[JV]at hlen;obtain⟨e,he,fV⟩:=HT.eqAt_int A.in1 ⟨hp,g,d,tk,os⟩ a t c u;refine wpAny_bind (he prog w _ _ ?_);cases e with
     |true=>rw[if_pos (fV.mp rfl)]at hR;wp_walk;exact⟨rfl,rfl,_,_,_,_,fY,iX,iU,by omega,hR⟩|false=>
      have lO:a≠c:=λq=>absurd (fV.mpr q) WR;rw[if_neg lO]at hR;have hd:decide (a<c)=decide (a<=c):=by
       by_cases z:a<c;·rw[Z6 z,Z6 (by omega)]
       ·rw[JU z,JU (by omega)]
      rw[hd]at hR;have kN:=QhH A.in1 ⟨hp,g,d,tk,os⟩ a t c u prog w;wp_walk using kN;exact⟨_,rfl,by simpa using hR⟩
  case fin=>
   rintro⟨b1,b2⟩s'⟨d5,rfl,vs,ws,bJ,eF,hz,hV,hU,hlen,hR⟩;simp only at d5;subst d5;have hv:X0 bJ eF=decide (items.size<=bf.size):=by cases hV with
    |nil=>simp only[WT]at hlen;show true=_;exact(Z6 (by omega)).symm|cons a t hv=>cases hU with
     |nil=>simp only[WT,JV]at hlen;show false=_;exact(JU (by omega)).symm|cons c u hw=>
      rw[Uy]at hz;cases hz
   rw[hv]at hR;wp_walk;exact⟨_,rfl,by simpa[Builtin.Tuple.tupleCompareSizes]using hR⟩
  case h=>exact⟨rfl,rfl,items.toList,bf.toList,ns,ms,rfl,hi,hj,by omega,h⟩
end
def Qeo{prog:Program}{w:World}{A:Around}{E:Value->Shared->Prop}{s:Shared}{l b:Addr}{items bf:Array Value}{ns ms:List Int}{Q:Value->Shared->Prop}(hl:IsTup s.heap l items)(hb:IsTup s.heap b bf)(hi:IntsAre items.toList ns)(hj:IntsAre bf.toList ms)(hu:A.units<cLine)(h:Q (.bool (X0 ns ms)) s):wpAny (model prog w) A (compareOp .LtE (.ref l) (.ref b)) Q E s:=by obtain⟨⟨cls,dd,data,sl⟩,ho,hc,n,hd⟩:=id hl;obtain⟨⟨jh,eX,data2,eD⟩,dg,fF,n2,hd2⟩:=id hb;simp only at hc hd fF hd2;subst hc hd fF hd2;exact richCompare_meets_room (op:=.LtE) ⟨_,ho,rfl⟩ ⟨_,dg,rfl⟩ PySem.F.slot_tuple_le PySem.F.entry_tuple_le (PySem.F.args_tuple_le_2 _ _) (QiS l b items bf n n2 dd eX sl eD ns ms hi hj) ⟨ho,dg,show Value.bool (X0 ns ms)≠Value.notImplemented/\Q (.bool (X0 ns ms)) s from⟨(λx=>nomatch x),h⟩⟩ hu
section
variable{X:Cx}{O:List Nat}{e a b c:Expr}{pos:Pos}
def Iw(K:Fg):R2:=λx y H Q=>∃a b ns ms,x=.ref a/\y=.ref b/\SqT K H a (ns.map V.int)/\SqT K H b (ms.map V.int)/\Q (.bl (X0 ns ms)) H
def Qgr(hu:X.A.units<cLine):OpR X (compareOp .LtE) (Iw X.K):=by intro aa s σ H x y v u Q I rx ry h;obtain⟨a,b,ns,ms,rfl,rfl,ha,hb,q⟩:=h;cases rx;cases ry;obtain⟨its,r1,p1,_⟩:=I.tuple ha;obtain⟨bO,r2,p2,_⟩:=I.tuple hb;have i1:IntsAre its.toArray.toList ns:=D9 r1;have i2:IntsAre bO.toArray.toList ms:=D9 r2;exact Qeo p1 p2 i1 i2 hu ⟨.bl (X0 ns ms),H,I,rfl,q⟩
def Sd(hu:X.A.units<cLine):OpR X (compareOp .LtE) (λx y H Q=>(YS λi j=>.bl (decide (i<=j))) x y H Q\/Iw X.K x y H Q)/\Z7 X (λx y H Q=>(YS λi j=>.bl (decide (i<=j))) x y H Q\/Iw X.K x y H Q) D.le:=by
 refine⟨OpR.or Qgq (Qgr hu),λF H x y dx dy d Q s rx ry e k=>?_⟩;cases dx<;>cases dy<;>try(simp[D.le]at e;done)
 case int.int i j=>cases e;exact .inl ⟨i,j,rx.int,ry.int,k _ F H (.refl s) (.bl _)⟩
 case tup.tup xs ys=>
  simp only[D.le]at e;split at e
  ·rename_i na nb e1 e2;cases e;obtain⟨p,us,rfl,h1,r1⟩:=rx.tup;obtain⟨q,ws,rfl,h2,r2⟩:=ry.tup;have z1:=r1.intsOf e1;have z2:=r2.intsOf e2;subst z1 z2;exact .inr ⟨p,q,na,nb,rfl,rfl,SqT.of (s _ _ h1),SqT.of (s _ _ h2),k _ F H (.refl s) (.bl _)⟩
  ·cases e
def Qiy{ev:Q7}{σ:L2.St}{H:Hp}{Q:Bool->Hp->Prop}(h:tDT X O ev σ H Q):tD X O ev σ H λx H'=>∃k,x=.bl k/\Q k H':=by obtain⟨F0,F,en,b,rs,w,k⟩:=h;refine⟨F0,F,en,.bl b,rs,w,λv F' H' g r=>?_⟩;cases r;exact⟨b,rfl,k F' H' g⟩
def QiG{ev:Q7}{σ:L2.St}{H:Hp}{Q:Bool->Hp->Prop}(h:tDT X O ev σ H Q):tR X O ev σ H λx H'=>∃k,x=.bl k/\Q k H':=by obtain⟨F0,F,en,b,rs,w,k⟩:=h;refine⟨F0,F,en,.bl b,rs,w,λv F' H' g r=>?_⟩;exact⟨b,r.bl,k F' H' g⟩
def Wv{op:CmpOp}{r:R2}{g:D->D->Option D}{ea eb:Q7}(ho:OpR X (compareOp op) r/\Z7 X r g)(ha:PE X a (tR X O ea))(hb:PE X b (tR X O eb))(hm:behindInMarks op b=false):PT X (.Compare a [op] [b] pos) (tDT X O (Q5 g ea eb)):=PT.imp (Qhn ho.1 ha hb hm) λσ H Q h=>NT ho.2 (Qiy h)
def Zi{ev:Q7}(h:PE X e (tR X O ev))(he:∀whole,isTrue e X.env whole=(do let v<-whole;standAt e.pos;holding [v] (truthy v)):=by intro _;rfl):PT X e (tDT X O ev):=PT.imp (Qhq h he) λσ H Q h=>QiG h
def UK{α:Type}{o:Option D}{x y:Option α}{r:α}(h:YY o x y=some r):∃c,o=some (.bl c)/\(if c=true then x else y)=some r:=by cases o with|none=>cases h|some d=>cases d with|bl c=>exact⟨c,rfl,h⟩|_=>cases h
def tDT.of{ev:Q7}{F0:Fz}{F:Hp}{en:QG}{σ:L2.St}{H:Hp}{Q:Bool->Hp->Prop}{b:Bool}(rs:RS X.K X.H₀ F0 F H σ en O)(w:ev en=some (.bl b))(k:∀F' H',Gr F H F' H'->Q b H'):tDT X O ev σ H Q:=⟨F0,F,en,b,rs,w,k⟩
def Qaw{ea eb:Q7}{σ:L2.St}{H:Hp}{Q:Bool->Hp->Prop}(h:tDT X O (Qn ea eb) σ H Q):AA (tDT X O ea) (tDT X O eb) σ H Q:=by obtain⟨F0,F,en,b,rs,w,k⟩:=h;obtain⟨c,e1,e2⟩:=UK w;refine⟨F0,F,en,c,rs,e1,λF1 H1 g1=>?_⟩;cases c with|true=>exact UM (.of (rs.grow g1) e2 λF' H' g=>k F' H' (g1.trans g))|false=>cases e2;exact UL (k F1 H1 g1)
def QgC{ea eb:Q7}{σ:L2.St}{H:Hp}{Q:Bool->Hp->Prop}(h:tDT X O (Qa ea eb) σ H Q):AG (tDT X O ea) (tDT X O eb) σ H Q:=by obtain⟨F0,F,en,b,rs,w,k⟩:=h;obtain⟨c,e1,e2⟩:=UK w;refine⟨F0,F,en,c,rs,e1,λF1 H1 g1=>?_⟩;cases c with|true=>cases e2;exact UM (k F1 H1 g1)|false=>exact UL (.of (rs.grow g1) e2 λF' H' g=>k F' H' (g1.trans g))
def VP{ev:Q7}{op}(h:PT X a (tDT X O ev)):PW X (.BoolOp op [a] pos) (tDT X O ev):=by
 cases op;·exact Qhy h
 ·exact QhA h
def UC{J7:List Expr}{ea eb:Q7}(ha:PT X a (tDT X O ea))(hb:PW X (.BoolOp .And (b::J7) pos) (tDT X O eb)):PW X (.BoolOp .And (a::b::J7) pos) (tDT X O (Qn ea eb)):=PW.imp (Qhx ha hb) λσ H Q h=>Qaw h
def XG{J7:List Expr}{ea eb:Q7}(ha:PT X a (tDT X O ea))(hb:PW X (.BoolOp .Or (b::J7) pos) (tDT X O eb)):PW X (.BoolOp .Or (a::b::J7) pos) (tDT X O (Qa ea eb)):=PW.imp (Qhz ha hb) λσ H Q h=>QgC h
def Oi{ev:Q7}(ha:PT X a (tDT X O ev)):PT X (.UnaryOp .Not a pos) (tDT X O (JT ev)):=PT.imp (Qho ha) λσ H Q⟨F0,F,en,b,rs,w,k⟩=>by have w':Ti (ev en)=some (.bl b):=w;cases q:ev en with|none=>rw[q]at w';cases w'|some d=>rw[q]at w';cases d with|bl c=>cases w';exact⟨F0,F,en,c,rs,q,k⟩|_=>cases w'
def TN{ev:Q7}{op}(h:PE X a (tD X O ev)):PE X (.BoolOp op [a] pos) (tD X O ev):=QgW h
def SD{J7:List Expr}{ea eb:Q7}(ha:PE X a (tR X O ea))(hb:PE X (.BoolOp .And (b::J7) pos) (tD X O eb)):PE X (.BoolOp .And (a::b::J7) pos) (tD X O (Qn ea eb)):=PE.imp (QgJ ha hb) λσ H Q⟨F0,F,en,d,rs,w,k⟩=>by obtain⟨c,e1,e2⟩:=UK w;refine⟨F0,F,en,.bl c,rs,e1,λv F1 H1 g1 r1=>⟨c,r1.bl,?_⟩⟩;cases c with|true=>exact UM ⟨F0,F1,en,d,rs.grow g1,e2,λv F' H' g r=>k v F' H' (g1.trans g) r⟩|false=>cases e2;exact UL (k _ F1 H1 g1 (.bl _))
def Qcx{J7:List Expr}{ea eb:Q7}(ha:PE X a (tR X O ea))(hb:PE X (.BoolOp .Or (b::J7) pos) (tD X O eb)):PE X (.BoolOp .Or (a::b::J7) pos) (tD X O (Qa ea eb)):=PE.imp (QgX ha hb) λσ H Q⟨F0,F,en,d,rs,w,k⟩=>by obtain⟨c,e1,e2⟩:=UK w;refine⟨F0,F,en,.bl c,rs,e1,λv F1 H1 g1 r1=>⟨c,r1.bl,?_⟩⟩;cases c with|true=>cases e2;exact UM (k _ F1 H1 g1 (.bl _))|false=>exact UL ⟨F0,F1,en,d,rs.grow g1,e2,λv F' H' g r=>k v F' H' (g1.trans g) r⟩
def Qcw{ev:Q7}(ha:PE X a (tR X O ev)):PE X (.UnaryOp .Not a pos) (tD X O (JT ev)):=PE.imp (QgV ha) λσ H Q⟨F0,F,en,d,rs,w,k⟩=>by have w':Ti (ev en)=some d:=w;cases q:ev en with|none=>rw[q]at w';cases w'|some x=>rw[q]at w';cases x with|bl c=>cases w';exact⟨F0,F,en,.bl c,rs,q,λv F' H' g r=>⟨c,r.bl,k _ F' H' g (.bl _)⟩⟩|_=>cases w'
def Ob{ec ea eb:Q7}(hc:PT X c (tDT X O ec))(ha:PE X a (tD X O ea))(hb:PE X b (tD X O eb)):PE X (.IfExp c a b pos) (tD X O (Zb ec ea eb)):=PE.imp (QgU hc ha hb) λσ H Q⟨F0,F,en,d,rs,w,k⟩=>by obtain⟨c,e1,e2⟩:=UK w;refine⟨F0,F,en,c,rs,e1,λF1 H1 g1=>?_⟩;cases c with|true=>exact UM ⟨F0,F1,en,d,rs.grow g1,e2,λv F' H' g r=>k v F' H' (g1.trans g) r⟩|false=>exact UL ⟨F0,F1,en,d,rs.grow g1,e2,λv F' H' g r=>k v F' H' (g1.trans g) r⟩
def Oc{ev:Q7}(ha:PE X a (tR X O ev)):PE X (.UnaryOp .USub a pos) (tD X O (QB D.neg ev)):=PE.imp (Ik Hu ha) λσ H Q⟨F0,F,en,d,rs,w,k⟩=>by obtain⟨x,e1,e2⟩:=JB w;cases x with|int i=>cases e2;exact⟨F0,F,en,.int i,rs,e1,λv F' H' g r=>⟨i,r.int,k _ F' H' g (.int _)⟩⟩|_=>cases e2
def QaX{g g':D->D->Option D}{r r':R2}{ea eb ec:Q7}(ho:Z7 X r g)(ck:Z7 X r' g'){σ:L2.St}{H:Hp}{Q:VK}(h:tD X O (Zy g g' ea eb ec) σ H Q):AD r r' (tR X O ea) (tR X O eb) (tR X O ec) σ H Q:=by obtain⟨F0,F,en,d,rs,w,k⟩:=h;obtain⟨dx,dy,e1,e2,e3⟩:=U2 w;obtain⟨c,e4,e5⟩:=UK e3;refine⟨F0,F,en,dx,rs,e1,λx F1 H1 g1 r1=>?_⟩;refine⟨F0,F1,en,dy,rs.grow g1,e2,λy F2 H2 g2 r2=>?_⟩;refine ho F2 H2 x y dx dy (.bl c) _ g2.fh (r1.gr g2) r2 e4 λv F3 H3 g3 r3=>?_;cases r3;refine⟨c,rfl,?_⟩;have dG:=(g1.trans g2).trans g3;cases c with|true=>obtain⟨dz,e6,e7⟩:=JB e5;refine UM ⟨F0,F3,en,dz,rs.grow dG,e6,λz F4 H4 g4 r4=>?_⟩;exact ck F4 H4 y z dy dz d _ g4.fh ((r2.gr g3).gr g4) r4 e7 λv F' H' g5 r5=>k v F' H' ((dG.trans g4).trans g5) r5|false=>cases e5;exact UL (k _ F3 H3 dG (.bl _))
def E5{op dU:CmpOp}{g g':D->D->Option D}{r r':R2}{ea eb ec:Q7}(ho:OpR X (compareOp op) r/\Z7 X r g)(ck:OpR X (compareOp dU) r'/\Z7 X r' g')(ha:PE X a (tR X O ea))(hb:PE X b (tR X O eb))(hc:PE X c (tR X O ec))(hm:lastMarks [op,dU] [b,c]=false:=by with_unfolding_all rfl):PE X (.Compare a [op,dU] [b,c] pos) (tD X O (Zy g g' ea eb ec)):=PE.imp (QgO ho.1 ck.1 ha hb hc hm) λσ H Q h=>QaX ho.2 ck.2 h
def Dz:PA X [] (tL X O lN):=PA.imp Vw λσ H Q⟨F0,F,en,ds,rs,w,k⟩=>by cases w;exact k [] F H (.refl rs.fh) .nil
def U9{es:List Expr}{ea:Q7}{l:ZC}(ha:PE X a (tD X O ea))(hr:PA X es (tL X O l))(hs:starEach (a::es) X.env=(false,eval a X.env)::starEach es X.env:=by rfl):PA X (a::es) (tL X O (lC ea l)):=PA.imp (ZJ ha hr hs) λσ H Q⟨F0,F,en,ds,rs,w,k⟩=>by obtain⟨d,e1,e2⟩:=JB w;obtain⟨cy,e3,rfl⟩:=Z5 e2;refine⟨F0,F,en,d,rs,e1,λv F1 H1 g1 r1=>?_⟩;exact⟨F0,F1,en,cy,rs.grow g1,e3,λvs F2 H2 g2 r2=>k (v::vs) F2 H2 (g1.trans g2) (.cons (r1.mono g2.ff) r2)⟩
def P8:∀(e:QG)(d:List D),lN e=some d->d.length<=0:=λe d h=>by cases h;exact Qz 0
def Xk{n:Nat}{ea:Q7}{l:ZC}(h:∀(e:QG)(d:List D),l e=some d->d.length<=n):∀(e:QG)(d:List D),lC ea l e=some d->d.length<=n+1:=λe d w=>by obtain⟨x,e1,e2⟩:=JB w;obtain⟨ds,e3,rfl⟩:=Z5 e2;exact Nat.succ_le_succ (h e ds e3)
def JZ{es:List Expr}{l:ZC}{x1}(h:PA X es (tL X O l))(hz:∀(e:QG)(d:List D),l e=some d->d.length<=lI):PE X (.Tuple es x1 pos) (tD X O (QN l)):=PE.imp (CQ h) λσ H Q⟨F0,F,en,d,rs,w,k⟩=>by obtain⟨ds,e1,rfl⟩:=Z5 w;refine⟨F0,F,en,ds,rs,e1,λvs F1 H1 g1 r1=>⟨by rw[r1.length,Vj];exact hz en ds e1,λp hp=>?_⟩⟩;have g:=Gr.new g1.fh hp (.tup vs);exact k _ _ _ (g1.trans g) (.tup Jz (r1.mono g.ff))
def Jr{es:List Expr}{l:ZC}(h:PA X es (tL X O l))(hz:∀(e:QG)(d:List D),l e=some d->d.length<=lI):PE X (.List es pos) (tD X O (QF l)):=PE.imp (MD h) λσ H Q⟨F0,F,en,d,rs,w,k⟩=>by obtain⟨ds,e1,rfl⟩:=Z5 w;refine⟨F0,F,en,ds,rs,e1,λvs F1 H1 g1 r1=>⟨by rw[r1.length,Vj];exact hz en ds e1,λp hp=>?_⟩⟩;have g:=Gr.new g1.fh hp (.lst vs);exact k _ _ _ (g1.trans g) (.lst Jz (r1.mono g.ff))
def Wr{es:List Expr}{l:ZC}(h:PA X es (tL X O l))(hz:∀(e:QG)(d:List D),l e=some d->d.length<=lI):PE X (.List es pos) (tO X O (QF l)):=PE.imp (MD h) λσ H Q⟨F0,F,en,d,rs,w,k⟩=>by obtain⟨ds,e1,rfl⟩:=Z5 w;refine⟨F0,F,en,ds,rs,e1,λvs F1 H1 g1 r1=>⟨by rw[r1.length,Vj];exact hz en ds e1,λp hp=>?_⟩⟩;have g:=Gr.newO g1.fh hp (.lst vs);exact k p none vs ds F1 _ (g1.trans g) (g1.hh.none hp) (g1.fh.none hp) Jz r1 rfl trivial
def Vl:PO X none (MX X O JX):=λaa s σ H Q I⟨F0,F,en,o,rs,w,k⟩=>by cases w;exact Qhd aa s σ H Q I (k F H (.refl rs.fh))
def VO{ev:Q7}(h:PE X e (tR X O ev)):PO X (some e) (MX X O (JJ ev)):=λaa s σ H Q I⟨F0,F,en,o,rs,w,k⟩=>by obtain⟨d,e1,e2⟩:=JB w;cases d with|int i=>cases e2;exact Qhe h aa s σ H Q I ⟨F0,F,en,.int i,rs,e1,λv F' H' g r=>⟨i,r.int,k F' H' g⟩⟩|_=>cases e2
def Kg{K:Fg}{F:Hp}{xs:List V}{ds:List D}(r:Reps K F xs ds)(lo hi:Option Int):Reps K F (Wq xs lo hi) (J2 ds lo hi):=by unfold Wq J2;rw[r.length];exact(r.drop _).take _
def C1(X:Cx)(r:List V->Hp->VK->Prop)(g:D->Option D):Prop:=∀(F H:Hp)(x:V)(dx d:D)(Q:VK),Sm F H->RdD X.K F H x dx->g dx=some d->(∀v F' H',Gr F H F' H'->Rep X.K F' v d->Q v H')->r [x] H Q
def Pt{ev:Q7}(ha:PE X a (tR X O ev))(hs:starEach [a] X.env=[(false,eval a X.env)]:=by rfl):PA X [a] (WC (tR X O ev) X7):=ZJ ha Vw hs
def J5{id:String}{x:Str}{p:Pos}{r:List V->Hp->VK->Prop}{g:D->Option D}{ev:Q7}(hc:CallR X (.builtin id) r/\C1 X r g)(hg:Gl X x)(hm:X.mg x=none)(hv:bootBuiltins x=some (.builtin id))(ha:PE X a (tR X O ev))(hn:x≠"__name__":=by decide)(cj:(x==("__debug__":Str))=false:=by decide)(he:starEach [a] X.env=[(false,eval a X.env)]:=by rfl):PE X (.Call (.Name x p) [a] [] pos) (tD X O (QB g ev)):=PE.imp (Ii hc.1 hg hm hv (Pt ha he) hn cj he rfl) λσ H Q⟨F0,F,en,d,rs,w,k⟩=>by obtain⟨dx,e1,e2⟩:=JB w;exact⟨F0,F,en,dx,rs,e1,λv F' H' g r=>hc.2 F' H' v dx d Q g.fh r e2 λv2 F2 H2 g2 r2=>k v2 F2 H2 (g.trans g2) r2⟩
def Xc{T:String}{x:Str}{p:Pos}{r:List V->Hp->VK->Prop}{g:D->Option D}{ev:Q7}(hc:CallR X (.type T) r/\C1 X r g)(hg:Gl X x)(hm:X.mg x=none)(hv:bootBuiltins x=some (.type T))(ha:PE X a (tR X O ev))(hn:x≠"__name__":=by decide)(cj:(x==("__debug__":Str))=false:=by decide)(he:starEach [a] X.env=[(false,eval a X.env)]:=by rfl):PE X (.Call (.Name x p) [a] [] pos) (tD X O (QB g ev)):=PE.imp (QgN hc.1 hg hm hv (Pt ha he) hn cj he rfl) λσ H Q⟨F0,F,en,d,rs,w,k⟩=>by obtain⟨dx,e1,e2⟩:=JB w;exact⟨F0,F,en,dx,rs,e1,λv F' H' g r=>hc.2 F' H' v dx d Q g.fh r e2 λv2 F2 H2 g2 r2=>k v2 F2 H2 (g.trans g2) r2⟩
def JP:CallR X (.builtin "len") (λxs H Q=>(∃p ys,xs=[.ref p]/\(SqL X.K H p ys\/SqT X.K H p ys)/\Q (.int ys.length) H)\/∃z,xs=[.str z]/\z.length<=sizeLine/\Q (.int z.length) H)/\C1 X (λxs H Q=>(∃p ys,xs=[.ref p]/\(SqL X.K H p ys\/SqT X.K H p ys)/\Q (.int ys.length) H)\/∃z,xs=[.str z]/\z.length<=sizeLine/\Q (.int z.length) H) D.len:=by refine⟨CallR.or QaP QaQ,λF H x dx d Q s rx e k=>?_⟩;cases dx with
 |str z=>
  simp only[D.len]at e;split at e
  ·rename_i hz;cases e;exact .inr ⟨z,by rw[rx.str],by rw[Vj];exact hz,k _ F H (.refl s) (.int _)⟩
  ·cases e|tup ds=>cases e;obtain⟨p,xs,rfl,h,r⟩:=rx.tup;exact .inl ⟨p,xs,rfl,.inr (SqT.of (s _ _ h)),by rw[r.length];exact k _ F H (.refl s) (.int _)⟩|lst ds=>cases e;obtain⟨p,xs,rfl,h,r⟩:=rx.lst s;exact .inl ⟨p,xs,rfl,.inl (SqL.of h),by rw[r.length];exact k _ F H (.refl s) (.int _)⟩|scr ns=>cases e;obtain⟨p,rfl,h⟩:=rx.scr;exact .inl ⟨p,_,rfl,.inl (s.sqL h),by rw[Qo];exact k _ F H (.refl s) (.int _)⟩|_=>cases e
theorem log2_lt{n:Nat}(h:n<2^1900):n.log2<1920:=by
 by_cases z:n=0;·subst z;decide
 ·have:=Nat.log2_lt z (k:=1900).mpr h;omega
def Ud:CallR X (.type "str") (λxs H Q=>∃i,xs=[.int i]/\i.natAbs.log2<1920/\Q (.str (toString i)) H)/\C1 X (λxs H Q=>∃i,xs=[.int i]/\i.natAbs.log2<1920/\Q (.str (toString i)) H) D.strI:=by
 refine⟨QaT,λF H x dx d Q s rx e k=>?_⟩;cases dx with
 |int i=>
  simp only[D.strI]at e;split at e
  ·rename_i hz;cases e;exact⟨i,by rw[rx.int],log2_lt hz,k _ F H (.refl s) (.str _)⟩
  ·cases e|_=>cases e
def Ff:CallR X (.type "int") (λxs H Q=>(∃i,xs=[.int i]/\Q (.int i) H)\/∃k,xs=[.bl k]/\Q (.int (if k then 1 else 0)) H)/\C1 X (λxs H Q=>(∃i,xs=[.int i]/\Q (.int i) H)\/∃k,xs=[.bl k]/\Q (.int (if k then 1 else 0)) H) D.intB:=by refine⟨QaO,λF H x dx d Q s rx e k=>?_⟩;cases dx with|int i=>cases e;exact .inl ⟨i,by rw[rx.int],k _ F H (.refl s) (.int _)⟩|bl b=>cases e;exact .inr ⟨b,by rw[rx.bl],k _ F H (.refl s) (.int _)⟩|_=>cases e
def C2(X:Cx)(r:List V->Hp->VK->Prop)(g:D->D->Option D):Prop:=∀(F H:Hp)(x y:V)(dx dy d:D)(Q:VK),Sm F H->RdD X.K F H x dx->RdD X.K F H y dy->g dx dy=some d->(∀v F' H',Gr F H F' H'->Rep X.K F' v d->Q v H')->r [x,y] H Q
def UA{id:String}{x:Str}{p:Pos}{r:List V->Hp->VK->Prop}{g:D->D->Option D}{ea eb:Q7}(hc:CallR X (.builtin id) r/\C2 X r g)(hg:Gl X x)(hm:X.mg x=none)(hv:bootBuiltins x=some (.builtin id))(ha:PE X a (tR X O ea))(hb:PE X b (tR X O eb))(hn:x≠"__name__":=by decide)(cj:(x==("__debug__":Str))=false:=by decide)(he:starEach [a,b] X.env=[(false,eval a X.env),(false,eval b X.env)]:=by rfl)(cI:starEach [b] X.env=[(false,eval b X.env)]:=by rfl):PE X (.Call (.Name x p) [a,b] [] pos) (tD X O (Q5 g ea eb)):=PE.imp (Ii hc.1 hg hm hv (ZJ ha (Pt hb cI) (by rw[he,cI])) hn cj (by rw[he,cI]) (by rw[cI];rfl)) λσ H Q⟨F0,F,en,d,rs,w,k⟩=>by obtain⟨dx,dy,e1,e2,e3⟩:=U2 w;refine⟨F0,F,en,dx,rs,e1,λv F1 H1 g1 r1=>?_⟩;exact⟨F0,F1,en,dy,rs.grow g1,e2,λu F2 H2 g2 r2=>hc.2 F2 H2 v u dx dy d Q g2.fh (r1.gr g2) r2 e3 λv3 F3 H3 g3 r3=>k v3 F3 H3 ((g1.trans g2).trans g3) r3⟩
def U4(hc:X.calm=true):CallR X (.builtin "max") (λxs H Q=>∃i j,xs=[.int i,.int j]/\Q (.int (if j>i then j else i)) H)/\C2 X (λxs H Q=>∃i j,xs=[.int i,.int j]/\Q (.int (if j>i then j else i)) H) D.max2:=by
 refine⟨QaR hc,λF H x y dx dy d Q s rx ry e k=>?_⟩;cases dx<;>cases dy<;>try(simp[D.max2]at e;done)
 case int.int i j=>cases e;exact⟨i,j,by rw[rx.int,ry.int],k _ F H (.refl s) (.int _)⟩
noncomputable def QhB(X:Cx)(T:String):List V->Hp->VK->Prop:=λxs H Q=>∃x t b,xs=[x,.ty T]/\TyOf X.K H x t/\W.kitOne X.K t (.type T)=some b/\Q (.bl b) H
def QaN(T:String):CallR X (.builtin "isinstance") (QhB X T):=by intro aa s σ H xs us Q I r⟨x,t,b,hx,ty,e,q⟩;subst hx;obtain⟨u,w,rfl,rx,bN⟩:=Me r;cases show w=Value.type T from bN;exact QdP I rx ty e λtk=>⟨.bl b,H,I.tok tk,rfl,q⟩
def L4(K:Fg)(T:String):Prop:=∀d:D,(∀ns,d≠.scr ns)->W.kitOne K (.type (ZX d)) (.type T)=some (decide (ZX d=T)||decide (T="int")&&decide (ZX d="bool"))
def QiZ{F H:Hp}{x:V}{d:D}(s:Sm F H)(hd:∀ns,d≠.scr ns)(r:RdD X.K F H x d):TyOf X.K H x (.type (ZX d)):=by cases d with|non=>rw[r.non];exact .non|bl b=>rw[r.bl];exact .bl b|int i=>rw[r.int];exact .int i|str z=>rw[r.str];exact .str z|tup ds=>obtain⟨p,xs,rfl,h,_⟩:=r.tup;exact .tup (s _ _ h)|lst ds=>obtain⟨p,xs,rfl,h,_⟩:=r.lst s;exact .lst h|dic ks ds=>obtain⟨p,xs,rfl,h,_⟩:=r.dic s;rcases h with h|⟨o,h⟩;exact .dK h;exact .frzD h|scr ns=>exact absurd rfl (hd ns)
def E6{T:String}{x y:Str}{p p2:Pos}{ev:Q7}(kt:L4 X.K T)(hg:Gl X x)(hm:X.mg x=none)(hv:bootBuiltins x=some (.builtin "isinstance"))(lA:Gl X y)(kU:X.mg y=none)(kF:bootBuiltins y=some (.type T))(ha:PE X a (tR X O ev))(hn:x≠"__name__":=by decide)(cj:(x==("__debug__":Str))=false:=by decide)(gE:y≠"__name__":=by decide)(i9:(y==("__debug__":Str))=false:=by decide)(he:starEach [a,.Name y p2] X.env=[(false,eval a X.env),(false,eval (.Name y p2) X.env)]:=by rfl)(cI:starEach [.Name y p2] X.env=[(false,eval (.Name y p2) X.env)]:=by rfl):PE X (.Call (.Name x p) [a,.Name y p2] [] pos) (tD X O (Zn T ev)):=PE.imp (Ii (QaN T) hg hm hv (ZJ ha (ZJ (QgL lA kU kF (show RelV (.ty T) (.type T)from rfl) gE i9) Vw cI) (by rw[he,cI])) hn cj (by rw[he,cI]) (by rw[cI];rfl)) λσ H Q⟨F0,F,en,d,rs,w,k⟩=>by
  obtain⟨dx,e1,e2⟩:=JB w;have hs:(∀ns,dx≠.scr ns)/\d=.bl (decide (ZX dx=T)||(decide (T="int")&&decide (ZX dx="bool"))):=by cases dx with|scr ns=>cases e2|_=>cases e2;exact⟨(λ_ z=>nomatch z),rfl⟩
  refine⟨F0,F,en,dx,rs,e1,λv F1 H1 g1 r1=>?_⟩;refine⟨v,_,_,rfl,QiZ g1.fh hs.1 r1,kt dx hs.1,?_⟩;rw[hs.2]at k;exact k _ F1 H1 g1 (.bl _)
end
structure Ex(H₀:Hp)(F0:Fz)(F H:Hp):Prop where
 fh:Sm F H
 hh:Sm F0.h H
 ff:Sm F0.f F
 fr:∀a o,F a=some o->F0.f a=some o\/F0.h a=none
def RS.ex{K:Fg}{H₀:Hp}{F0:Fz}{F H:Hp}{σ:L2.St}{e:QG}{O:List Nat}(r:RS K H₀ F0 F H σ e O):Ex H₀ F0 F H:=⟨r.fh,r.hh,r.ff,r.fr⟩
def Ex.gr{H₀:Hp}{F0:Fz}{F H:Hp}(x:Ex H₀ F0 F H):Gr F0.f F0.h F H:=⟨x.ff,x.hh,x.fh,x.fr⟩
def Qao(K:Fg)(H₀ F H:Hp)(w:Bool)(v:V)(d:D):Prop:=if w=true then∃p k xs ds,v=.ref p/\H₀ p=none/\F p=none/\H p=some (ho k xs)/\Reps K F xs ds/\d=Zm k ds/\WH k xs else Rep K F v d
def FlOk(X:Cx)(O' OL:List Nat)(w:Bool)(F0:Fz)(F:Hp)(Dn:Ends):Fl->Prop|.nx e'=>∀σ' F' H',Sm F F'->RS X.K X.H₀ F0 F' H' σ' e' O'->Dn.nx σ' H'|.bk e'=>∀σ' F' H',Sm F F'->RS X.K X.H₀ F0 F' H' σ' e' OL->Dn.bk σ' H'|.ct e'=>∀σ' F' H',Sm F F'->RS X.K X.H₀ F0 F' H' σ' e' OL->Dn.ct σ' H'|.rt d=>∀v F' H',Ex X.H₀ F0 F' H'->Qao X.K F0.h F' H' w v d->Dn.rt v H'
def tS(X:Cx)(O O' OL:List Nat)(w:Bool)(b:QH):TS:=λDn σ H=>∃F0 F e fl,RS X.K X.H₀ F0 F H σ e O/\b e=some fl/\FlOk X O' OL w F0 F Dn fl
def FlOk.mono{X:Cx}{O' OL:List Nat}{w:Bool}{F0:Fz}{F F1:Hp}{Dn:Ends}{fl:Fl}(h:FlOk X O' OL w F0 F Dn fl)(s:Sm F F1):FlOk X O' OL w F0 F1 Dn fl:=by cases fl with|nx e=>exact λσ' F' H' q r=>h σ' F' H' (s.trans q) r|bk e=>exact λσ' F' H' q r=>h σ' F' H' (s.trans q) r|ct e=>exact λσ' F' H' q r=>h σ' F' H' (s.trans q) r|rt d=>exact h
section
variable{X:Cx}{O O1 O2 O' OL:List Nat}{w:Bool}{st:Stmt}{J7:List Stmt}{e:Expr}{pos:Pos}
def Sn:PSs X [] (tS X O O OL w QE):=PSs.imp Cd λDn σ H⟨F0,F,en,fl,rs,z,k⟩=>by cases z;exact k σ F H (.refl _) rs
def So{b:QH}(h:PS X st (tS X O O' OL w b)):PSs X [st] (tS X O O' OL w b):=Sl h
def Ss{a b:QH}(h1:PS X st (tS X O O1 OL w a))(h2:PSs X J7 (tS X O1 O' OL w b)):PSs X (st::J7) (tS X O O' OL w (sQ a b)):=PSs.imp (Tp h1 h2) λDn σ H⟨F0,F,en,fl,rs,z,k⟩=>by have z':XO (a en) b=some fl:=z;cases q:a en with|none=>rw[q]at z';cases z'|some f1=>rw[q]at z';refine⟨F0,F,en,f1,rs,q,?_⟩;cases f1 with|nx e1=>exact λσ' F' H' s r=>⟨F0,F',e1,fl,r,z',k.mono s⟩|bk e1=>cases z';exact k|ct e1=>cases z';exact k|rt d=>cases z';exact k
def QcH:PS X (.Continue pos) (tS X O O' O w YD):=PS.imp Qhj λDn σ H⟨F0,F,en,fl,rs,z,k⟩=>by cases z;exact k σ F H (.refl _) rs
def RS.exg{K:Fg}{H₀:Hp}{F0:Fz}{F H F' H':Hp}{σ:L2.St}{e:QG}{O:List Nat}(r:RS K H₀ F0 F H σ e O)(g:Gr F H F' H'):Ex H₀ F0 F' H':=(r.grow g).ex
def QZ{ev:Q7}(h:PE X e (tD X O ev)):PS X (.Return (some e) pos) (tS X O O' OL false (QI ev)):=PS.imp (Cc h) λDn σ H⟨F0,F,en,fl,rs,z,k⟩=>by obtain⟨d,e1,rfl⟩:=Z5 z;exact⟨F0,F,en,d,rs,e1,λv F' H' g r=>k v F' H' (rs.exg g) r⟩
def Ko{ev:Q7}(h:PE X e (tD X O ev))(hs:swapsWith e none pos.line X.env=pure false:=by rfl):PS X (.Expr e pos) (tS X O O OL w (Zg ev)):=PS.imp (WQ h hs) λDn σ H⟨F0,F,en,fl,rs,z,k⟩=>by obtain⟨d,e1,rfl⟩:=Z5 z;exact⟨F0,F,en,d,rs,e1,λv F' H' g r=>k σ F' H' g.ff (rs.grow g)⟩
def Qk{c:Expr}{a b:List Stmt}{ec:Q7}{ea eb:QH}(hc:PT X c (tDT X O ec))(ha:PSs X a (tS X O O' OL w ea))(hb:PSs X b (tS X O O' OL w eb)):PS X (.If c a b pos) (tS X O O' OL w (QD ec ea eb)):=PS.imp (Il hc ha hb) λDn σ H⟨F0,F,en,fl,rs,z,k⟩=>by obtain⟨c,e1,e2⟩:=UK z;refine⟨F0,F,en,c,rs,e1,λF1 H1 g1=>?_⟩;cases c with|true=>exact UM ⟨F0,F1,en,fl,rs.grow g1,e2,k.mono g1.ff⟩|false=>exact UL ⟨F0,F1,en,fl,rs.grow g1,e2,k.mono g1.ff⟩
noncomputable def dl(i:Nat)(O:List Nat):List Nat:=O.filter λj=>! j==i
noncomputable def ad(i:Nat)(O:List Nat):List Nat:=O.filter (λj=>decide (j<i))++i::O.filter λj=>decide (i<j)
def mem_dl{i j:Nat}:j∈dl i O↔j∈O/\j≠i:=by unfold dl;simp
def mem_ad{i j:Nat}:j∈ad i O↔j=i\/j∈O:=by
 unfold ad;simp only[q_7,q_47,q_5,decide_eq_true_eq];constructor
 ·rintro(h|h|h);·exact .inr h.1
  ·exact .inl h
  ·exact .inr h.1
 ·rintro(h|h);·exact .inr (.inl h)
  ·rcases Nat.lt_trichotomy j i with z|z|z;·exact .inl ⟨h,z⟩
   ·exact .inr (.inl z)
   ·exact .inr (.inr ⟨h,z⟩)
def V7{α:Type}{l:List α}{i j:Nat}{x:α}(hi:i<l.length):(l.set i x)[j]?=if i=j then some x else l[j]?:=by
 rw[Uz];split;·rename_i h;subst h;simp[hi]
 ·rfl
def RS.put{K:Fg}{H₀:Hp}{F0:Fz}{F H:Hp}{σ:L2.St}{en:QG}{i:Nat}{v:V}{d:D}(r:RS K H₀ F0 F H σ en O)(h:Rep K F v d)(hi:i<en.length)(hq:Qd i∉O):RS K H₀ F0 F H (σ.set i (some v)) (en.set i (some d)) (dl i O)where
 fh:=r.fh
 hh:=r.hh
 ff:=r.ff
 fr:=r.fr
 slot:=λj d' e1 hj=>by
  rw[V7 hi]at e1;rw[V7 (by rw[r.len];exact hi)];split at e1;·rename_i z;cases e1;rw[if_pos z];exact⟨v,rfl,h⟩
  ·rename_i z;rw[if_neg z];exact r.slot j d' e1 λq=>hj (mem_dl.mpr ⟨q,λw=>z w.symm⟩)
 own:=λj d' e1 hj=>by
  obtain⟨h1,h2⟩:=mem_dl.mp hj;rw[V7 hi,if_neg (Ne.symm h2)]at e1;rw[V7 (by rw[r.len];exact hi),if_neg (Ne.symm h2)];exact r.own j d' e1 h1
 dis:=λj k p d1 d2 hj hk f1 f2 e1 e2=>by
  obtain⟨h1,h2⟩:=mem_dl.mp hj;obtain⟨h3,h4⟩:=mem_dl.mp hk;rw[V7 (by rw[r.len];exact hi),if_neg (Ne.symm h2)]at e1;rw[V7 (by rw[r.len];exact hi),if_neg (Ne.symm h4)]at e2;rw[V7 hi,if_neg (Ne.symm h2)]at f1;rw[V7 hi,if_neg (Ne.symm h4)]at f2;exact r.dis j k p d1 d2 h1 h3 f1 f2 e1 e2
 pin:=λj hj=>by
  obtain⟨h1,_⟩:=mem_dl.mp hj;obtain⟨p,e1,e2⟩:=r.pin j h1;refine⟨p,e1,? _⟩;rw[Ux λz:i=j=>hq (by rw[z];exact h1)];exact e2
 len:=by rw[WS,WS];exact r.len
def RS.putO{K:Fg}{H₀:Hp}{F0:Fz}{F H:Hp}{σ:L2.St}{en:QG}{i:Nat}{p:Addr}{kk:Option (List Kd)}{xs:List V}{ds:List D}(r:RS K H₀ F0 F H σ en O)(h0:F0.h p=none)(hf:F p=none)(hp:H p=some (ho kk xs))(hk:WH kk xs)(hr:Reps K F xs ds)(hi:i<en.length)(hq:Qd i∉O)(gF:∀j,i≠Qd j)(hn:∀j d,j∈O->en[j]?=some (some d)->j≠i->σ[j]?≠some (some (.ref p))):RS K H₀ F0 F H (σ.set i (some (.ref p))) (en.set i (some (Zm kk ds))) (ad i O)where
 fh:=r.fh
 hh:=r.hh
 ff:=r.ff
 fr:=r.fr
 slot:=λj d' e1 hj=>by
  have jC:j≠i:=λz=>hj (mem_ad.mpr (.inl z));have k9:j∉O:=λz=>hj (mem_ad.mpr (.inr z));rw[V7 hi,if_neg (Ne.symm jC)]at e1;rw[V7 (by rw[r.len];exact hi),if_neg (Ne.symm jC)];exact r.slot j d' e1 k9
 own:=λj d' e1 hj=>by
  rw[V7 hi]at e1;rw[V7 (by rw[r.len];exact hi)];split at e1;·rename_i z;cases e1;rw[if_pos z];exact⟨p,kk,xs,ds,rfl,h0,hf,hp,hr,rfl,hk⟩
  ·rename_i z;rw[if_neg z];rcases mem_ad.mp hj with q|q;·exact absurd q.symm z
   ·exact r.own j d' e1 q
 dis:=λj k q d1 d2 hj hk f1 f2 e1 e2=>by
  rw[V7 (by rw[r.len];exact hi)]at e1 e2;rw[V7 hi]at f1 f2;by_cases z1:i=j
  ·by_cases z2:i=k;·rw[<-z1,<-z2]
   ·rw[if_pos z1]at e1;cases e1;rw[if_neg z2]at e2;rcases mem_ad.mp hk with w|w;·exact absurd w.symm z2
    ·rw[if_neg z2]at f2;exact absurd e2 (hn k d2 w f2 (Ne.symm z2))
  ·rw[if_neg z1]at e1;rcases mem_ad.mp hj with w|w;·exact absurd w.symm z1
   ·by_cases z2:i=k
    ·rw[if_pos z2]at e2;cases e2;rw[if_neg z1]at f1;exact absurd e1 (hn j d1 w f1 (Ne.symm z1))
    ·rw[if_neg z2]at e2;rcases mem_ad.mp hk with w2|w2;·exact absurd w2.symm z2
     ·rw[if_neg z1]at f1;rw[if_neg z2]at f2;exact r.dis j k q d1 d2 w w2 f1 f2 e1 e2
 pin:=λj hj=>by
  rcases mem_ad.mp hj with z|h1;·exact absurd z.symm (gF j)
  ·obtain⟨p,e1,e2⟩:=r.pin j h1;refine⟨p,e1,? _⟩;rw[Ux λz:i=j=>hq (by rw[z];exact h1)];exact e2
 len:=by rw[WS,WS];exact r.len
def RS.write{K:Fg}{H₀:Hp}{F0:Fz}{F H:Hp}{σ:L2.St}{en:QG}{i:Nat}{p:Addr}{kk:Option (List Kd)}{xs:List V}{ds:List D}(r:RS K H₀ F0 F H σ en O)(hi:i∈O){d0:D}(he:en[i]?=some (some d0))(hσ:σ[i]?=some (some (.ref p)))(h0:F0.h p=none)(hf:F p=none)(hk:WH kk xs)(hr:Reps K F xs ds):RS K H₀ F0 F (upd H p (ho kk xs)) σ (en.set i (some (Zm kk ds))) O:=have hl:i<en.length:=by cases VU i en.length with|inl h=>exact h|inr h=>rw[XJ h]at he;cases he
 {
 fh:=r.fh.upd _ hf
 hh:=r.hh.upd _ h0
 ff:=r.ff
 fr:=r.fr
 slot:=λj d' e1 hj=>by
  have z:i≠j:=λz=>hj (z▸hi);rw[V7 hl,if_neg z]at e1;exact r.slot j d' e1 hj
 own:=λj d' e1 hj=>by
  rw[V7 hl]at e1;split at e1
  ·rename_i z;cases e1;subst z;exact⟨p,kk,xs,ds,hσ,h0,hf,Jz,hr,rfl,hk⟩
  ·rename_i z;obtain⟨q,k2,ys,es,h1,h2,h3,h4,h5,h6⟩:=r.own j d' e1 hj;refine⟨q,k2,ys,es,h1,h2,h3,? _,h5,h6⟩;rw[Qi λw:q=p=>z (r.dis i j p _ _ hi hj he e1 hσ (by rw[<-w];exact h1))];exact h4
 dis:=λj k q d1 d2 hj hk f1 f2 g1 g2=>by
  rw[V7 hl]at f1 f2;have k1:∃d,en[j]?=some (some d):=by
   split at f1;·rename_i z;subst z;exact⟨_,he⟩
   ·exact⟨_,f1⟩
  have k2:∃d,en[k]?=some (some d):=by
   split at f2;·rename_i z;subst z;exact⟨_,he⟩
   ·exact⟨_,f2⟩
  obtain⟨_,k1⟩:=k1;obtain⟨_,k2⟩:=k2;exact r.dis j k q _ _ hj hk k1 k2 g1 g2
 pin:=r.pin
 len:=by rw[WS];exact r.len}
def RS.rel{K:Fg}{H₀:Hp}{F0:Fz}{F H:Hp}{σ:L2.St}{en:QG}(ob:Addr->Obj)(i:Nat)(r:RS K H₀ F0 F H σ en O):∃F' H',Sm F F'/\RS K H₀ F0 F' H' σ en (dl i O)/\(H'=H\/∃p kk xs,H p=some (ho kk xs)/\H'=upd H p (hz (ob p) kk xs)):=by
 have none_:(∀d,en[i]?=some (some d)->i∉O)->∃F' H',Sm F F'/\RS K H₀ F0 F' H' σ en (dl i O)/\(H'=H\/∃p kk xs,H p=some (ho kk xs)/\H'=upd H p (hz (ob p) kk xs)):=λhn=>by
  refine⟨F,H,.refl F,⟨r.fh,r.hh,r.ff,r.fr,λj d e1 hj=>?_,λj d e1 hj=>r.own j d e1 (mem_dl.mp hj).1,λj k p d1 d2 hj hk=>r.dis j k p d1 d2 (mem_dl.mp hj).1 (mem_dl.mp hk).1,λj hj=>r.pin j (mem_dl.mp hj).1,r.len⟩,.inl rfl⟩;exact r.slot j d e1 λw=>hj (mem_dl.mpr ⟨w,λz=>hn d (z▸e1) (z▸w)⟩)
 by_cases hi:i∈O;·cases q:en[i]? with
  |none=>exact none_ λd e=>by rw[q]at e;cases e|some o=>cases o with
   |none=>exact none_ λd e=>by rw[q]at e;cases e|some d0=>
    obtain⟨p,kk,xs,ds,h1,h2,h3,h4,h5,h6,h7⟩:=r.own i d0 q hi;have sf:Sm F (upd F p (hz (ob p) kk xs)):=(Sm.refl F).upd _ h3;refine⟨upd F p (hz (ob p) kk xs),upd H p (hz (ob p) kk xs),sf,⟨λa o e1=>?_,λa o e1=>?_,r.ff.trans sf,λa o e1=>?_,λj d e1 hj=>?_,λj d e1 hj=>?_,λj k p d1 d2 hj hk=>r.dis j k p d1 d2 (mem_dl.mp hj).1 (mem_dl.mp hk).1,λj hj=>r.pin j (mem_dl.mp hj).1,r.len⟩,.inr ⟨p,kk,xs,h4,rfl⟩⟩
    ·by_cases z:a=p;·subst z;rw[Jz]at e1⊢;exact e1
     ·rw[Qi z]at e1⊢;exact r.fh a o e1
    ·have z:a≠p:=λz=>by rw[z,h2]at e1;cases e1
     rw[Qi z];exact r.hh a o e1
    ·by_cases z:a=p;·subst z;exact .inr h2
     ·rw[Qi z]at e1;exact r.fr a o e1
    ·by_cases z:j=i
     ·subst z;rw[q]at e1;cases e1;subst h6;exact⟨_,h1,Rep.hz Jz h7 (h5.mono sf)⟩
     ·obtain⟨v,w1,w2⟩:=r.slot j d e1 λw=>hj (mem_dl.mpr ⟨w,z⟩);exact⟨v,w1,w2.mono sf⟩
    ·obtain⟨w1,w2⟩:=mem_dl.mp hj;obtain⟨p',ky,ys,es,k1,k2,k3,k4,k5,k6⟩:=r.own j d e1 w1;have ne:p'≠p:=λz:p'=p=>w2 (r.dis j i p _ _ w1 hi e1 q (by rw[<-z];exact k1) h1);refine⟨p',ky,ys,es,k1,k2,?_,?_,k5.mono sf,k6⟩;·rw[Qi ne];exact k3
     ·rw[Qi ne];exact k4
 ·exact none_ λ_ _=>hi
def RS.put'{K:Fg}{H₀:Hp}{F0:Fz}{F H:Hp}{σ:L2.St}{en:QG}(i:Nat){v:V}{d:D}(r:RS K H₀ F0 F H σ en O)(h:Rep K F v d)(hq:Qd i∉O):RS K H₀ F0 F H (σ.set i (some v)) (en.set i (some d)) (dl i O):=by
 by_cases hi:i<en.length;·exact r.put h hi hq
 ·have e1:en.set i (some d)=en:=List.set_eq_of_length_le (by omega);have e2:σ.set i (some v)=σ:=List.set_eq_of_length_le (by rw[r.len];omega);rw[e1,e2];refine⟨r.fh,r.hh,r.ff,r.fr,λj d f1 hj=>?_,λj d f1 hj=>r.own j d f1 (mem_dl.mp hj).1,λj k p d1 d2 hj hk=>r.dis j k p d1 d2 (mem_dl.mp hj).1 (mem_dl.mp hk).1,λj hj=>r.pin j (mem_dl.mp hj).1,r.len⟩;have:j≠i:=λz=>by
   rw[z,XJ (by omega)]at f1;cases f1
  exact r.slot j d f1 λw=>hj (mem_dl.mpr ⟨w,this⟩)
def RS.putO'{K:Fg}{H₀:Hp}{F0:Fz}{F H:Hp}{σ:L2.St}{en:QG}(i:Nat){p:Addr}{kk:Option (List Kd)}{xs:List V}{ds:List D}(r:RS K H₀ F0 F H σ en O)(h0:F0.h p=none)(hf:F p=none)(hp:H p=some (ho kk xs))(hk:WH kk xs)(hr:Reps K F xs ds)(hn:∀j d,j∈O->en[j]?=some (some d)->j≠i->σ[j]?≠some (some (.ref p)))(hq:Qd i∉O)(gF:∀j,i≠Qd j):RS K H₀ F0 F H (σ.set i (some (.ref p))) (en.set i (some (Zm kk ds))) (ad i O):=by
 by_cases hi:i<en.length;·exact r.putO h0 hf hp hk hr hi hq gF hn
 ·have e1:en.set i (some (Zm kk ds))=en:=List.set_eq_of_length_le (by omega);have e2:σ.set i (some (V.ref p))=σ:=List.set_eq_of_length_le (by rw[r.len];omega);have n1:en[i]?=none:=XJ (by omega);have n2:σ[i]?=none:=XJ (by rw[r.len];omega);rw[e1,e2];refine⟨r.fh,r.hh,r.ff,r.fr,λj d f1 hj=>r.slot j d f1 λw=>hj (mem_ad.mpr (.inr w)),λj d f1 hj=>?_,λj k q d1 d2 hj hk g1 g2 f1 f2=>?_,λj hj=>?_,r.len⟩
  ·rcases mem_ad.mp hj with z|z;·rw[z,n1]at f1;cases f1
   ·exact r.own j d f1 z
  ·rcases mem_ad.mp hj with z|z;·rw[z,n2]at f1;cases f1
   ·rcases mem_ad.mp hk with z2|z2;·rw[z2,n2]at f2;cases f2
    ·exact r.dis j k q d1 d2 z z2 g1 g2 f1 f2
  ·rcases mem_ad.mp hj with z|h1;·exact absurd z.symm (gF j)
   ·exact r.pin j h1
def D6{X:Cx}{aa:List (Addr×Obj)}{σ:L2.St}{H:Hp}{s:Shared}(I:Inv X aa σ H s){p:Addr}{kk:Option (List Kd)}{xs:List V}(h:H p=some (ho kk xs)):Inv X aa σ (upd H p (hz ((s.heap.get? p).getD default) kk xs)) s:=by cases kk with
 |none=>
  have e:upd H p (hz ((s.heap.get? p).getD default) none xs)=H:=by
   funext b;by_cases z:b=p;·subst z;rw[Jz];exact h.symm
   ·rw[Qi z]
  rw[e];exact I|some ks=>
  have h':H p=some (.dK (ks.zip xs)):=h;have ok:ObjOk X.prog X.w H s.heap p (.dK (ks.zip xs)):=I.hok p _ h';obtain⟨z1,z2,vs,rel,o,es,ep,ho,J7⟩:=ok;rw[ho];show Inv X aa σ (upd H p (.frz o (.dK (ks.zip xs)))) s;have ne:∀{b:Addr}{u:HO},H b=some u->(∀ah,u≠.dK ah)->b≠p:=λe n z=>by rw[z,h']at e;cases e;exact n _ rfl
  have I2:=I.step (h':=s.heap) (H':=upd H p (.frz o (.dK (ks.zip xs)))) (g':=s.gens) (d':=s.drawn) (t':=s.toks) (ch:=[]) (λb hb=>by cases hb) (λb o _ _ _ e _=>e) (λb o _ _ _ e _=>⟨o.slots,e⟩) (λb o _ e n=>by rw[Qi λz=>by rw[z,h']at n;cases n];exact n) (λb o _ e=>⟨o,e⟩) (λb xs e=>by rw[Qi (ne e λ_ z=>nomatch z)];exact e) (λb xs u e=>by rw[Qi (ne e λ_ z=>nomatch z)];exact e) (λb ps e=>⟨#[],by rw[Qi (ne e λ_ z=>nomatch z),e];simp⟩) (λm hm=>hm) (λb u e=>? _) I.bare;·exact I2
  ·by_cases hb:b=p
   ·subst hb;rw[Jz]at e;cases e;exact⟨ho,z1,z2,vs,rel,o,es,ep,ho,J7⟩
   ·rw[Qi hb]at e;exact(I.hok b u e).stay (λc v _ q=>q) (λc q=>by rw[Qi (ne q λ_ z=>nomatch z)];exact q) λc xs q=>by rw[Qi (ne q λ_ z=>nomatch z)];exact q
def HC{X:Cx}{aa:List (Addr×Obj)}{F0:Fz}{F H:Hp}{σ:L2.St}{en:QG}{s:Shared}(i:Nat)(I:Inv X aa σ H s)(r:RS X.K X.H₀ F0 F H σ en O):∃F' H',Inv X aa σ H' s/\Sm F F'/\RS X.K X.H₀ F0 F' H' σ en (dl i O):=by
 obtain⟨F',H',sf,r',h⟩:=r.rel (λp=>(s.heap.get? p).getD default) i;refine⟨F',H',?_,sf,r'⟩;rcases h with h|⟨p,kk,xs,hp,h⟩;·rw[h];exact I
 ·rw[h];exact D6 I hp
def Vo(i:Nat){b:QH}{e9:List Stmt}(h:PSs X e9 (tS X (dl i O) O' OL w b)):PSs X e9 (tS X O O' OL w b):=by rintro aa s σ H D I⟨F0,F,en,fl,rs,z,k⟩;obtain⟨F',H',I',sf,bF⟩:=HC i I rs;exact h aa s σ H' D I' ⟨F0,F',en,fl,bF,z,k.mono sf⟩
def QcO(i:Nat)(O1:List Nat){b:QH}{e9:List Stmt}(h:PSs X e9 (tS X O O1 OL w b))(e:O'=dl i O1:=by rfl):PSs X e9 (tS X O O' OL w b):=by
 subst e;rintro aa s σ H D I⟨F0,F,en,fl,rs,z,k⟩;refine QW (h aa s σ H {D with nx:=λσ' H'=>∃F' e',fl=.nx e'/\Sm F F'/\RS X.K X.H₀ F0 F' H' σ' e' O1} I ⟨F0,F,en,fl,rs,z,?_⟩) λf s' sp=>?_;·cases fl with
  |nx e=>exact λσ' F' H' s r=>⟨F',e,rfl,s,r⟩|bk e=>exact k|ct e=>exact k|rt d=>exact k
 ·cases f with
  |next=>obtain⟨σ',H',I',F',e',rfl,s1,r⟩:=sp;obtain⟨F2,H2,I2,s2,r2⟩:=HC i I' r;exact⟨σ',H2,I2,k σ' F2 H2 (s1.trans s2) r2⟩|_=>exact sp
end
section
variable{X:Cx}{O O1 O2 O' OL:List Nat}{w:Bool}{st:Stmt}{J7:List Stmt}{e:Expr}{pos:Pos}
def tG(X:Cx)(O O':List Nat)(g:Jy):TG:=λv σ H Q=>∃F0 F en d e',RS X.K X.H₀ F0 F H σ en O/\Rep X.K F v d/\g d en=some e'/\∀σ' H' F',Gr F H F' H'->RS X.K X.H₀ F0 F' H' σ' e' O'->Q σ' H'
def MV(X:Cx)(O O':List Nat)(gs:List Jy):Xz:=λvs σ H Q=>∃F0 F en ds e',RS X.K X.H₀ F0 F H σ en O/\Reps X.K F vs ds/\Z9 gs ds en=some e'/\∀σ' H' F',Gr F H F' H'->RS X.K X.H₀ F0 F' H' σ' e' O'->Q σ' H'
def PG.imp{t t':TG}(h:PG X e t)(q:∀v σ H Q,t' v σ H Q->t v σ H Q):PG X e t':=λaa s σ H v u Q I r z=>h aa s σ H v u Q I r (q v σ H Q z)
def PGs.imp{es:List Expr}{t t':Xz}(h:PGs X es t)(q:∀v σ H Q,t' v σ H Q->t v σ H Q):PGs X es t':=λaa s σ H v u Q I r z=>h aa s σ H v u Q I r (q v σ H Q z)
def Qq(i:Nat){x:Str}(hN:X.N.Nodup)(hi:X.N[i]?=some x:=by rfl)(hx:XU X.env.scope x:=by first|exact Or.inl rfl|exact Or.inr rfl)(hf:X.fn x=true\/X.env.scope.names.lookup x=some .local:=by first|exact .inl rfl|exact .inr rfl)(hq:Qd i∉O:=by decide):PG X (.Name x pos) (tG X O (dl i O) (gS i)):=PG.imp (Qg0 hN hi hx hf) λv σ H Q⟨F0,F,en,d,e',rs,r,z,k⟩=>by cases z;exact k _ H F (.refl rs.fh) (rs.put' i r hq)
def W5:PGs X [] (MV X O O []):=PGs.imp Qg4 λvs σ H Q⟨F0,F,en,ds,e',rs,r,z,k⟩=>by cases r with|nil=>cases z;exact⟨rfl,k σ H F (.refl rs.fh) rs⟩|cons h r=>simp[Z9]at z
def Z3{es:List Expr}{g:Jy}{gs:List Jy}(h1:PG X e (tG X O O1 g))(h2:PGs X es (MV X O1 O' gs))(hs:(assignEach (e::es) X.env).map (·.2)=assign e X.env::(assignEach es X.env).map (·.2):=by rfl):PGs X (e::es) (MV X O O' (g::gs)):=PGs.imp (Qg3 h1 h2 hs) λvs σ H Q⟨F0,F,en,ds,e',rs,r,z,k⟩=>by cases r with|nil=>simp[Z9]at z|@cons x d xs ds h r=>have z':((g d en).bind λe'=>Z9 gs ds e')=some e':=z;obtain⟨e1,q1,q2⟩:=JB z';refine⟨x,xs,rfl,F0,F,en,d,e1,rs,h,q1,λσ' H' F' s bF=>?_⟩;exact⟨F0,F',e1,ds,e',bF,r.mono s.ff,q2,λσ2 H2 F2 s2 cP=>k σ2 H2 F2 (s.trans s2) cP⟩
def W4{es:List Expr}{k0:Nat}{gs:List Jy}(hc:X.calm=true)(h:PGs X es (MV X O O' gs))(hl:gs.length=es.length)(hn:(assignEach es X.env).length=es.length:=by rfl)(cH:(assignEach es X.env).findIdx? (·.1)=none:=by rfl):PG X (.Tuple es k0 pos) (tG X O O' (JQ gs)):=PG.imp (Qg2 hc h hn cH) λv σ H Q⟨F0,F,en,d,e',rs,r,z,k⟩=>by cases r with
  |@tup a xs ds h r=>
   have z':Z9 gs ds en=some e':=z;have len:∀(gs:List Jy)(ds:List D)(en e':QG),Z9 gs ds en=some e'->ds.length=gs.length:=by intro gs;induction gs with
    |nil=>intro ds en e' h;cases ds with|nil=>rfl|cons _ _=>simp[Z9]at h
    |cons g gs ih=>intro ds en e' h;cases ds with
     |nil=>simp[Z9]at h|cons d ds=>
      have h':((g d en).bind λe'=>Z9 gs ds e')=some e':=h;obtain⟨e1,_,q2⟩:=JB h';rw[JV,JV,ih ds e1 e' q2]
   exact⟨a,xs,rfl,SqT.of (rs.fh _ _ h),by rw[r.length,len gs ds en e' z',hl],F0,F,en,ds,e',rs,r,z',k⟩|_=>cases z
def QaA{ev:Q7}{g:Jy}{Dn:Ends}{σ:L2.St}{H:Hp}(h:tS X O O' OL w (Q6 ev g) Dn σ H):R5 (tD X O ev) (tG X O O' g) Dn σ H:=by obtain⟨F0,F,en,fl,rs,z,k⟩:=h;obtain⟨d,e1,e2⟩:=JB z;obtain⟨e',e3,rfl⟩:=Z5 e2;refine⟨F0,F,en,d,rs,e1,λv F1 H1 g1 r1=>?_⟩;exact⟨F0,F1,en,d,e',rs.grow g1,r1,e3,λσ' H' F' s bF=>k σ' F' H' (g1.ff.trans s.ff) bF⟩
def Oe{tg:Expr}{ev:Q7}{g:Jy}(he:PE X e (tD X O ev))(hg:PG X tg (tG X O O' g))(hs:swapsWithSole [tg] e pos.line X.env=pure false:=by rfl)(hw:swappedStores [tg] e X.env=pure none:=by rfl)(h1:(assignEach [tg] X.env).map (·.2)=[assign tg X.env]:=by rfl):PS X (.Assign [tg] e pos) (tS X O O' OL w (Q6 ev g)):=PS.imp (Ca he hg hs hw h1) λDn σ H h=>QaA h
def QT(i:Nat){x:Str}{p:Pos}{ev:Q7}(hN:X.N.Nodup)(he:PE X e (tD X O ev))(hi:X.N[i]?=some x:=by rfl)(hx:XU X.env.scope x:=by first|exact Or.inl rfl|exact Or.inr rfl)(hs:swapsWith e (some (.Name x p)) pos.line X.env=pure false:=by rfl)(hf:X.fn x=true\/X.env.scope.names.lookup x=some .local:=by first|exact .inl rfl|exact .inr rfl)(hq:Qd i∉O:=by decide):PS X (.Assign [.Name x p] e pos) (tS X O (dl i O) OL w (Q6 ev (gS i))):=PS.imp (MF hN hi hx he hs hf) λDn σ H⟨F0,F,en,fl,rs,z,k⟩=>by obtain⟨d,e1,e2⟩:=JB z;obtain⟨e',e3,rfl⟩:=Z5 e2;cases e3;exact⟨F0,F,en,d,rs,e1,λv F1 H1 g1 r1=>k _ F1 H1 g1.ff ((rs.grow g1).put' i r1 hq)⟩
def Vn(i:Nat){x:Str}{p:Pos}{ev:Q7}(hN:X.N.Nodup)(he:PE X e (tO X O ev))(hi:X.N[i]?=some x:=by rfl)(hx:XU X.env.scope x:=by first|exact Or.inl rfl|exact Or.inr rfl)(hs:swapsWith e (some (.Name x p)) pos.line X.env=pure false:=by rfl)(hf:X.fn x=true\/X.env.scope.names.lookup x=some .local:=by first|exact .inl rfl|exact .inr rfl)(hq:Qd i∉O:=by decide)(ip:i<1000:=by decide):PS X (.Assign [.Name x p] e pos) (tS X O (ad i O) OL w (Q6 ev (gS i))):=PS.imp (MF hN hi hx he hs hf) λDn σ H⟨F0,F,en,fl,rs,z,k⟩=>by obtain⟨d,e1,e2⟩:=JB z;obtain⟨e',e3,rfl⟩:=Z5 e2;cases e3;refine⟨F0,F,en,d,rs,e1,λp kk xs ds F1 H1 g1 n1 n2 h r e4 hk=>?_⟩;subst e4;refine k _ F1 H1 g1.ff ((rs.grow g1).putO' i (rs.hh.none n1) n2 h hk r (λj d' hj q2 _ q=>?_) hq (λj z=>by unfold Qd at z;omega));obtain⟨p',_,ys,es,h1,_,_,h4,_⟩:=rs.own j d' q2 hj;rw[h1]at q;cases q;rw[n1]at h4;cases h4
end
section
variable{X:Cx}{O O1 O2 O' OL:List Nat}{w:Bool}{st:Stmt}{J7:List Stmt}{e a:Expr}{pos:Pos}
def ID:OF X .Add (λx y H Q=>(YS λi j=>.int (i+j)) x y H Q\/∃i j,x=.str i/\y=.str j/\i.length+j.length<=sizeLine/\Q (.str (i++j)) H)/\Z7 X (λx y H Q=>(YS λi j=>.int (i+j)) x y H Q\/∃i j,x=.str i/\y=.str j/\i.length+j.length<=sizeLine/\Q (.str (i++j)) H) D.addI:=by
 refine⟨OpR.or QdI QdJ,λF H x y dx dy d Q s rx ry e k=>?_⟩;cases dx<;>cases dy<;>try(simp[D.addI]at e;done)
 case int.int i j=>
  cases e;exact .inl ⟨i,j,rx.int,ry.int,k _ F H (.refl s) (.int _)⟩
 case str.str i j=>
  simp only[D.addI]at e;split at e
  ·rename_i hz;cases e;exact .inr ⟨i,j,rx.str,ry.str,by rw[Vj];exact hz,k _ F H (.refl s) (.str _)⟩
  ·cases e
def QdL:OF X .Sub (YS λi j=>.int (i-j))/\Z7 X (YS λi j=>.int (i-j)) D.sub:=⟨QdK,ND (fd:=λi j=>.int (i-j)) (λdx dy d e=>by cases dx<;>cases dy<;>simp[D.sub]at e⊢) (λi j d e=>by cases e;rfl) λ_ _ _ _=>.int _⟩
def Of(i:Nat){x:Str}{p:Pos}{op:Operator}{r:R2}{g:D->D->Option D}{ev:Q7}(hN:X.N.Nodup)(hO:i∉O)(he:PE X e (tR X O ev))(ho:OF X op r/\Z7 X r g)(hi:X.N[i]?=some x:=by rfl)(hx:XU X.env.scope x:=by first|exact Or.inl rfl|exact Or.inr rfl)(hf:X.fn x=true\/X.env.scope.names.lookup x=some .local:=by first|exact .inl rfl|exact .inr rfl)(hq:Qd i∉O:=by decide):PS X (.AugAssign (.Name x p) op e pos) (tS X O (dl i O) OL w (ZV i g ev)):=PS.imp (Qhi hN hi hx he ho.1 hf) λDn σ H⟨F0,F,en,fl,rs,z,k⟩=>by obtain⟨dx,dy,e1,e2,e3⟩:=U2 z;obtain⟨dz,e4,rfl⟩:=Z5 e3;obtain⟨v,h1,h2⟩:=rs.slot i dx (Vf e1) hO;refine⟨v,h1,F0,F,en,dy,rs,e2,λy F1 H1 g1 r1=>?_⟩;exact ho.2 F1 H1 v y dx dy dz _ g1.fh (.inl (h2.mono g1.ff)) r1 e4 λu F2 H2 g2 r2=>k _ F2 H2 (g1.ff.trans g2.ff) ((rs.grow (g1.trans g2)).put' i r2 hq)
def Vm(i:Nat)(hi:i∈O){x:Str}{p apos aI:Pos}{ev:Q7}(he:PE X e (tD X O ev))(hN:X.N[i]?=some x:=by rfl)(hv:WK X.env.scope x:=by first|exact Or.inl rfl|exact Or.inr (Or.inl rfl)|exact Or.inr (Or.inr rfl))(hd:(x==("__debug__":Str))=false:=by decide)(b5:(x==("__classdict__":Str))=false:=by decide)(bM:attributeBase (.Name x p) "append" X.env (eval (.Name x p) X.env)=eval (.Name x p) X.env:=by rfl)(bL:(apos.endLine==aI.line)=true:=by rfl)(hs:starEach [e] X.env=[(false,eval e X.env)]:=by rfl)(cX:((backTo aI (starEach [e] X.env)).all (λx=>!x.1)&&(backToKw aI (keywordEach [] X.env)).all (λx=>x.1.isSome)&&decide ([e].length+([]:List Keyword).length+(if([]:List Keyword).isEmpty then 0 else 1)<30))=true:=by rfl)(dX:swapsWith (.Call (.Attribute (.Name x p) "append" apos) [e] [] aI) none pos.line X.env=pure false:=by rfl):PS X (.Expr (.Call (.Attribute (.Name x p) "append" apos) [e] [] aI) pos) (tS X O O OL w (sP i ev)):=PS.imp (WQ (Sj PySem.F.plainAttrs_list PySem.F.slot_list_append PySem.F.type_list_append IJ (Zt hN hv hd b5) (ZJ he Vw hs) bM cX bL hs rfl) dX) λDn σ H⟨F0,F,en,fl,rs,z,k⟩=>by obtain⟨dx,dy,e1,e2,e3⟩:=U2 z;obtain⟨dz,e4,rfl⟩:=Z5 e3;obtain⟨q,kk,xs,ds,h1,h2,h3,h4,h5,h6,h7⟩:=rs.own i dx (Vf e1) hi;subst h6;cases kk with|some ks=>cases e4|none=>
  simp only[ho,Zm]at h4 e4 e1;refine⟨_,h1,.inl ⟨rfl,xs,SqL.of h4⟩,F0,F,en,dy,rs,e2,λy F1 H1 g1 r1=>?_⟩;simp only[D.app]at e4;split at e4;·rename_i hz;cases e4;have bT:=rs.grow g1;obtain⟨q',cG,bW,cy,k1,k2,k3,k4,k5,k6,k7⟩:=bT.own i _ (Vf e1) hi;rw[h1]at k1;cases k1;cases cG with|some ks=>cases k6|none=>
   cases k6;simp only[ho]at k4;have hx:bW=xs:=by
    have:=g1.hh _ _ h4;rw[k4]at this;cases this;rfl
   subst hx;refine⟨q,bW,y,rfl,rfl,k4,?_,?_⟩;·rw[Vj,k5.length];exact hz
   ·exact k _ F1 _ g1.ff (bT.write (kk:=none) hi (Vf e1) h1 k2 k3 trivial (k5.append (.cons r1 .nil)))
  ·cases e4
def QcI(i:Nat)(hi:i∈O){x:Str}{p apos aI:Pos}{ev:Q7}(he:PE X e (tR X O ev))(hN:X.N[i]?=some x:=by rfl)(hv:WK X.env.scope x:=by first|exact Or.inl rfl|exact Or.inr (Or.inl rfl)|exact Or.inr (Or.inr rfl))(hd:(x==("__debug__":Str))=false:=by decide)(b5:(x==("__classdict__":Str))=false:=by decide)(bM:attributeBase (.Name x p) "extend" X.env (eval (.Name x p) X.env)=eval (.Name x p) X.env:=by rfl)(bL:(apos.endLine==aI.line)=true:=by rfl)(hs:starEach [e] X.env=[(false,eval e X.env)]:=by rfl)(cX:((backTo aI (starEach [e] X.env)).all (λx=>!x.1)&&(backToKw aI (keywordEach [] X.env)).all (λx=>x.1.isSome)&&decide ([e].length+([]:List Keyword).length+(if([]:List Keyword).isEmpty then 0 else 1)<30))=true:=by rfl)(dX:swapsWith (.Call (.Attribute (.Name x p) "extend" apos) [e] [] aI) none pos.line X.env=pure false:=by rfl):PS X (.Expr (.Call (.Attribute (.Name x p) "extend" apos) [e] [] aI) pos) (tS X O O OL w (HE i ev)):=PS.imp (WQ (Sj PySem.F.plainAttrs_list PySem.F.slot_list_extend PySem.F.type_list_extend IK (Zt hN hv hd b5) (Pt he hs) bM cX bL hs rfl) dX) λDn σ H⟨F0,F,en,fl,rs,z,k⟩=>by
  obtain⟨dx,dy,e1,e2,e3⟩:=U2 z;obtain⟨dz,e4,rfl⟩:=Z5 e3;obtain⟨q,kk,xs,ds,h1,h2,h3,h4,h5,h6,h7⟩:=rs.own i dx (Vf e1) hi;subst h6;cases kk with
  |some ks=>cases e4|none=>
  simp only[ho,Zm]at h4 e4 e1;refine⟨_,h1,.inl ⟨rfl,xs,SqL.of h4⟩,F0,F,en,dy,rs,e2,λy F1 H1 g1 r1=>?_⟩;cases dy with
  |lst es=>
   simp only[D.ext]at e4;split at e4;·rename_i hz;cases e4;obtain⟨q2,ys,rfl,m1,m2⟩:=r1.lst g1.fh;have bT:=rs.grow g1;obtain⟨q',cG,bW,cy,k1,k2,k3,k4,k5,k6,k7⟩:=bT.own i _ (Vf e1) hi;rw[h1]at k1;cases k1;cases cG with|some ks=>cases k6|none=>
    cases k6;simp only[ho]at k4;have hx:bW=xs:=by
     have:=g1.hh _ _ h4;rw[k4]at this;cases this;rfl
    subst hx;refine⟨q,q2,bW,ys,rfl,rfl,k4,m1,?_,?_⟩;·rw[Vj,k5.length,m2.length];exact hz
    ·exact k _ F1 _ g1.ff (bT.write (kk:=none) hi (Vf e1) h1 k2 k3 trivial (k5.append m2))
   ·cases e4|_=>cases e4
end
noncomputable def Qw(K:Fg)(f:List D->Option D):Sp:=λvs H Q _=>∃F ds d,Sm F H/\Reps K F vs ds/\f ds=some d/\∀v F' H',Gr F H F' H'->Rep K F' v d->Q v H'
def Qg(P:Program)(w:World)(K:Fg)(mg:Str->Option Value)(ab:Heap)(k:Nat)(x:Str)(ps:List Str)(sp:Sp):Prop:=∃f fd,FnOk P w K mg ab V8 k f fd ps sp/\Binds K fd ps []/\W.keepIn K (.ref f)=true/\mg x=some (.ref f)
def Df(K:Fg)(mg:Str->Option Value)(x:Str)(st:Stmt)(ps:List Str):Prop:=∃f fd,Fun K x x st f fd/\Binds K fd ps []/\mg x=some (.ref f)
section
variable{X:Cx}{O:List Nat}{e:Expr}{es:List Expr}{p pos:Pos}{x:Str}{ps:List Str}{k:Nat}
def Qct{f:List D->Option D}{l:ZC}(c:Qg X.prog X.w X.K X.mg X.ab k x ps (Qw X.K f))(hr:Room k X.A)(hg:Gl X x)(ha:PA X (e::es) (tL X O l))(cj:(x==("__debug__":Str))=false:=by decide)(he:starEach (e::es) X.env=(false,eval e X.env)::starEach es X.env:=by rfl)(cD:(backTo pos (starEach es X.env)).any (·.1)=false:=by rfl):PE X (.Call (.Name x p) (e::es) [] pos) (tD X O (eK f l)):=by obtain⟨fa,fd,F,hb,hk,hm⟩:=c;refine PE.imp (Ih F hr hg hm hk hb (.nil:Vals [] []) Ig ha cj he cD) λσ H Q⟨F0,F,en,d,rs,z,k⟩=>?_;obtain⟨ds,e1,e2⟩:=JB z;refine⟨F0,F,en,ds,rs,e1,λvs F1 H1 g1 r1=>⟨F1,ds,d,g1.fh,?_,e2,λv F' H' g r=>k v F' H' (g1.trans g) r⟩⟩;rw[Yx];exact r1
def Ve{ev:Q7}(h:PE X e (tO X O ev)):PE X e (tD X O ev):=by
 rintro aa s σ H Q I⟨F0,F,en,d,rs,z,k⟩;refine QW (h aa s σ H (λx H'=>∃p kk xs ds F',x=.ref p/\Gr F H F' H'/\H p=none/\F' p=none/\H' p=some (ho kk xs)/\Reps X.K F' xs ds/\d=Zm kk ds/\WH kk xs) I ⟨F0,F,en,d,rs,z,λp kk xs ds F' H' g n1 n2 hp r e3 hk=>⟨p,kk,xs,ds,F',rfl,g,n1,n2,hp,r,e3,hk⟩⟩) λv s1⟨x,H1,I1,r1,p,kk,xs,ds,F',hx,g,n1,n2,hp,r,e3,hk⟩=>?_;subst hx e3;have s2:Sm F' (upd F' p (hz ((s1.heap.get? p).getD default) kk xs)):=(Sm.refl F').upd _ n2;refine⟨.ref p,_,D6 I1 hp,r1,k _ (upd F' p (hz ((s1.heap.get? p).getD default) kk xs)) _ ⟨g.ff.trans s2,λa o q=>?_,λa o q=>?_,λa o q=>?_⟩ (Rep.hz Jz hk (r.mono s2))⟩;·rw[Qi (λw:a=p=>by rw[w,n1]at q;cases q)];exact g.hh a o q
 ·by_cases w:a=p;·subst w;rw[Jz]at q⊢;exact q
  ·rw[Qi w]at q⊢;exact g.fh a o q
 ·by_cases w:a=p;·subst w;exact .inr n1
  ·rw[Qi w]at q;exact g.fr a o q
end
section
variable{P:Program}{w:World}{K:Fg}{mg:Str->Option Value}{ab:Heap}{x:Str}{st:Stmt}{N ps:List Str}{k:Nat}{b:QH}
def B0{F H:Hp}{vs:List V}{ds:List D}(n:Nat)(s:Sm F H)(r:Reps K F vs ds):RS K H ⟨F,H,none⟩ F H (vs.map some++List.replicate (n-vs.length) none) (sD n ds) []where
 fh:=s
 hh:=.refl H
 ff:=.refl F
 fr:=λ_ _ h=>.inl h
 slot:=λi d h _=>by
  unfold sD at h;rcases VU i ds.length with hi|hi
  ·rw[YO (by rw[Qo];exact hi),Yz,Qf hi]at h;have hd:ds[i]?=some d:=by rw[Qf hi];simpa using h
   obtain⟨v,h1,h2⟩:=r.get hd;refine⟨v,?_,h2⟩;rw[YO (by rw[Qo,r.length];exact hi),Yz,h1];rfl
  ·rw[Vx (by rw[Qo];exact hi),Sq]at h;split at h<;>cases h
 own:=λi d _ h=>by cases h
 dis:=λi j p _ _ h=>by cases h
 pin:=λi h=>by cases h
 len:=by unfold sD;simp[r.length]
def okC(h:Df K mg x st ps)(S:FnScope N ps (Qr st)){O' OL:List Nat}(hb:∀(f:Addr)(aA:Value)(A:Around)(ag:List Env)(s:Shared)(H:Hp)(E:XK),Room k (A.deeper (envOfC x (Qr st) s.heap.objs.size f aA))->PSs (Vb V8 P w K mg ab N x (Qr st) f aA A ag s H E).nox (VN st) (tS (Vb V8 P w K mg ab N x (Qr st) f aA A ag s H E).nox [] O' OL false b)):Qg P w K mg ab (k+1) x ps (Qw K (QV N.length ps.length b)):=by
 obtain⟨f,fd,F,d4,hm⟩:=h;refine⟨f,fd,F.ok S (λvs H Q E⟨F,ds,d,s,r,e,_⟩=>?_) (λaA A ag s H vs Q E hr⟨Fz,ds,d,sm,r,e,k⟩=>?_),d4,F.kp,hm⟩
 ·unfold QV at e;split at e;·rename_i z;rw[r.length];exact z
  ·cases e
 ·refine⟨_,hb f aA A ag s H E hr,?_⟩;unfold QV at e;split at e;·rename_i z;have e':Uj (b (sD N.length ds))=some d:=e;cases q:b (sD N.length ds)with
   |none=>rw[q]at e';cases e'|some fl=>
    rw[q]at e';have cH:Wl N vs=vs.map some++List.replicate (N.length-vs.length) none:=rfl;rw[cH];refine⟨⟨Fz,H,none⟩,Fz,sD N.length ds,fl,B0 N.length sm r,q,?_⟩;cases fl with
    |nx en=>cases e';exact λσ' F' H' s' rs=>k .non F' H' rs.ex.gr .non|rt d'=>cases e';exact λv F' H' x r=>k v F' H' x.gr r|bk en=>cases e'|ct en=>cases e'
  ·cases e
end
structure ItOk(K:Fg)(F:Hp)(J:It)(ds:List D):Prop where
 go:∀i F' H',Sm F F'->Sm F' H'->i<ds.length->J.go i H'
 yld:∀i F' H' x H2,Sm F F'->Sm F' H'->i<ds.length->J.yld i H' x H2->∃F2 d,Gr F' H' F2 H2/\ds[i]?=some d/\Rep K F2 x d
 stop:∀i F' H',Sm F F'->Sm F' H'->ds.length<=i->J.stop i H'
noncomputable def tI(X:Cx)(O:List Nat)(it:ZY):TI:=λσ H R=>∃F0 F e ds,RS X.K X.H₀ F0 F H σ e O/\it e=some ds/\∀F' H' J,Gr F H F' H'->ItOk X.K F' J ds->R J H'
section
variable{X:Cx}{O OL:List Nat}{w:Bool}{tg iter:Expr}{body:List Stmt}{pos:Pos}
def PI.imp{t t':TI}(h:PI X tg iter t)(q:∀σ H R,t' σ H R->t σ H R):PI X tg iter t':=λaa s σ H R I z=>h aa s σ H R I (q σ H R z)
def Aa{o:Option Fl}{k:QH}{fl:Fl}(h:WD o k=some fl):∃f,o=some f/\WD (some f) k=some fl:=by cases o with|none=>cases h|some f=>exact⟨f,rfl,h⟩
def Zx{it:ZY}{g:Jy}{b:QH}(hc:X.calm=true)(hp:PassesOwn (model X.prog X.w) X.A X.env X.xe)(hi:PI X tg iter (tI X O it))(hg:PG X tg (tG X O O g))(hb:PSs X body (tS X O O O w b))(hs:∀x,foldedSetIterable iter X.env x=pure x:=by intro _;rfl):PS X (.For tg iter body [] pos) (tS X O O OL w (Jb it g b)):=PS.imp (Cb hp hc hi hg hb hs) λDn σ H⟨F0,F,en,fl,rs,z,k⟩=>by
  obtain⟨ds,e1,e2⟩:=JB z;refine⟨F0,F,en,ds,rs,e1,λF1 H1 J g1 io=>?_⟩;refine⟨λi m σ' H'=>m=ds.length-i/\i<=ds.length/\∃F' bj,Sm F1 F'/\RS X.K X.H₀ F0 F' H' σ' bj O/\Vt g b (ds.drop i) bj=some fl,⟨ds.length,by omega,by omega,F1,en,.refl F1,rs.grow g1,by rw[drop_zero];exact e2⟩,?_⟩;rintro i m σ' H'⟨rfl,hle,F',bj,s',bF,e3⟩;rcases VU i ds.length with hi|hi
  ·refine .inr ⟨io.go i F' H' s' bF.fh hi,λσ2 H2=>∃m',m'<ds.length-i/\m'=ds.length-(i+1)/\i+1<=ds.length/\∃F' bj,Sm F1 F'/\RS X.K X.H₀ F0 F' H2 σ2 bj O/\Vt g b (ds.drop (i+1)) bj=some fl,λσ2 H2⟨m',h1,h2⟩=>⟨m',h1,h2⟩,λx H2 hy=>?_⟩;obtain⟨F2,d,g2,hd,r2⟩:=io.yld i F' H' x H2 s' bF.fh hi hy;have fD:ds.drop i=d::ds.drop (i+1):=by
    rw[O0 hi];rw[Qf hi]at hd;cases hd;rfl
   rw[fD]at e3;obtain⟨f,e4,e5⟩:=Aa (show WD ((g d bj).bind b) (Vt g b (ds.drop (i+1)))=some fl from e3);obtain⟨fJ,e6,e7⟩:=JB (show((g d bj).bind λx=>b x)=some f from e4);refine⟨F0,F2,bj,d,fJ,bF.grow g2,r2,e6,λσ3 H3 F3 s3 cA=>?_⟩;refine⟨F0,F3,fJ,f,cA,e7,?_⟩;have sA:Sm F1 F3:=(s'.trans g2.ff).trans s3.ff;cases f with
   |nx e=>exact λσ4 F4 H4 s4 cn=>⟨_,by omega,rfl,hi,F4,e,sA.trans s4,cn,e5⟩|ct e=>exact λσ4 F4 H4 s4 cn=>⟨_,by omega,rfl,hi,F4,e,sA.trans s4,cn,e5⟩|bk e=>cases e5;exact λσ4 F4 H4 s4 cn=>k σ4 F4 H4 (g1.ff.trans (sA.trans s4)) cn|rt d=>cases e5;exact k
  ·have hz:ds.drop i=[]:=O3 hi;rw[hz]at e3;cases e3;exact .inl ⟨io.stop i F' H' s' bF.fh hi,k σ' F' H' (g1.ff.trans s') bF⟩
def HD(lo:Int)(n:Nat):(rD lo n).length=n:=by unfold rD;simp
def Za{ev:Q7}(h:PE X iter (tD X O ev)):PI X tg iter (tI X O (J1 ev)):=PI.imp (CT h) λσ H R⟨F0,F,en,ds,rs,z,k⟩=>by obtain⟨d,e1,e2⟩:=JB z;refine⟨F0,F,en,d,rs,e1,λv F1 H1 g1 r1=>?_⟩;have fin:∀(a:Addr)(xs:List V),SqL X.K F1 a xs->Reps X.K F1 xs ds->R (OC X.K a) H1:=λa xs ha r=>k F1 H1 _ g1 ⟨λi F' H' s s' hi=>by obtain⟨v,h1,_⟩:=r.get (Qf hi);exact⟨xs,v,s'.sqL (s.sqL ha),h1⟩,λi F' H' x H2 s s' hi⟨hH,hx⟩=>by subst hH;have cC:=hx xs (s'.sqL (s.sqL ha));obtain⟨d,h1,h2⟩:=r.getV cC;exact⟨F',d,.refl s',h1,h2.mono s⟩,λi F' H' s s' hi=>⟨xs,s'.sqL (s.sqL ha),by rw[r.length];exact hi⟩⟩;cases r1 with|@lst a xs cy ha r=>cases e2;exact⟨a,rfl,⟨xs,SqL.of (g1.fh _ _ ha)⟩,fin a xs (SqL.of ha) r⟩|@scr a ns ha=>cases e2;exact⟨a,rfl,⟨_,g1.fh.sqL ha⟩,fin a _ ha (Reps.ints ns)⟩|_=>cases e2
def UB{a:Expr}{p:Pos}{ev:Q7}(hg:Gl X "range")(hm:X.mg "range"=none)(ha:PE X a (tR X O ev))(hs:starEach [a] X.env=[(false,eval a X.env)]:=by rfl):PI X tg (.Call (.Name "range" p) [a] [] pos) (tI X O (VE ev)):=PI.imp (Qg6 hg hm (Pt ha hs) hs) λσ H R⟨F0,F,en,ds,rs,z,k⟩=>by obtain⟨d,e1,e2⟩:=JB z;cases d with
  |int n=>
   simp only[D.rng]at e2;split at e2
   ·rename_i hz;cases e2;refine⟨F0,F,en,.int n,rs,e1,λv F1 H1 g1 r1=>⟨n,by rw[r1.int],by omega,by omega,k F1 H1 _ g1 ⟨λi F' H' s s' hi=>?_,λi F' H' x H2 s s' hi⟨hH,hx⟩=>?_,λi F' H' s s' hi=>?_⟩⟩⟩;·rw[HD]at hi;exact hi
    ·subst hH hx;have hi':i<n.toNat:=by rw[HD]at hi;exact hi
     exact⟨F',.int (0+(i:Int)),.refl s',by simp[rD,hi'],.int _⟩
    ·rw[HD]at hi;exact hi
   ·cases e2|_=>cases e2
end
section
variable{P:Program}{w:World}{K:Fg}{mg:Str->Option Value}{ab:Heap}{x:Str}{st:Stmt}{N ps:List Str}{k:Nat}{b:QH}
def okF{f:Addr}{fd:FuncData}(F:Fun K x x st f fd)(S:FnScope N ps (Qr st)){O' OL:List Nat}(hb:∀(aA:Value)(A:Around)(ag:List Env)(s:Shared)(H:Hp)(E:XK),Room k (A.deeper (envOfC x (Qr st) s.heap.objs.size f aA))->PSs (Vb V8 P w K mg ab N x (Qr st) f aA A ag s H E).nox (VN st) (tS (Vb V8 P w K mg ab N x (Qr st) f aA A ag s H E).nox [] O' OL false b)):FnOk P w K mg ab V8 (k+1) f fd ps (Qw K (QV N.length ps.length b)):=by
 refine F.ok S (λvs H Q E⟨F,ds,d,s,r,e,_⟩=>?_) (λaA A ag s H vs Q E hr⟨Fz,ds,d,sm,r,e,k⟩=>?_)
 ·unfold QV at e;split at e;·rename_i z;rw[r.length];exact z
  ·cases e
 ·refine⟨_,hb aA A ag s H E hr,?_⟩;unfold QV at e;split at e
  ·rename_i z;have e':Uj (b (sD N.length ds))=some d:=e;cases q:b (sD N.length ds)with
   |none=>rw[q]at e';cases e'|some fl=>
    rw[q]at e';have cH:Wl N vs=vs.map some++List.replicate (N.length-vs.length) none:=rfl;rw[cH];refine⟨⟨Fz,H,none⟩,Fz,sD N.length ds,fl,B0 N.length sm r,q,?_⟩;cases fl with
    |nx en=>cases e';exact λσ' F' H' s' rs=>k .non F' H' rs.ex.gr .non|rt d'=>cases e';exact λv F' H' x r=>k v F' H' x.gr r|bk en=>cases e'|ct en=>cases e'
  ·cases e
section
variable{h:Heap}{f:Addr}{oc kV dc pm cd ct:Value}{od an:Option Addr}{cQ:Array (Option Value)}
def df_mk(X:K.In h)(G:h.Ns mainGlobals mg)(hb:∀(kV doc pm:Value)(an:Option Addr)(aA ct:Value)(us:List Value),us.length=ps.length->bindArgs (W.fnOf x x (Ws st) (VN st) (Qr st) .none kV doc pm an aA ct) ⟨us,[]⟩=pure (ps.zip us))(a:W.nsIn K mainGlobals x=some (some (.ref f)))(l:K.lookup f=some ⟨oc,od,.func (W.fnOf x x (Ws st) (VN st) (Qr st) .none kV dc pm an cd ct),cQ⟩)(c:W.codeIn K cd x=true)(k:W.keepIn K (.ref f)=true):Df K mg x st ps:=⟨f,_,Kw l c k,(Kw l c k).binds hb,W.mg_of X G a⟩
def gint_mk{v:Value}{i:Int}(X:K.In h)(G:h.Ns mainGlobals mg)(a:W.nsIn K mainGlobals x=some (some v))(e:∃t,v=.int i t):∃t,mg x=some (.int i t):=by obtain⟨t,rfl⟩:=e;exact⟨t,W.mg_of X G a⟩
def law_mk{fa:Addr}{y:Str}(X:K.In h)(G:h.Ns mainGlobals mg)(lD:mg x=some (.ref fa))(hb:∀(kV doc pm:Value)(an:Option Addr)(aA ct:Value)(u:Value),bindArgs (W.fnOf x x (Ws st) (VN st) (Qr st) .none kV doc pm an aA ct) ⟨[u],[]⟩=pure [(y,u)])(a:W.nsIn K mainGlobals x=some (some (.ref f)))(l:K.lookup f=some ⟨oc,od,.func (W.fnOf x x (Ws st) (VN st) (Qr st) .none kV dc pm an cd ct),cQ⟩)(c:W.codeIn K cd x=true)(k:W.keepIn K (.ref f)=true):∃fd,(∀(s:Shared)(u:Value),BindsTo s fd ⟨[u],[]⟩ [(y,u)])/\Fun K x x st fa fd:=by have e:=lD.symm.trans (W.mg_of X G a);cases e;exact⟨_,λs u=>.of_eq (hb _ _ _ _ _ _ u),Kw l c k⟩
end
end
def Qd5(K:Fg):L4 K "int":=λd hd=>by cases d<;>first|rfl|exact absurd rfl (hd _)
def Qd4(K:Fg):L4 K "bool":=λd hd=>by cases d<;>first|rfl|exact absurd rfl (hd _)
section
variable{X:Cx}{aa:List (Addr×Obj)}{σ:L2.St}{H:Hp}{s:Shared}{h':Heap}
def AY{t':Nat}{ch:List Addr}{p:Addr}{o:HO}(I:Inv X aa σ H s)(k:∀b u,b∉ch->s.heap.get? b=some u->h'.get? b=some u)(hf:∀b∈ch,WG X aa H b)(hp:s.heap.objs.size<=p)(new:ObjOk X.prog X.w (upd H p o) h' p o):Inv X aa σ (upd H p o) {s with heap:=h',toks:=t'}:=by
 have hn:H p=none:=I.hok.fresh hp;have du:∀b u,H b=some u->b∉ch:=λb u e z=>by rw[(hf b z).1]at e;cases e
 refine I.step (g':=s.gens) (d':=s.drawn) (ch:=ch) (λb hb=>?_) (λb o _ _ hc e _=>k b o hc e) (λb o _ _ hc e _=>⟨o.slots,k b o hc e⟩) (λb o _ e n=>?_) (λb o hc e=>⟨o,k b o hc e⟩) (λb xs e=>?_) (λb xs u e=>?_) (λb ps e=>⟨#[],?_⟩) (λm hm=>?_) (λb u e=>?_) I.bare
 ·obtain⟨f0,f1,f2,f3,f4,f5⟩:=hf b hb;exact⟨f3,f1,f4,f5⟩
 ·rw[Qi (Y9 (Vh (Heap.lt_size e) hp))];exact n
 ·rw[Qi (Wj e hn)];exact e
 ·rw[Qi (Wj e hn)];exact e
 ·rw[Qi (Wj e hn),e];simp
 ·obtain⟨o,es,ep,ho,r⟩:=hm;exact⟨o,es,ep,k _ o (λz=>(hf _ z).2.1 rfl) ho,r⟩
 ·by_cases hb:b=p;·subst hb;rw[Jz]at e;cases e;exact new
  ·rw[Qi hb]at e;refine(I.hok b u e).stay (λc v hc q=>k c v ?_ q) (λc q=>by rw[Qi (Wj q hn)];exact q) λc xs q=>by rw[Qi (Wj q hn)];exact q
   rcases hc with z|z;·rw[z];exact du b u e
   ·exact du c _ z
def AX{t':Nat}{ch:List Addr}(I:Inv X aa σ H s)(k:∀b u,b∉ch->s.heap.get? b=some u->h'.get? b=some u)(hf:∀b∈ch,WG X aa H b):Inv X aa σ H {s with heap:=h',toks:=t'}:=by
 have du:∀b u,H b=some u->b∉ch:=λb u e z=>by rw[(hf b z).1]at e;cases e
 refine I.step (g':=s.gens) (d':=s.drawn) (ch:=ch) (λb hb=>?_) (λb o _ _ hc e _=>k b o hc e) (λb o _ _ hc e _=>⟨o.slots,k b o hc e⟩) (λ_ _ _ _ n=>n) (λb o hc e=>⟨o,k b o hc e⟩) (λ_ _ e=>e) (λ_ _ _ e=>e) (λb ps e=>⟨#[],by rw[e];simp⟩) (λm hm=>?_) (λb u e=>?_) I.bare
 ·obtain⟨f0,f1,f2,f3,f4,f5⟩:=hf b hb;exact⟨f3,f1,f4,f5⟩
 ·obtain⟨o,es,ep,ho,r⟩:=hm;exact⟨o,es,ep,k _ o (λz=>(hf _ z).2.1 rfl) ho,r⟩
 ·refine(I.hok b u e).stay (λc v hc q=>k c v ?_ q) (λ_ q=>q) λ_ _ q=>q;rcases hc with z|z;·rw[z];exact du b u e
  ·exact du c _ z
end
def L1(K:Fg)(a:Addr):It:=⟨λi H=>∃xs x,SqL K H a xs/\xs[i]?=some x,λi H x H'=>∃p y,H p=none/\x=.ref p/\H'=upd H p (.tup [.int i,y])/\∀xs,SqL K H a xs->xs[i]?=some y,λi H=>∃xs,SqL K H a xs/\xs.length<=i⟩
def QiU{P:Program}{w:World}{K:Fg}{elts:List Expr}{x1:Nat}{pos:Pos}(a e it:Addr)(ic:e≠it):Turn P w K (.Tuple elts x1 pos) (L1 K a) [e,it] e (λi h=>∃old,IsEnum h e it i old/\h.IsListIter it a i)where
 mem:=by simp
 obj:=λi h st b hb=>by
  obtain⟨old,he,o,ho,c,d⟩:=st;rcases q_5.mp hb with z|z;·subst z;exact⟨_,he,λv z=>by have z':Data.fields _=Data.cell v:=z;cases z'⟩
  ·have z:=q_2.mp z;subst z;exact⟨o,ho,λv z=>by rw[d]at z;cases z⟩
 keep:=λi h h' st k=>by
  obtain⟨old,he,hi⟩:=st;exact⟨old,k e (by simp) _ he,hi.at λo q=>k it (by simp) o q⟩
 item:=by
  intro X hP hw hK hc i aa s σ H E I hf st hg;subst hP hw hK;obtain⟨old,he,hi⟩:=st;obtain⟨xs,x,hq,hx⟩:=hg;obtain⟨its,rv,p,hz⟩:=I.list hq;obtain⟨u,hu,ru⟩:=rv.get hx;refine wpAny_pyNext_enum_item he hi p.isList (x:=u) (by simpa using hu) ic λh' eo hi' ht hsz kk=>?_;refine⟨_,rfl,wpAny_letOwnedTupleGo_enum eo λh2 cI sb=>?_⟩;have k2:∀b o,b∉[e,it]->s.heap.get? b=some o->h2.get? b=some o:=λb o hb q=>by
   have h1:b≠e:=λz=>hb (by simp[z]);have h3:b≠it:=λz=>hb (by simp[z]);exact(sb.2 b h1).trans (kk b o h1 h3 q)
  have fe:H s.heap.objs.size=none:=I.hok.fresh (Qz _);have le:e<s.heap.objs.size:=Heap.lt_size he;have kK:h2.get? s.heap.objs.size=some {cls:=.type "tuple",data:=.seq #[.int i s.toks,u]}:=(sb.2 _ (ne_of_gt le)).trans ht;have li:it<s.heap.objs.size:=by obtain⟨o,ho,_⟩:=hi;exact Heap.lt_size ho
  have I2:Inv X aa σ (upd H s.heap.objs.size (.tup [.int i,x])) {s with heap:=h2,toks:=s.toks+1}:=AY (t':=s.toks+1) I k2 hf (Qz _) (show ObjOk X.prog X.w _ h2 _ (.tup [.int i,x])from⟨by show 2<=sizeLine;decide,[.int i s.toks,u],.cons ⟨_,rfl⟩ (.cons ru .nil),⟨_,kK,rfl,_,rfl⟩⟩);refine⟨.ref s.heap.objs.size,_,I2,rfl,⟨_,x,fe,rfl,rfl,λys hy=>by rw[I.list_inj hy hq];exact hx⟩,⟨u,cI,?_⟩,λb hb=>?_⟩;·exact hi'.at λo q=>(sb.2 it (Ne.symm ic)).trans q
  ·have:b≠s.heap.objs.size:=by
    rcases q_5.mp hb with z|z;·rw[z];exact Y9 le
    ·rw[q_2.mp z];exact Y9 li
   rw[Qi this];exact(hf b hb).1
 done:=by
  intro X hP hw hK hc i aa s σ H E I hf st hg;subst hP hw hK;obtain⟨old,he,hi⟩:=st;obtain⟨xs,hq,hx⟩:=hg;obtain⟨its,rv,p,hz⟩:=I.list hq;have hl:=rv.length;exact wpAny_pyNext_enum_end (I.ok.hd hc) he hi p.isList (by simp;omega) λh' eb=>⟨rfl,AX (t':=s.toks) I (λb o hb q=>eb b o (λz=>hb (by simp[z])) q) hf⟩
 self:=λ_ _ _ _ _ st h=>by obtain⟨old,he,_⟩:=st;exact wpAny_pyIter_enum he h
section
variable{X:Cx}{O:List Nat}{a:Expr}{p pos:Pos}
def Qdz(K:Fg)(ta:TA):TI:=λσ H R=>ta σ H λvs H1=>∃l,vs=[.ref l]/\(∃xs,SqL K H1 l xs)/\R (L1 K l) H1
def Qg5{elts:List Expr}{x1:Nat}{cp:Pos}{ta:TA}(hg:Gl X "enumerate")(hm:X.mg "enumerate"=none)(ha:PA X [a] ta)(hs:starEach [a] X.env=[(false,eval a X.env)]:=by rfl):PI X (.Tuple elts x1 cp) (.Call (.Name "enumerate" p) [a] [] pos) (Qdz X.K ta):=by
 intro aa s σ H R I h;refine Call_ (SX I hg hm boot_enumerate (PyProof.Rows.callWith_type1 (QW (ha pos aa s σ H _ I h) λus s1⟨vs,H1,I1,r1,q1⟩=>?_) hs rfl));obtain⟨l,e,⟨xs,hq⟩,q⟩:=q1;subst e;obtain⟨u,rfl,rx⟩:=Ub r1;cases rx;obtain⟨its,rv,pl,hz⟩:=I1.list hq;refine call_enumerate_list pl.isList λh' he hi hsz hk=>?_;have I2:Inv X aa σ H1 {s1 with heap:=h'}:=I1.kept (t':=s1.toks) hk;have fe:∀b,s1.heap.objs.size<=b->H1 b=none:=λb hb=>I1.hok.fresh hb;refine wpAny_pyIter_enum he ⟨_,[s1.heap.objs.size+1,s1.heap.objs.size],_,_,H1,rfl,I2,QiU l _ _ (Nat.succ_ne_self _),⟨.none,he,hi⟩,λb hb=>?_,q⟩;have:s1.heap.objs.size<=b:=by
  rcases q_5.mp hb with z|z;·rw[z];exact le_succ _
  ·rw[q_2.mp z];exact Qz _
 exact I1.fpOk this (fe b this)
theorem EU:∀(ds:List D)(n i:Nat)(d:D),ds[i]?=some d->(Wc n ds)[i]?=some (.tup [.int ((n+i:Nat):Int),d])|[],_,_,_,h=>by simp at h|d::ds,n,0,_,h=>by simp at h;subst h;simp[Wc]|d::ds,n,i+1,x,h=>by have:=EU ds (n+1) i x (by simpa using h);rw[Wc,WU,this,show n+1+i=n+(i+1)by omega]
theorem Ks:∀(ds:List D)(n:Nat),(Wc n ds).length=ds.length|[],_=>rfl|d::ds,n=>by rw[Wc,JV,JV,Ks]
def Od{elts:List Expr}{x1:Nat}{cp:Pos}{ev:Q7}(hg:Gl X "enumerate")(hm:X.mg "enumerate"=none)(ha:PE X a (tD X O ev))(hs:starEach [a] X.env=[(false,eval a X.env)]:=by rfl):PI X (.Tuple elts x1 cp) (.Call (.Name "enumerate" p) [a] [] pos) (tI X O (Xh ev)):=PI.imp (Qg5 hg hm (ZJ ha Vw hs) hs) λσ H R⟨F0,F,en,jV,rs,z,k⟩=>by obtain⟨d,e1,e2⟩:=JB z;obtain⟨ds,e3,rfl⟩:=Z5 e2;refine⟨F0,F,en,d,rs,e1,λv F1 H1 g1 r1=>?_⟩;have fin:∀(l:Addr)(xs:List V),SqL X.K F1 l xs->Reps X.K F1 xs ds->R (L1 X.K l) H1:=λl xs hl r=>k F1 H1 _ g1 ⟨λi F' H' s s' hi=>by rw[Ks]at hi;obtain⟨v,h1,_⟩:=r.get (Qf hi);exact⟨xs,v,s'.sqL (s.sqL hl),h1⟩,λi F' H' x H2 s s' hi hy=>by obtain⟨p,y,hp,rfl,rfl,hx⟩:=hy;have cC:=hx xs (s'.sqL (s.sqL hl));obtain⟨d,h1,h2⟩:=r.getV cC;have g:=Gr.new s' hp (.tup [.int i,y]);refine⟨_,.tup [.int i,d],g,?_,.tup Jz (.cons (.int _) (.cons ((h2.mono s).mono g.ff) .nil))⟩;have:=EU ds 0 i d h1;rw[this,zero_add],λi F' H' s s' hi=>⟨xs,s'.sqL (s.sqL hl),by rw[Ks]at hi;rw[r.length];exact hi⟩⟩;cases r1 with|@lst l xs cy hl r=>cases e3;exact⟨l,rfl,⟨xs,SqL.of (g1.fh _ _ hl)⟩,fin l xs (SqL.of hl) r⟩|@scr l ns hl=>cases e3;exact⟨l,rfl,⟨_,g1.fh.sqL hl⟩,fin l _ hl (Reps.ints ns)⟩|_=>cases e3
end
section
variable{env:Env}
theorem Ke:∀(names:List (Str×NameKind))(cs:List (Str×Addr)),(∀x∈names,x.2=.free->∃c,env.cells.lookup x.1=some c)->(∀x c,cs.lookup x=some c->env.cells.lookup x=some c)->∃cl,(forIn (m:=Sem) names cs ((λx r=>match x with|(name,kind)=>if(kind==NameKind.free)=true then do let c<-cellOf env name;pure (ForInStep.yield ((name,c)::r))else pure (ForInStep.yield r)):(Str×NameKind)->List (Str×Addr)->Sem (ForInStep (List (Str×Addr)))))=pure cl/\(∀x c,cl.lookup x=some c->env.cells.lookup x=some c)/\∀x,((∃c,cs.lookup x=some c)\/(x,NameKind.free)∈names)->∃c,cl.lookup x=some c
 |[],cs,_,hP=>⟨cs,rfl,hP,λx h=>by
   rcases h with h|h;·exact h
   ·cases h⟩|(n,k)::names,cs,hf,hP=>by
  rw[List.forIn_cons];by_cases hk:k=.free
  ·subst hk;obtain⟨c,hc⟩:=hf (n,.free) Ja rfl;have cm:cellOf env n=pure c:=by unfold cellOf;rw[hc]
   obtain⟨cl,h1,h2,h3⟩:=Ke names ((n,c)::cs) (λx hx=>hf x (JO _ hx)) (λx c' h=>by
    rw[X3]at h;split at h
    ·rename_i z;cases h;rw[eq_of_beq z];exact hc
    ·exact hP x c' h);refine⟨cl,?_,h2,λx h=>h3 x ?_⟩
   ·rw[<-h1];simp only[beq_self_eq_true,if_true,cm];rfl
   ·rcases h with⟨c',h⟩|h
    ·left;rw[X3];split;·exact⟨_,rfl⟩
     ·exact⟨c',h⟩
    ·rcases q_5.mp h with h|h
     ·cases h;left;exact⟨c,by simp⟩
     ·exact .inr h
  ·have hb:(k==NameKind.free)=false:=by simpa using hk
   obtain⟨cl,h1,h2,h3⟩:=Ke names cs (λx hx=>hf x (JO _ hx)) hP;refine⟨cl,?_,h2,λx h=>h3 x ?_⟩
   ·rw[<-h1];simp only[hb,Bool.false_eq_true,if_false];rfl
   ·rcases h with h|h;·exact .inl h
    ·rcases q_5.mp h with h|h
     ·cases h;exact absurd rfl hk
     ·exact .inr h
def Qa0{scope:Scope}(hf:∀x∈scope.names,x.2=.free->∃c,env.cells.lookup x.1=some c):∃cl,closureFor scope env=pure cl/\(∀x c,cl.lookup x=some c->env.cells.lookup x=some c)/\∀x,(x,NameKind.free)∈scope.names->∃c,cl.lookup x=some c:=by obtain⟨cl,h1,h2,h3⟩:=Ke scope.names [] hf (λx c h=>by cases h);refine⟨cl,?_,h2,λx h=>h3 x (.inr h)⟩;have e:closureFor scope env=((forIn (m:=Sem) scope.names [] ((λx r=>match x with|(name,kind)=>if(kind==NameKind.free)=true then do let c<-cellOf env name;pure (ForInStep.yield ((name,c)::r))else pure (ForInStep.yield r)):(Str×NameKind)->List (Str×Addr)->Sem (ForInStep (List (Str×Addr)))))>>=λr=>pure r):=rfl;rw[e,h1];rfl
theorem IH(env:Env):∀(names:List (Str×NameKind))(x:Str),(names.map λ(n,k)=>if(k==NameKind.free&&env.scope.kind==.function&&env.kindOf n==some .cell)then(n,NameKind.cell)else(n,k)).lookup x=(names.lookup x).map λk=>if(k==NameKind.free&&env.scope.kind==.function&&env.kindOf x==some .cell)then NameKind.cell else k
 |[],_=>rfl|(n,k)::names,x=>by
  have ih:=IH env names x;rw[ZT,X3];show List.lookup x ((if(k==NameKind.free&&env.scope.kind==.function&&env.kindOf n==some .cell)=true then(n,NameKind.cell)else(n,k))::_)=_;cases hx:x==n with
  |true=>
   have:=eq_of_beq hx;subst this;by_cases hc:(k==NameKind.free&&env.scope.kind==.function&&env.kindOf x==some .cell)=true
   ·rw[if_pos hc,X3,hx];rw[X3,hx];simp only[WV];rw[if_pos hc]
   ·rw[if_neg hc,X3,hx];rw[X3,hx];simp only[WV];rw[if_neg hc]|false=>
   by_cases hc:(k==NameKind.free&&env.scope.kind==.function&&env.kindOf n==some .cell)=true;·rw[if_pos hc,X3,X3,hx];exact ih
   ·rw[if_neg hc,X3,X3,hx];exact ih
theorem mem_of_lookup{α β:Type}[BEq α][LawfulBEq α]:∀{l:List (α×β)}{x:α}{y:β},l.lookup x=some y->(x,y)∈l
 |[],_,_,h=>by cases h|(a,b)::l,x,y,h=>by
  rw[X3]at h;split at h;·rename_i z;cases h;rw[eq_of_beq z];exact Ja
  ·exact JO _ (mem_of_lookup h)
end
noncomputable def TJ(X:Cx)(scope:Scope)(N':List Str)(cl:List (Str×Addr))(C:Addr)(ex:List Addr)(s:Shared)(H:Hp)(pn:List (Addr×Obj)):Cx:={X with N:=N',env:=compEnvC scope cl C X.env,s₀:=s,H₀:=H,ag:=X.stack,ex:=ex,fn:=λ_=>false,pn:=pn,xe:=λ_ _=>False}
structure CompSc(X:Cx)(scope:Scope)(n:Nat)(N':List Str)(caps:List Nat):Prop where
 kind:scope.kind=.function
 nocell:∀y∈scope.names,y.2≠.cell
 loc:∀x∈scope.names,x.2=.local->scope.names.lookup x.1=some .local
 fre:∀x∈scope.names,x.2=.free->X.env.kindOf x.1=some .cell\/X.env.kindOf x.1=some .free
 len:N'.length=n+caps.length
 cap:∀(j i:Nat),caps[j]?=some i->∃x,N'[n+j]?=some x/\X.N[i]?=some x/\scope.names.lookup x=some .free
 nd:N'.Nodup
section
variable{X:Cx}{aa:List (Addr×Obj)}{σ:L2.St}{H:Hp}{s:Shared}{scope:Scope}{n:Nat}{N':List Str}{caps:List Nat}{cl:List (Str×Addr)}{C:Addr}{ex:List Addr}
def Qa2(S:CompSc X scope n N' caps){x:Str}(h:(compEnvC scope cl C X.env).kindOf x=some .cell\/(compEnvC scope cl C X.env).kindOf x=some .free):(x,NameKind.free)∈scope.names:=by have e:(compEnvC scope cl C X.env).kindOf x=(scope.names.lookup x).map λk=>if(k==NameKind.free&&X.env.scope.kind==.function&&X.env.kindOf x==some .cell)then NameKind.cell else k:=IH X.env scope.names x;rw[e]at h;cases q:scope.names.lookup x with|none=>rw[q]at h;rcases h with h|h<;>cases h|some k=>have m:=mem_of_lookup q;cases k with|free=>exact m|cell=>exact absurd rfl (S.nocell _ m)|_=>rw[q]at h;rcases h with h|h<;>simp at h
def Qa1(I:Inv X aa σ H s)(S:CompSc X scope n N' caps)(hC:s.heap.objs.size<=C)(cM:∀x c,cl.lookup x=some c->X.env.cells.lookup x=some c)(cK:∀x,(x,NameKind.free)∈scope.names->∃c,cl.lookup x=some c)(hex:∀b∈ex,WG X aa H b/\b≠C)(pn:List (Addr×Obj)):(TJ X scope N' cl C ex s H pn).Ok where
 mod:=I.ok.mod
 kind:=S.kind
 glob:=I.ok.glob
 blt:=I.ok.blt
 above:=hC
 inj:=λx y c h1 h2=>I.ok.inj x y c (cM x c h1) (cM y c h2)
 has:=λx h=>cK x (Qa2 (cl:=cl) (C:=C) S h)
 cab:=λx c h=>by cases h
 hd:=I.ok.hd
 frames:=I.ok.frames
 stk:=.inl rfl
 exf:=λb hb=>⟨(hex b hb).2,λx c h=>(hex b hb).1.2.2.2.2.1 x c (cM x c h)⟩
 bs:=I.bs
 bsz:=Zk I.ok.bsz I.sz
 noex:=λb o e hb=>by
  rcases(hex b hb).1.2.2.2.1 with z|z;·exact I.ok.noex b o e z
  ·exact absurd (Vh (Heap.lt_size e) (Zk I.ok.bsz z)) (lt_irrefl _)
 exfs:=λb hb hf=>by
  obtain⟨⟨_,h1,h2,_⟩,_⟩:=hex b hb;rcases q_5.mp (I.stkSub b hf)with z|z;·exact h1 z
  ·exact h2 z
 funs:=I.stack
 frf:=I.stkFree
end
def Qa3{prog:Program}{w:World}{A:Around}{R:Result->Shared->Prop}{s:Shared}{elt target iter:Expr}{ifs:List Expr}{scope:Scope}{pos:Pos}{it acc:Value}{env:Env}{E:Value->Shared->Prop}(hE:∀x s,¬E x s)(J:Nat->Shared->Prop)(turn:∀n s,J n s->wpAny (model prog w) A (pyNext it) (λr s₁=>match r with|none=>R (.ok .next) s₁|some v=>wpAny (model prog w) A (letOwnedTupleGo target it v) (λ_ s₁=>wpAny (model prog w) A (assign target env v) (λ_ s₂=>wpAny (model prog w) A (forIn ifs true λc r=>if r=true then do let ok<-isTrue c env (eval c env);pure (ForInStep.yield ok)else pure (ForInStep.yield r)) (λok s₃=>if ok=true then wpAny (model prog w) A (eval elt env) (λx s₄=>wpAny (model prog w) A (call (.builtin "list.append") [acc,x]) (λ_ s₅=>∃m,m<n/\J m s₅) E s₄) E s₃ else∃m,m<n/\J m s₃) E s₂) E s₁) E s₁) E s)(n:Nat)(h:J n s):codeAny (model prog w) A (.compLoop (.ListComp elt [⟨target,iter,ifs,0⟩] scope pos) 0 it acc env) R s:=by have no:∀{E':Value->Shared->Prop}x s,E x s->E' x s:=λx s h=>absurd h (hE x s);refine codeAny_loop rfl J (λn s hI=>?_) n h;show wpAny _ A ((compTurn (.ListComp elt [⟨target,iter,ifs,0⟩] scope pos) 0 it acc env).onRaise (λx=>do noteFrame x env;theTreesLotGoes x)) _ _ s;refine wpAny_noted ?_;rw[compTurn_list];refine wpAny_bind (wpAny_standAt (wpAny_bind (wpAny_mono (turn n s hI) (λr s₁ h₁=>?_) λx s h'=>no x s h')));cases r with|none=>exact wpAny_pure h₁|some v=>refine wpAny_bind (wpAny_mono h₁ (λ_ s₂ h₂=>wpAny_bind (wpAny_mono h₂ (λ_ s₂ h₂=>wpAny_bind (wpAny_mono h₂ (λok s₃ h₃=>?_) λx s h'=>no x s h')) λx s h'=>no x s h')) λx s h'=>no x s h');cases ok with|false=>exact wpAny_pure ⟨rfl,h₃⟩|true=>exact wpAny_bind (wpAny_bind (wpAny_mono h₃ (λx s₄ h₄=>wpAny_bind (wpAny_mono h₄ (λ_ s₅ h₅=>wpAny_pure (wpAny_pure ⟨rfl,h₅⟩)) λx s h'=>no x s h')) λx s h'=>no x s h'))
def RG(X:Cx)(ifs:List Expr)(t:TT):Prop:=∀(aa:List (Addr×Obj))(s:Shared)(σ:L2.St)(H:Hp)(Q:Bool->Hp->Prop),Inv X aa σ H s->t σ H Q->wpAny (model X.prog X.w) X.A (forIn ifs true λc r=>if r=true then do let ok<-isTrue c X.env (eval c X.env);pure (ForInStep.yield ok)else pure (ForInStep.yield r)) (TP X aa σ Q) X.xe s
section
variable{X:Cx}
def Wt{O:List Nat}:RG X [] (tDT X O (eC (.bl true))):=λaa s σ H Q I⟨F0,F,en,b,rs,w,k⟩=>by cases w;exact wpAny_pure ⟨H,I,k F H (.refl rs.fh)⟩
def Uh{O:List Nat}{c:Expr}{ev:Q7}(h:PT X c (tDT X O ev)):RG X [c] (tDT X O ev):=λaa s σ H Q I t=>by simp only[List.forIn_cons,List.forIn_nil,if_true];exact wpAny_bind (wpAny_bind (wpAny_mono (h aa s σ H Q I t) (λb s' hb=>wpAny_pure (wpAny_pure hb)) λ_ _ x=>x))
end
section
variable{X:Cx}{aa:List (Addr×Obj)}{σ:L2.St}{H:Hp}{s:Shared}{scope:Scope}{n:Nat}{N':List Str}{caps:List Nat}{cl:List (Str×Addr)}{fp:List Addr}
noncomputable def Ue(n:Nat)(caps:List Nat)(σ:L2.St):L2.St:=List.replicate n none++caps.map λi=>(σ[i]?).join
def Qa4(I:Inv X aa σ H s)(S:CompSc X scope n N' caps)(cM:∀x c,cl.lookup x=some c->X.env.cells.lookup x=some c)(cK:∀x,(x,NameKind.free)∈scope.names->∃c,cl.lookup x=some c)(dY:∀b∈fp,WG X aa H b/\b<s.heap.objs.size){h1:Heap}{tk:Nat}(eO:h1.Ns (s.heap.objs.size+1) λ_=>none)(old:∀b o,(s.heap.push {cls:=.type "list",data:=.seq #[]}).get? b=some o->h1.get? b=some o):Inv (TJ X scope N' cl (s.heap.objs.size+1) (s.heap.objs.size::fp) {s with heap:=s.heap.push {cls:=.type "list",data:=.seq #[]}} H (X.pn++aa)) [] (Ue n caps σ) (upd H s.heap.objs.size (.lst [])) {s with heap:=h1,toks:=tk}:=by
 have hz:(s.heap.push {cls:=.type "list",data:=.seq #[]}).objs.size=s.heap.objs.size+1:=Heap.size_push ..;have up:∀b o,s.heap.get? b=some o->h1.get? b=some o:=λb o e=>old b o (Heap.get?_push_of_some _ e);have b6:H s.heap.objs.size=none:=I.hok.fresh (Qz _);have hC:H (s.heap.objs.size+1)=none:=I.hok.fresh (le_succ _);have I3:Inv X aa σ H {s with heap:=s.heap.push {cls:=.type "list",data:=.seq #[]}}:=I.kept (t':=s.toks) λb o e=>Heap.get?_push_of_some _ e;have eB:∀x c,X.env.cells.lookup x=some c->c<s.heap.objs.size:=λx c e=>by
  obtain⟨v,o,ho,_⟩:=I.cell x c e;exact Heap.lt_size ho
 refine⟨Qa1 I3 S (by rw[hz];exact Qz _) cM cK (λb hb=>?_) _,rfl,I.bare,⟨λb o e _ _ _=>old b o e,λb o e _ _ _=>⟨o.slots,old b o e⟩,λb o e n hb=>?_,λb o e _=>⟨o,old b o e⟩,λb xs e=>?_,λb o u e=>?_,λb ps e=>⟨#[],?_⟩⟩,⟨_,eO,λi x v e1 e2 _=>?_⟩,λx c e=>?_,?_,λx c e=>?_,λp hp=>?_,I.hok.laid up (Qz _) ⟨zero_le _,[],0,.nil,old _ _ (Heap.get?_push_size _ rfl)⟩,?_⟩
 ·rcases q_5.mp hb with z|z;·subst z;exact⟨I.fpOk (Qz _) b6,Y9 (Nat.lt_succ_self _)⟩
  ·exact⟨(dY b z).1,Y9 (lt_succ_of_lt (dY b z).2)⟩
 ·rw[Qi (λz=>hb (by rw[z];exact Ja))];exact n
 ·rw[Qi (Wj e b6)];exact e
 ·rw[Qi (Wj e b6)];exact e
 ·have e':H b=some (.tbl ps):=e;rw[Qi (Wj e' b6),e'];simp
 ·unfold Ue at e2;rcases VU i n with hi|hi
  ·rw[YO (by simpa using hi),Sq,if_pos hi]at e2;cases e2
  ·rw[Vx (by simpa using hi),Pz,Yz]at e2;cases q:caps[i-n]? with
   |none=>rw[q]at e2;cases e2|some j=>
    rw[q]at e2;obtain⟨x',f1,f2,f3⟩:=S.cap (i-n) j q;rw[show n+(i-n)=i by omega]at f1;have gL:N'[i]?=some x:=e1;rw[f1]at gL;cases gL;have dI:(σ[j]?).join=some v:=Option.some.inj e2;have e3:σ[j]?=some (some v):=by cases w:σ[j]? with|none=>rw[w]at dI;cases dI|some o=>rw[w]at dI;cases o with|none=>cases dI|some u=>cases dI;rfl
    have hm:=mem_of_lookup f3;have kx:=S.fre _ hm rfl;obtain⟨m,_,hl⟩:=I.loc;obtain⟨u,r,lk⟩:=hl j x v f2 e3 (by
     rcases kx with z|z;·exact .inr (.inl z)
     ·exact .inr (.inr z));refine⟨u,r,.inr ⟨?_,?_⟩⟩
    ·have e:(compEnvC scope cl (s.heap.objs.size+1) X.env).kindOf x=(scope.names.lookup x).map λk=>if(k==NameKind.free&&X.env.scope.kind==.function&&X.env.kindOf x==some .cell)then NameKind.cell else k:=IH X.env scope.names x;have e':(compEnvC scope cl (s.heap.objs.size+1) X.env).kindOf x=some (if(NameKind.free==NameKind.free&&X.env.scope.kind==.function&&X.env.kindOf x==some .cell)then NameKind.cell else NameKind.free):=by rw[e,f3];rfl
     show(compEnvC scope cl (s.heap.objs.size+1) X.env).kindOf x=some .cell\/(compEnvC scope cl (s.heap.objs.size+1) X.env).kindOf x=some .free;rw[e'];split;·exact .inl rfl
     ·exact .inr rfl
    ·obtain⟨c,hc⟩:=cK x hm;rcases lk with⟨z,_⟩|⟨_,c',gH,o,ho,hd⟩;·rcases kx with w|w<;>(rw[z]at w;cases w)
     ·have:=cM x c hc;rw[gH]at this;cases this;exact⟨c,hc,o,up c o ho,hd⟩
 ·obtain⟨v,o,ho,hd⟩:=I.cell x c (cM x c e);exact⟨v,o,up c o ho,hd⟩
 ·show upd H s.heap.objs.size (.lst []) (s.heap.objs.size+1)=none;rw[Qi (Nat.succ_ne_self _)];exact hC
 ·rw[Qi (Y9 (eB x c (cM x c e)))];exact I.freeC x c (cM x c e)
 ·have cL:p∈X.pn++aa:=by simpa[TJ]using hp
  obtain⟨k1,k2,k3,k4,k5⟩:=I.pin p cL;have lt:p.1<s.heap.objs.size:=Heap.lt_size k1;refine⟨up _ _ k1,?_,Y9 (lt_succ_of_lt lt),λhb=>?_,k5⟩;·rw[Qi (Y9 lt)];exact k2
  ·rcases q_5.mp (I.stkSub _ hb)with z|z;·exact k3 z
   ·exact k4 z
 ·show(Ue n caps σ).length=N'.length;rw[S.len];simp[Ue]
end
def Xx(X:Cx)(scope:Scope)(N':List Str)(P:Cx->Prop):Prop:=∀(cl:List (Str×Addr))(C:Addr)(ex:List Addr)(s:Shared)(H:Hp)(pn:List (Addr×Obj)),P (TJ X scope N' cl C ex s H pn)
section
variable{X:Cx}{O:List Nat}{scope:Scope}{n:Nat}{N':List Str}{caps:List Nat}{tg iter elt:Expr}{ifs:List Expr}{pos:Pos}{it:ZY}{g:Jy}{c el:Q7}
def QhS{K:Fg}{H₀:Hp}{F0:Fz}{F H:Hp}{σ:L2.St}{en:QG}(r:RS K H₀ F0 F H σ en O)(hO:∀i∈caps,i∉O):RS K H ⟨F,H,none⟩ F H (Ue n caps σ) (XY n caps en) []where
 fh:=r.fh
 hh:=.refl H
 ff:=.refl F
 fr:=λ_ _ h=>.inl h
 slot:=λi d h _=>by
  unfold XY at h;unfold Ue;rcases VU i n with hi|hi;·rw[YO (by simpa using hi),Sq,if_pos hi]at h;cases h
  ·rw[Vx (by simpa using hi),Pz,Yz]at h;rw[Vx (by simpa using hi),Pz,Yz];cases q:caps[i-n]? with
   |none=>rw[q]at h;cases h|some j=>
    rw[q]at h;have h':(en[j]?).join=some d:=Option.some.inj h;have e3:en[j]?=some (some d):=by cases w:en[j]? with|none=>rw[w]at h';cases h'|some o=>rw[w]at h';cases o with|none=>cases h'|some u=>cases h';rfl
    have hj:j∈caps:=VL q;obtain⟨v,h1,h2⟩:=r.slot j d e3 (hO j hj);refine⟨v,?_,h2⟩;simp[h1]
 own:=λi d _ h=>by cases h
 dis:=λi j p _ _ h=>by cases h
 pin:=λi h=>by cases h
 len:=by unfold Ue XY;simp
def Cz{K:Fg}{H₀:Hp}{F0:Fz}{F H:Hp}{σ:L2.St}{en:QG}{p:Addr}{o:HO}(r:RS K H₀ F0 F H σ en [])(h0:F0.h p=none)(hf:F p=none):RS K H₀ F0 F (upd H p o) σ en []where
 fh:=r.fh.upd o hf
 hh:=r.hh.upd o h0
 ff:=r.ff
 fr:=r.fr
 slot:=r.slot
 own:=λi d _ h=>by cases h
 dis:=λi j p _ _ h=>by cases h
 pin:=λi h=>by cases h
 len:=r.len
def QdD{α:Type}{o:Option D}{x y:Option α}{r:α}(h:YY o x y=some r):∃b,o=some (.bl b)/\(b=true->x=some r)/\(b=false->y=some r):=by
 obtain⟨b,h1,h2⟩:=UK h;refine⟨b,h1,λz=>?_,λz=>?_⟩;·subst z;exact h2
 ·subst z;exact h2
structure ItOkH(K:Fg)(F H:Hp)(J:It)(ds:List D):Prop where
 go:∀i F' H',Sm F F'->Sm F' H'->Sm H H'->i<ds.length->J.go i H'
 yld:∀i F' H' x H2,Sm F F'->Sm F' H'->Sm H H'->i<ds.length->J.yld i H' x H2->∃F2 d,Gr F' H' F2 H2/\ds[i]?=some d/\Rep K F2 x d
 stop:∀i F' H',Sm F F'->Sm F' H'->Sm H H'->ds.length<=i->J.stop i H'
noncomputable def O7(X:Cx)(O:List Nat)(it:ZY):TI:=λσ H R=>∃F0 F e ds,RS X.K X.H₀ F0 F H σ e O/\it e=some ds/\∀F' H' J,Gr F H F' H'->ItOkH X.K F' H' J ds->R J H'
def VC(h:PI X tg iter (tI X O it)):PI X tg iter (O7 X O it):=PI.imp h λσ H R⟨F0,F,en,ds,rs,z,k⟩=>⟨F0,F,en,ds,rs,z,λF' H' J g io=>k F' H' J g ⟨λi F2 H2 a b _=>io.go i F2 H2 a b,λi F2 H2 x H3 a b _=>io.yld i F2 H2 x H3 a b,λi F2 H2 a b _=>io.stop i F2 H2 a b⟩⟩
def QcB(i:Nat){x:Str}{p:Pos}(hN:X.N[i]?=some x:=by rfl)(hv:WK X.env.scope x:=by first|exact Or.inl rfl|exact Or.inr (Or.inl rfl)|exact Or.inr (Or.inr rfl))(hd:(x==("__debug__":Str))=false:=by decide)(b5:(x==("__classdict__":Str))=false:=by decide):PI X tg (.Name x p) (O7 X O (J1 (eV i))):=PI.imp (CT (Wu (O:=O) i hN hv hd b5)) λσ H R⟨F0,F,en,ds,rs,z,k⟩=>by obtain⟨d,e1,e2⟩:=JB z;refine⟨F0,F,en,d,rs,e1,λv F1 H1 g1 r1=>?_⟩;have fin:∀(a:Addr)(xs:List V),SqL X.K H1 a xs->Reps X.K F1 xs ds->R (OC X.K a) H1:=λa xs ha r=>k F1 H1 _ g1 ⟨λi F' H' s s' sh hi=>by obtain⟨v,h1,_⟩:=r.get (Qf hi);exact⟨xs,v,sh.sqL ha,h1⟩,λi F' H' x H2 s s' sh hi⟨hH,hx⟩=>by subst hH;have cC:=hx xs (sh.sqL ha);obtain⟨d,h1,h2⟩:=r.getV cC;exact⟨F',d,.refl s',h1,h2.mono s⟩,λi F' H' s s' sh hi=>⟨xs,sh.sqL ha,by rw[r.length];exact hi⟩⟩;cases d with|lst cy=>cases e2;obtain⟨a,xs,rfl,h,r⟩:=r1.lst g1.fh;exact⟨a,rfl,⟨xs,SqL.of h⟩,fin a xs (SqL.of h) r⟩|scr ns=>cases e2;obtain⟨a,rfl,h⟩:=r1.scr;exact⟨a,rfl,⟨_,g1.fh.sqL h⟩,fin a _ (g1.fh.sqL h) (Reps.ints ns)⟩|_=>cases e2
def Fn(hx:X.xe=λ_ _=>False)(hc:X.calm=true)(S:CompSc X scope n N' caps)(hO:∀i∈caps,i∉O)(hi:PI X tg iter (O7 X O it))(hg:Xx X scope N' λY=>PG Y tg (tG Y [] [] g))(ht:Xx X scope N' λY=>RG Y ifs (tDT Y [] c))(he:Xx X scope N' λY=>PE Y elt (tD Y [] el))(hs:∀x,foldedSetIterable iter X.env x=pure x){use:Option (Value->Sem Unit)}{Qv:Value->Shared->Prop}{aI:Pos}{aa:List (Addr×Obj)}{σ:L2.St}{H:Hp}{s:Shared}(I:Inv X aa σ H s){F0:Fz}{F:Hp}{en:QG}{ds tot:List D}(rs:RS X.K X.H₀ F0 F H σ en O)(e1:it en=some ds)(hlen:ds.length<=lI)(e3:XB g c el ds (XY n caps en)=some tot)(jg:∀acc C s' H' F' xs m,H acc=none->Inv X aa σ H' s'->WG X aa H' C->s'.heap.Ns C m->Gr F H F' H'->F' acc=none->H' acc=some (.lst xs)->Reps X.K F' xs tot->compPost (model X.prog X.w) X.A X.xe use Qv (.ref acc) C (.ok .next) s'):wpAny (model X.prog X.w) X.A (comprehension (.ListComp elt [⟨tg,iter,ifs,0⟩] scope pos) scope X.env aI (newList []) false (eval iter X.env) use) Qv X.xe s:=by
 obtain⟨cl,jb,cM,cK⟩:=Qa0 (scope:=scope) (env:=X.env) λx hx hk=>I.ok.has x.1 (S.fre x hx hk);refine wpAny_comprehension_free (use:=use) rfl hs jb S.kind S.loc ?_;refine QW (hi aa s σ H _ I ⟨F0,F,en,ds,rs,e1,λF' H' J gr io=>⟨F',gr,io⟩⟩:wpAny (model X.prog X.w) X.A (eval iter X.env) (λv s1=>wpAny (model X.prog X.w) X.A (pyIter v) (LA X aa σ tg λJ H'=>∃F',Gr F H F' H'/\ItOkH X.K F' H' J ds) X.xe s1) X.xe s) λv s1 h1=>?_;refine QW h1 λgZ s2 h2=>?_;obtain⟨g9,fp,tn,J,H2,rfl,I2,T,dt,f2,F2,gr,io⟩:=h2;have fI:∀b∈fp,WG X aa H2 b/\b<s2.heap.objs.size:=λb hb=>by
  obtain⟨o,ho,_⟩:=T.obj 0 _ dt b hb;exact⟨f2 b hb,Heap.lt_size ho⟩
 have b6:H2 s2.heap.objs.size=none:=I2.hok.fresh (Qz _);have hz:(s2.heap.push {cls:=.type "list",data:=.seq #[]}).objs.size=s2.heap.objs.size+1:=Heap.size_push ..;refine wpAny_newObj_type (wpAny_newFunctionEnv S.nocell (by intro y hy;simp at hy) (λh1 fS fR=>?_) S.kind);dsimp only at fS fR⊢;have eO:h1.Ns (s2.heap.objs.size+1) λ_=>none:=by
  have q:=fS;rw[hz]at q;exact q
 have old:∀b o,(s2.heap.push {cls:=.type "list",data:=.seq #[]}).get? b=some o->h1.get? b=some o:=λb o e=>fR.extBut b o (Y9 (Heap.lt_size e)) (Heap.get?_push_of_some _ e);have I4:=Qa4 (tk:=s2.toks+([]:List (Str×Value)).length) I2 S cM cK fI eO old;have loop:∀(R:Result->Shared->Prop),(∀s' H' F' xs m,Inv (TJ X scope N' cl (s2.heap.objs.size+1) (s2.heap.objs.size::fp) {s2 with heap:=s2.heap.push {cls:=.type "list",data:=.seq #[]}} H2 (X.pn++aa)) [] m H' s'->Gr F2 H2 F' H'->F' s2.heap.objs.size=none->H' s2.heap.objs.size=some (.lst xs)->Reps X.K F' xs tot->R (.ok .next) s')->codeAny (model X.prog X.w) X.A (.compLoop (.ListComp elt [⟨tg,iter,ifs,0⟩] scope pos) 0 (.ref g9) (.ref s2.heap.objs.size) (compEnvC scope cl (s2.heap.objs.size+1) X.env)) R {s2 with heap:=h1,toks:=s2.toks+([]:List (Str×Value)).length}:=by
  intro R hR;have gY:=hg cl (s2.heap.objs.size+1) (s2.heap.objs.size::fp) {s2 with heap:=s2.heap.push {cls:=.type "list",data:=.seq #[]}} H2 (X.pn++aa);have tY:=ht cl (s2.heap.objs.size+1) (s2.heap.objs.size::fp) {s2 with heap:=s2.heap.push {cls:=.type "list",data:=.seq #[]}} H2 (X.pn++aa);have eY:=he cl (s2.heap.objs.size+1) (s2.heap.objs.size::fp) {s2 with heap:=s2.heap.push {cls:=.type "list",data:=.seq #[]}} H2 (X.pn++aa);generalize hY:TJ X scope N' cl (s2.heap.objs.size+1) (s2.heap.objs.size::fp) {s2 with heap:=s2.heap.push {cls:=.type "list",data:=.seq #[]}} H2 (X.pn++aa)=Y at I4 gY tY eY hR;have yK:Y.K=X.K:=by rw[<-hY];rfl
  have yP:Y.prog=X.prog:=by rw[<-hY];rfl
  have yW:Y.w=X.w:=by rw[<-hY];rfl
  have yA:Y.A=X.A:=by rw[<-hY];rfl
  have yH:Y.H₀=H2:=by rw[<-hY];rfl
  have yE:Y.env=compEnvC scope cl (s2.heap.objs.size+1) X.env:=by rw[<-hY];rfl
  have yX:Y.xe=λ_ _=>False:=by rw[<-hY];rfl
  have yc:Y.calm=true:=by rw[<-hY];exact hc
  have yf:Y.fs=Wy X.stack:=by rw[<-hY];rfl
  have yx:Y.ex=s2.heap.objs.size::fp:=by rw[<-hY];rfl
  have yp:Y.pn=X.pn++aa:=by rw[<-hY];rfl
  have stat:∀{H':Hp},(∀b∈fp,H' b=none)->∀b∈fp,WG Y [] H' b:=λhn b hb=>by
   obtain⟨⟨_,q1,q2,q3,q4,q5⟩,q6⟩:=fI b hb;refine⟨hn b hb,?_,?_,.inl ?_,λx c e=>?_,λp hp=>q5 p ?_⟩;·rw[yE];exact Y9 (lt_succ_of_lt q6)
   ·rw[yf];intro hf;rcases q_5.mp (I2.stkSub b hf)with w|w;·exact q1 w
    ·exact q2 w
   ·rw[yx];exact JO _ hb
   ·rw[yE]at e;exact q4 x c (cM x c e)
   ·rw[yp]at hp;simpa using hp
  rw[<-yP,<-yW,<-yA,<-yE];have T':Turn Y.prog Y.w Y.K tg J fp g9 tn:=by rw[yP,yW,yK];exact T
  have iR:∀b∈fp,b≠s2.heap.objs.size:=λb hb=>Y9 (fI b hb).2;refine Qa3 (E:=Y.xe) (λx s h=>by rw[yX]at h;exact h) (λm s'=>∃i σ' H' F' bj xs done J7,m=ds.length-i/\i<=ds.length/\Inv Y [] σ' H' s'/\tn i s'.heap/\(∀b∈fp,H' b=none)/\RS X.K H2 ⟨F2,H2,none⟩ F' H' σ' bj []/\H' s2.heap.objs.size=some (.lst xs)/\F' s2.heap.objs.size=none/\Reps X.K F' xs done/\XB g c el (ds.drop i) bj=some J7/\done++J7=tot/\done.length<=i) ?_ ds.length ⟨0,Ue n caps σ,_,F2,XY n caps en,[],[],tot,by omega,by omega,I4,T.keep 0 _ _ dt (λb hb o e=>old b o (Heap.get?_push_of_some _ e)),λb hb=>?_,Cz (QhS (rs.grow gr) hO) b6 ((rs.grow gr).fh.none b6),Jz,(rs.grow gr).fh.none b6,.nil,by rw[drop_zero];exact e3,rfl,Qz _⟩
  ·rintro m s3⟨i,σ3,H3,F3,iF,xs,done,J7,rfl,hle,I3,dS,fH,cA,iw,jO,r3,q3,dh,dl3⟩;have gJ:Gr F2 H2 F3 H3:=cA.ex.gr;rcases VU i ds.length with hi|hi
   ·refine QW (T'.item Y rfl rfl rfl yc i [] s3 σ3 H3 Y.xe I3 (stat fH) dS (io.go i F3 H3 gJ.ff cA.fh cA.hh hi)) λr s4⟨u,hr,h4⟩=>?_;subst hr;refine QW h4 λ_ s5⟨x,H5,I5,r5,y5,dQ,iB⟩=>?_;obtain⟨F5,dx,g5,jH,j7⟩:=io.yld i F3 H3 x H5 gJ.ff cA.fh cA.hh hi y5;have fD:ds.drop i=dx::ds.drop (i+1):=by
     rw[O0 hi];rw[Qf hi]at jH;cases jH;rfl
    rw[fD]at q3;obtain⟨eW,q4,q5⟩:=JB (show((g dx iF).bind λe1=>YY (c e1) ((el e1).bind λx=>(XB g c el (ds.drop (i+1)) e1).map λr=>x::r) (XB g c el (ds.drop (i+1)) e1))=some J7 from q3);obtain⟨b,q6,qt,qf⟩:=QdD q5;have iJ:=I5.pinned (stat iB) (T.obj _ _ dQ);have a5:H5 s2.heap.objs.size=some (.lst xs):=g5.hh _ _ iw;have n5:F5 s2.heap.objs.size=none:=by cases w:F5 s2.heap.objs.size with|none=>rfl|some o=>
      rcases g5.fr _ o w with z|z;·rw[jO]at z;cases z
      ·rw[iw]at z;cases z
    have gi:RS Y.K Y.H₀ ⟨F2,H2,none⟩ F5 H5 σ3 iF []:=by rw[yK,yH];exact cA.grow g5
    refine QW (gY _ s5 σ3 H5 x u (λσ' H'=>∃F',Gr F5 H5 F' H'/\RS Y.K Y.H₀ ⟨F2,H2,none⟩ F' H' σ' eW []) iJ r5 ⟨⟨F2,H2,none⟩,F5,iF,dx,eW,gi,by rw[yK];exact j7,q4,λσ' H' F' g' r'=>⟨F',g',r'⟩⟩) λ_ s6⟨σ6,H6,I6,F6,g6,gh⟩=>?_;have keepN:∀{Fa Ha Fb Hb:Hp},Gr Fa Ha Fb Hb->Ha s2.heap.objs.size=some (.lst xs)->Fa s2.heap.objs.size=none->Hb s2.heap.objs.size=some (.lst xs)/\Fb s2.heap.objs.size=none:=λ{Fa Ha Fb Hb}gg ha fa=>by refine⟨gg.hh _ _ ha,?_⟩;cases w:Fb s2.heap.objs.size with|none=>rfl|some o=>
      rcases gg.fr _ o w with z|z;·rw[fa]at z;cases z
      ·rw[ha]at z;cases z
    obtain⟨a6,n6⟩:=keepN g6 a5 n5;refine QW (tY _ s6 σ6 H6 (λb' H'=>b'=b/\∃F',Gr F6 H6 F' H') I6 ⟨⟨F2,H2,none⟩,F6,eW,b,gh,q6,λF' H' g'=>⟨rfl,F',g'⟩⟩) λok s7⟨H7,I7,hb,F7,g7⟩=>?_;subst hb;obtain⟨a7,n7⟩:=keepN g7 a6 n6;have gf:=gh.grow g7;have jj:Sm F3 F7:=(g5.ff.trans g6.ff).trans g7.ff;have back:∀{σ8:L2.St}{H8:Hp}{s8:Shared},Inv Y ([]++Pw fp s5.heap) σ8 H8 s8->Inv Y [] σ8 H8 s8/\tn (i+1) s8.heap/\∀b∈fp,H8 b=none:=λ{σ8 H8 s8}I8=>by
     refine⟨I8.unpinned,T.keep _ _ _ dQ λb hb o e=>(I8.pin (b,o) (YZ _ (YZ _ (NM hb e)))).1,λb hb=>?_⟩;obtain⟨o,e,_⟩:=T.obj _ _ dQ b hb;exact(I8.pin (b,o) (YZ _ (YZ _ (NM hb e)))).2.1
    cases ok with
    |false=>rw[if_neg WR];obtain⟨k1,k2,k3⟩:=back I7;exact⟨_,by omega,i+1,σ6,H7,F7,eW,xs,done,J7,rfl,hi,k1,k2,k3,by rw[yK,yH]at gf;exact gf,a7,n7,r3.mono jj,qf rfl,dh,by omega⟩|true=>
     rw[if_pos rfl];obtain⟨dy,q8,q9⟩:=JB (qt rfl);obtain⟨fX,kc,ka⟩:=Z5 q9;refine QW (eY _ s7 σ6 H7 (λv' H'=>∃F',Gr F7 H7 F' H'/\Rep Y.K F' v' dy) I7 ⟨⟨F2,H2,none⟩,F7,eW,dy,gf,q8,λv' F' H' g' r'=>⟨F',g',r'⟩⟩) λy s8⟨y',H8,I8,j6,F8,g8,jm⟩=>?_;obtain⟨a8,n8⟩:=keepN g8 a7 n7;have jl:=gf.grow g8;have j3:Sm F3 F8:=jj.trans g8.ff;have iT:xs.length<sizeLine:=by rw[Vj,r3.length];omega
     refine QW (IJ (X:=Y) _ s8 σ6 H8 (.ref s2.heap.objs.size) [y'] (.ref s2.heap.objs.size) [y] (λv' H'=>H'=upd H8 s2.heap.objs.size (.lst (xs++[y']))) I8 rfl (.cons j6 .nil) ⟨_,xs,y',rfl,rfl,a8,iT,rfl⟩) λ_ s9⟨v9,H9,I9,_,lV⟩=>?_;subst lV;obtain⟨k1,k2,k3⟩:=back I9;rw[yK,yH]at jl;rw[yK]at jm;refine⟨_,by omega,i+1,σ6,_,F8,eW,xs++[y'],done++[dy],fX,rfl,hi,k1,k2,k3,Cz jl b6 n8,Jz,n8,(r3.mono j3).append (.cons jm .nil),kc,?_,?_⟩;·rw[Vy];rw[<-dh,<-ka];rfl
     ·rw[Qe,Tr];omega
   ·have hG:ds.drop i=[]:=O3 hi;rw[hG]at q3;cases q3;rw[Yx]at dh;subst dh;refine QW (T'.done Y rfl rfl rfl yc i [] s3 σ3 H3 Y.xe I3 (stat fH) dS (io.stop i F3 H3 gJ.ff cA.fh cA.hh hi)) λr s4⟨hr,mj⟩=>?_;subst hr;exact hR s4 H3 F3 xs σ3 mj gJ jO iw r3
  ·rw[Qi (iR b hb)];exact(fI b hb).1.1
 have I3:Inv X aa σ H2 {s2 with heap:=s2.heap.push {cls:=.type "list",data:=.seq #[]}}:=I2.kept (t':=s2.toks) λb o e=>Heap.get?_push_of_some _ e;have fin:∀s' H' F' xs m,Inv (TJ X scope N' cl (s2.heap.objs.size+1) (s2.heap.objs.size::fp) {s2 with heap:=s2.heap.push {cls:=.type "list",data:=.seq #[]}} H2 (X.pn++aa)) [] m H' s'->Gr F2 H2 F' H'->F' s2.heap.objs.size=none->H' s2.heap.objs.size=some (.lst xs)->Reps X.K F' xs tot->compPost (model X.prog X.w) X.A X.xe use Qv (.ref s2.heap.objs.size) (s2.heap.objs.size+1) (.ok .next) s':=by
  intro s' H' F' xs m I' g' fa ha r';obtain⟨mm,dD,_⟩:=id I'.loc;have fC:H' (s2.heap.objs.size+1)=none:=I'.free;have IX:Inv X aa σ H' s':=I3.call' (s':=s') (ch:=s2.heap.objs.size::fp) I'.os I'.ab I'.hok I'.bare λb hb=>by
   rcases q_5.mp hb with w|w
   ·obtain⟨_,q1,_,q3,q4,q5⟩:=I2.fpOk (b:=b) (H':=H2) (by rw[w];exact Qz _) (by rw[w];exact b6);exact⟨q3,q1,q4,q5⟩
   ·obtain⟨⟨_,q1,_,q3,q4,q5⟩,_⟩:=fI b w;exact⟨q3,q1,q4,q5⟩
  exact jg s2.heap.objs.size (s2.heap.objs.size+1) s' H' F' xs mm (gr.hh.none b6) IX (I2.fpOk (H':=H') (le_succ _) fC) dD (gr.trans g') fa ha r'
 have gQ:tn 0 h1:=T.keep 0 _ _ dt (λb hb o e=>old b o (Heap.get?_push_of_some _ e));have L:=loop (compPost (model X.prog X.w) X.A X.xe use Qv (.ref s2.heap.objs.size) (s2.heap.objs.size+1)) fin;show codeAny (model X.prog X.w) X.A (.compStart (.ListComp elt [⟨tg,iter,ifs,0⟩] scope pos) 0 (.ref g9) (.ref s2.heap.objs.size) (compEnvC scope cl (s2.heap.push {cls:=.type "list",data:=.seq #[]}).objs.size X.env)) (compPost (model X.prog X.w) X.A X.xe use Qv (.ref s2.heap.objs.size) (s2.heap.push {cls:=.type "list",data:=.seq #[]}).objs.size) _;rw[hz];exact codeAny_compStart_list L (T.self _ 0 _ _ _ gQ L)
def AK{aa:List (Addr×Obj)}{σ:L2.St}{H:Hp}{s:Shared}{C:Addr}{h':Heap}(I:Inv X aa σ H s)(f:WG X aa H C)(sb:Heap.SameBut C s.heap h'):Inv X aa σ H {s with heap:=h'}:=by obtain⟨f0,f1,_,f3,f4,f5⟩:=f;exact I.turned (t':=s.toks) (λb o hb e=>(sb.2 b hb).trans e) f0 f1 f3 f4 f5
def Vc(hx:X.xe=λ_ _=>False)(hc:X.calm=true)(S:CompSc X scope n N' caps)(hO:∀i∈caps,i∉O)(hi:PI X tg iter (O7 X O it))(hg:Xx X scope N' λY=>PG Y tg (tG Y [] [] g))(ht:Xx X scope N' λY=>RG Y ifs (tDT Y [] c))(he:Xx X scope N' λY=>PE Y elt (tD Y [] el))(hs:∀x,foldedSetIterable iter X.env x=pure x:=by intro _;rfl):PE X (.ListComp elt [⟨tg,iter,ifs,0⟩] scope pos) (tO X O (JL n caps it g c el)):=by
 intro aa s σ H Q I⟨F0,F,en,d,rs,z,k⟩;obtain⟨ds,e1,e2⟩:=JB z;split at e2;case isFalse=>cases e2
 case isTrue hlen=>
 obtain⟨tot,e3,rfl⟩:=Z5 e2;rw[eval_ListComp];refine Fn hx hc S hO hi hg ht he hs (use:=none) I rs e1 hlen e3 λacc C s' H' F' xs m n1 I' fC hn gr fa ha r'=>?_;exact⟨m,hn,λh' sb=>⟨.ref acc,H',AK I' fC sb,rfl,k acc none xs tot F' H' gr n1 fa ha r' rfl trivial⟩⟩
def Kq(i:Nat){x:Str}{p fN:Pos}{OL:List Nat}{w:Bool}(hN:X.N.Nodup)(hx:X.xe=λ_ _=>False)(hc:X.calm=true)(S:CompSc X scope n N' caps)(hO:∀i∈caps,i∉O)(hi:PI X tg iter (O7 X O it))(hg:Xx X scope N' λY=>PG Y tg (tG Y [] [] g))(ht:Xx X scope N' λY=>RG Y ifs (tDT Y [] c))(he:Xx X scope N' λY=>PE Y elt (tD Y [] el))(kC:X.N[i]?=some x:=by rfl)(kW:XU X.env.scope x:=by first|exact Or.inl rfl|exact Or.inr rfl)(hf:X.fn x=true\/X.env.scope.names.lookup x=some .local:=by first|exact .inl rfl|exact .inr rfl)(dX:swapsWith (.ListComp elt [⟨tg,iter,ifs,0⟩] scope pos) (some (.Name x p)) fN.line X.env=pure true:=by rfl)(hs:∀x,foldedSetIterable iter X.env x=pure x:=by intro _;rfl)(hq:Qd i∉O:=by decide)(ip:i<1000:=by decide):PS X (.Assign [.Name x p] (.ListComp elt [⟨tg,iter,ifs,0⟩] scope pos) fN) (tS X O (ad i O) OL w (Q6 (JL n caps it g c el) (gS i))):=by
 intro aa s σ H Dn I⟨F0,F,en,fl,rs,z,k⟩;obtain⟨d,z1,z2⟩:=JB z;obtain⟨bj,z3,rfl⟩:=Z5 z2;cases z3;obtain⟨ds,e1,e2⟩:=JB z1;split at e2;case isFalse=>cases e2
 case isTrue hlen=>
 obtain⟨tot,e3,rfl⟩:=Z5 e2;rw[exec_Assign_Name_used _ _ _ _ dX];refine wpAny_bind (wpAny_standAt (wpAny_bind ?_));show wpAny _ X.A (do let _<-comprehension (.ListComp elt [⟨tg,iter,ifs,0⟩] scope pos) scope X.env _ (newList []) false (eval iter X.env) (some (assign (.Name x p) X.env))) _ _ s;refine wpAny_bind (QW (Fn hx hc S hO hi hg ht he hs (use:=some (assign (.Name x p) X.env)) (Qv:=λ_ s'=>SP X aa Dn .next s') I rs e1 hlen e3 λacc C s' H' F' xs m n1 I' fC hn gr fa ha r'=>?_) λ_ s' hq=>wpAny_pure (wpAny_pure hq));show wpAny _ X.A (assign (.Name x p) X.env (.ref acc)) _ _ s';refine wpAny_assign_Name (A9 I' hN kC kW (show RelV (.ref acc) (.ref acc)from rfl) (λgb mq cN=>?_) hf);obtain⟨a,sb,eR⟩:=cN;have lW:C≠a:=by
  obtain⟨_,f1,_,_,f4,_⟩:=fC;rcases eR with q|q;·rw[q];exact f1
  ·exact λzz=>f4 x a q zz.symm
 have bF:=rs.grow gr;refine⟨m,hn.sameBut sb lW,λh' j5=>⟨_,H',AK mq fC j5,k _ F' H' gr.ff (bF.putO' (kk:=none) i (rs.hh.none n1) fa ha trivial r' (λj d' hj q2 _ q=>?_) hq (λj z=>by unfold Qd at z;omega))⟩⟩;obtain⟨p',_,ys,es,h1,_,_,h4,_⟩:=rs.own j d' q2 hj;rw[h1]at q;cases q;rw[n1]at h4;cases h4
end
def Qdc(cps:Array Nat)(i k:Nat):((List.range k).map λm=>i+m).filterMap (cps[·]?)=(cps.toList.drop i).take k:=by
 rw[List.filterMap_map];induction k generalizing i with
 |zero=>simp|succ k ih=>
  rw[List.range_succ_eq_map,filterMap_cons,List.filterMap_map];have e0:((λx=>cps[x]?)∘λm=>i+m) 0=cps[i]?:=by simp
  have e1:((λx=>cps[x]?)∘λm=>i+m)∘Nat.succ=(λx=>cps[x]?)∘λm=>i+1+m:=by funext m;simp only[Function.comp];rw[show i+Nat.succ m=i+1+m by omega]
  rw[e0,e1,ih (i+1)];cases q:cps[i]? with
  |none=>
   have hz:cps.toList.length<=i:=by
    rcases VU i cps.size with h|h;·rw[Ir h]at q;cases q
    ·simpa using h
   rw[O3 hz,O3 (Nat.le_succ_of_le hz)];simp|some v=>
   have hi:i<cps.toList.length:=by
    rcases VU i cps.size with h|h;·simpa using h
    ·rw[Array.getElem?_eq_none h]at q;cases q
   have hv:cps.toList[i]=v:=by
    have:cps.toList[i]?=some v:=by simpa using q
    rw[Qf hi]at this;exact Option.some.inj this
   rw[O0 hi,hv,List.take_succ_cons]
def Fj(v:Option Int)(n d:Nat)(hd:d<=n):(match v with|none=>(d:Int)|some i=>max 0 (min (if i<0 then i+(n:Int)else i) (n:Int)))=((ZK n d v:Nat):Int):=by cases v with|none=>rfl|some i=>simp only[ZK];split<;>omega
def Qij(a b:Nat):sliceRange (a:Int) (b:Int) 1=(List.range (b-a)).map λm=>a+m:=by
 unfold sliceRange;simp only[show(1:Int)>0 by decide,if_true];have hc:(if(a:Int)<(b:Int)then((b:Int)-(a:Int)+1-1)/1 else 0).toNat=b-a:=by
  split;·rw[Int.ediv_one];omega
  ·omega
 rw[hc];apply List.map_congr_left;intro m _;omega
def QdE(lo hi:Option Int)(n:Nat):Builtin.Str.strSliceIndices lo hi 1 n=(List.range (ZK n n hi-ZK n 0 lo)).map λm=>ZK n 0 lo+m:=by rw[<-Qij];unfold Builtin.Str.strSliceIndices;simp only[show(1:Int)>0 by decide,if_true];have h1:=Fj lo n 0 (zero_le _);have h2:=Fj hi n n (Qz _);cases lo<;>cases hi<;>dsimp only at h1 h2⊢<;>rw[<-h1,<-h2]<;>rfl
def Qil(x:Str)(lo hi:Option Int):Txt.slice x lo hi=Zw x lo hi:=by
 unfold Txt.slice Zw J2;have hl:x.cps.toList.length=x.length:=by simp[Str.length]
 rw[QdE,Qo,length_range,hl];split
 ·rename_i h;have h':ZK x.length x.length hi-ZK x.length 0 lo=x.length:=by simpa using h
  have b1:ZK x.length x.length hi<=x.length:=by cases hi with|none=>exact Qz _|some v=>simp only[ZK];split<;>omega
  by_cases z:x.length=0
  ·have:x.cps.toList=[]:=List.length_eq_zero_iff.mp (by rw[hl];exact z);obtain⟨c⟩:=x;have hc:c=#[]:=by simpa using this
   subst hc;simp
  ·have b2:ZK x.length 0 lo=0:=by omega
   rw[h',b2,drop_zero,<-hl,VV]
 ·rw[Qdc]
section
variable{X:Cx}{O:List Nat}{e a b:Expr}{pos:Pos}
def QhD:V->Option Int->Option Int->Hp->VK->Prop:=λx lo hi H Q=>∃z,x=.str z/\z.length<=sizeLine/\Q (.str (Zw z lo hi)) H
def CO{v:Value}{o:Option Int}(p:IsPart v o):∃l:Option (Int×Tok),partValue l=v/\l.map (·.1)=o:=by cases p with|none=>exact⟨none,rfl,rfl⟩|int i t=>exact⟨some (i,t),rfl,rfl⟩
def Qif:SlR X QhD:=by
 intro aa s σ H x v vl vu lo hi sl Q I rx hs pl pu h;obtain⟨z,rfl,hz,q⟩:=h;obtain⟨t,rfl⟩:=(show∃t,v=Value.str z t from rx);obtain⟨l,rfl,rfl⟩:=CO pl;obtain⟨u,rfl,rfl⟩:=CO pu;refine⟨"str",_,F.slot_str_getitem.lookup,typeIs_str _ _ _,wpAny_getItem_str_slice (l:=l) (u:=u) (st:=none) hs rfl ?_⟩;have e:=Qil z (l.map (·.1)) (u.map (·.1));refine post_val_or_str ⟨?_,λt' k=>?_⟩;·exact Zk (Txt.slice_le z (l.map (·.1)) (u.map (·.1))) hz
 ·have:EP X aa σ Q (.str (Txt.slice z (l.map (·.1)) (u.map (·.1))) t') {s with toks:=k}:=by rw[e];exact⟨.str (Zw z _ _),H,I.tok k,⟨t',rfl⟩,q⟩
  exact this
def Vd{ev:Q7}{lo hi:Option Expr}{el eh:T7}{p2:Pos}(he:PE X e (tR X O ev))(hl:PO X lo (MX X O el))(hu:PO X hi (MX X O eh)):PE X (.Subscript e (.Slice lo hi none p2) pos) (tD X O (JM ev el eh)):=PE.imp (QgY (SlR.or Qif (SlR.or Qie Qig)) he hl hu) λσ H Q⟨F0,F,en,d,rs,w,k⟩=>by
  obtain⟨dx,e1,w1⟩:=JB w;obtain⟨l,u,e2,e3,e4⟩:=U2 w1;refine⟨F0,F,en,dx,rs,e1,λx F1 H1 g1 r1=>?_⟩;refine⟨F0,F1,en,l,rs.grow g1,e2,λF2 H2 g2=>?_⟩;refine⟨F0,F2,en,u,(rs.grow g1).grow g2,e3,λF3 H3 g3=>?_⟩;have dG:=(g1.trans g2).trans g3;have r3:=(r1.gr g2).gr g3;have s3:=g3.fh;cases dx with
  |str z=>
   simp only[ZD]at e4;split at e4
   ·rename_i hz;cases e4;exact .inl ⟨z,r3.str,by rw[Vj];exact hz,k _ F3 H3 dG (.str _)⟩
   ·cases e4|lst ds=>cases e4;obtain⟨p,xs,rfl,h,r⟩:=r3.lst s3;refine .inr (.inl ⟨p,xs,rfl,SqL.of h,λq hq=>?_⟩);have g:=Gr.new s3 hq (.lst (Wq xs l u));exact k _ _ _ (dG.trans g) (.lst Jz ((Kg r l u).mono g.ff))|scr ns=>
   cases e4;obtain⟨p,rfl,h⟩:=r3.scr;refine .inr (.inl ⟨p,_,rfl,s3.sqL h,λq hq=>?_⟩);have g:=Gr.new s3 hq (.lst (Wq (ns.map V.int) l u));have r:Reps X.K F3 (Wq (ns.map V.int) l u) (J2 (ns.map D.int) l u):=Kg (Reps.ints ns) l u;have hc:J2 (ns.map D.int) l u=(J2 ns l u).map D.int:=by unfold J2;rw[Qo,<-map_drop,<-List.map_take]
   rw[hc]at r;exact k _ _ _ (dG.trans g) (.lst Jz (r.mono g.ff))|tup ds=>
   have e5:(if ZK ds.length 0 l=0/\ZK ds.length ds.length u=ds.length then none else some (D.tup (J2 ds l u)))=some d:=e4;split at e5;·cases e5
   ·rename_i hw;cases e5;obtain⟨p,xs,rfl,h,r⟩:=r3.tup;refine .inr (.inr ⟨p,xs,rfl,SqT.of (s3 _ _ h),?_,λq hq=>?_⟩);·rw[r.length];exact hw
    ·have g:=Gr.new s3 hq (.tup (Wq xs l u));exact k _ _ _ (dG.trans g) (.tup Jz ((Kg r l u).mono g.ff))|_=>cases e4
def QhF:V->List V->Hp->VK->Prop:=λx xs H Q=>∃z,x=.str z/\xs=[]/\z.length<=sizeLine/\Q (.str (Txt.strip z)) H
def QeN:OE X "str.strip" QhF:=by intro aa s σ H x xs v us Q I rx rs h;obtain⟨z,rfl,rfl,hz,q⟩:=h;obtain⟨t,rfl⟩:=show∃t,v=Value.str z t from rx;cases Vals.zero rs;exact SCL.strip (λt' k _=>⟨.str (Txt.strip z),H,I.tok k,⟨t',rfl⟩,q⟩) hz
def E7{ev:Q7}{apos:Pos}(ha:PE X a (tR X O ev))(bM:attributeBase a "strip" X.env (eval a X.env)=eval a X.env:=by rfl)(bL:(apos.endLine==pos.line)=true:=by rfl):PE X (.Call (.Attribute a "strip" apos) [] [] pos) (tD X O (QB D.strip ev)):=PE.imp (QgM PySem.F.plainAttrs_str PySem.F.slot_str_strip PySem.F.type_str_strip QeN ha bM bL) λσ H Q⟨F0,F,en,d,rs,w,k⟩=>by
  obtain⟨dx,e1,e2⟩:=JB w;refine⟨F0,F,en,dx,rs,e1,λv F1 H1 g1 r1=>?_⟩;cases dx with
  |str z=>
   simp only[D.strip]at e2;split at e2
   ·rename_i hz;cases e2;rw[r1.str];exact⟨rfl,z,rfl,rfl,by rw[Vj];exact hz,k _ F1 H1 g1 (.str _)⟩
   ·cases e2|_=>cases e2
theorem Es(c:Array Nat):∀(k:Nat)(acc:Array Nat),(List.replicate k c).foldl (·++·) acc=(acc.toList++(List.replicate k c.toList).flatten).toArray|0,acc=>by simp|k+1,acc=>by rw[UT,YA,Es c k,UT,Tq];simp
def QeP(x:Str)(n:Int):Txt.mul x n=Y0 x n:=by
 unfold Txt.mul Y0;split;·rename_i h;rw[show n.toNat=0 by omega];rfl
 ·split
  ·rename_i h1 h2;by_cases z:n=1
   ·subst z;obtain⟨c⟩:=x;simp
   ·have hx:x.length=0:=by
     rcases Bool.or_eq_true _ _|>.mp h2 with w|w;·exact absurd (eq_of_beq w) z
     ·exact eq_of_beq w
    obtain⟨c⟩:=x;have hc:c=#[]:=by simpa[Str.length]using hx
    subst hc;simp
  ·rw[Es];simp
def Iy:R2:=λx y H Q=>∃z n,x=.str z/\y=.int n/\-1073741824<n/\n<1073741824/\z.length*n.toNat<=lI/\Q (.str (Y0 z n)) H
def Qgv:OpR X (binaryOp .Mult) Iy:=by
 intro aa s σ H x y v u Q I rx ry h;obtain⟨z,n,rfl,rfl,h1,h2,h3,q⟩:=h;obtain⟨t,rfl⟩:=show∃t,v=Value.str z t from rx;obtain⟨t2,rfl⟩:=show∃t,u=Value.int n t from ry;have ok:MulOk z n:=by
  refine⟨? _,λhn hc=>? _,λhn hc=>? _⟩;·rw[JU (by omega),JU (by omega)];rfl
  ·have hz:z.length<=lI:=by
    have:1<=n.toNat:=by omega
    exact Zk (Nat.le_mul_of_pos_right _ this) h3
   have:(9223372036854775807:Int)/n≥8589934591:=by apply Int.le_ediv_of_mul_le (by omega);omega
   have e:(2:Int)^63-1=9223372036854775807:=by decide
   rw[e];unfold lI at hz;omega
  ·have h4:z.length*n.toNat<=sizeLine:=by rw[Vj];exact h3
   unfold Builtin.Str.tooLong;simpa using h4
 exact SB.mul ok λt' k=>by rw[QeP];exact⟨.str (Y0 z n),H,I.tok k,⟨t',rfl⟩,q⟩
def VG:OpR X (binaryOp .Mult) (λx y H Q=>(rI CMul λi j=>.int (i*j)) x y H Q\/(Iy x y H Q\/Iz x y H Q))/\Z7 X (λx y H Q=>(rI CMul λi j=>.int (i*j)) x y H Q\/(Iy x y H Q\/Iz x y H Q)) D.mulA:=by
 refine⟨OpR.or CJ (OpR.or Qgv Qgz),λF H x y dx dy d Q s rx ry e k=>?_⟩;cases dx<;>cases dy<;>try(simp[D.mulA]at e;done)
 case int.int i j=>exact .inl (Qgu.2 F H x y (.int i) (.int j) d Q s rx ry e k)
 case str.int z n=>
  simp only[D.mulA]at e;split at e
  ·rename_i h;cases e;exact .inr (.inl ⟨z,n,rx.str,ry.int,h.1,h.2.1,h.2.2,k _ F H (.refl s) (.str _)⟩)
  ·cases e
 case lst.int ds n=>
  simp only[D.mulA]at e;split at e
  ·rename_i h;cases e;obtain⟨p,xs,rfl,hp,r⟩:=rx.lst s;refine .inr (.inr ⟨p,n,xs,rfl,ry.int,hp,by omega,by omega,by rw[Vj,r.length];exact h.2.2,λq hq=>?_⟩);have g:=Gr.new s hq (.lst (List.replicate n.toNat xs).flatten);have rr:Reps X.K F (List.replicate n.toNat xs).flatten (List.replicate n.toNat ds).flatten:=by
    generalize n.toNat=m;induction m with
    |zero=>exact .nil|succ m ih=>rw[UT,UT,Tq,Tq];exact r.append ih
   exact k _ _ _ g (.lst Jz (rr.mono g.ff))
  ·cases e
end
section
variable{X:Cx}{O:List Nat}{e a b:Expr}{pos:Pos}
def Er{K:Fg}{F H:Hp}{x:V}{d:D}(r:RdD K F H x d)(h:Zq d=true):Xg x=true/\Rep K F x d:=by cases d with|non=>rw[r.non];exact⟨rfl,.non⟩|bl b=>rw[r.bl];exact⟨rfl,.bl b⟩|int i=>rw[r.int];exact⟨rfl,.int i⟩|str z=>rw[r.str];exact⟨rfl,.str z⟩|_=>cases h
def Qc1{K:Fg}{F:Hp}{x y:V}{dx dy:D}(rx:Rep K F x dx)(ry:Rep K F y dy)(hx:Zq dx=true)(hy:Zq dy=true):VD y x=(D.eq dy dx==some true):=by cases rx with
 |non=>cases ry with
  |non=>rfl|bl q=>simp[D.eq,D.oth,VD]|int q=>simp[D.eq,D.oth,VD]|str q=>simp[D.eq,D.oth,VD]|_=>cases hy
 |bl p=>cases ry with
  |non=>simp[D.eq,D.oth,VD]|bl q=>cases p<;>cases q<;>rfl|int q=>
   have h:D.eq (.int q) (.bl p)=some (decide (q=XX p)):=by rw[D.eq]
   rw[h];show(q==if p then 1 else 0)=(some (decide (q=XX p))==some true);by_cases z:q=XX p;·rw[Z6 z,z];unfold XX;simp
   ·rw[JU z];have:(q==if p then 1 else 0)=false:=by apply beq_eq_false_iff_ne.mpr;intro w;exact z w
    rw[this];rfl|str q=>simp[D.eq,D.oth,VD]|_=>cases hy
 |int p=>cases ry with
  |non=>simp[D.eq,D.oth,VD]|bl q=>
   have h:D.eq (.bl q) (.int p)=some (decide (XX q=p)):=by rw[D.eq]
   rw[h];show((if q then 1 else 0)==p)=(some (decide (XX q=p))==some true);by_cases z:XX q=p;·rw[Z6 z,<-z];unfold XX;simp
   ·rw[JU z];have:((if q then 1 else 0)==p)=false:=by
     apply beq_eq_false_iff_ne.mpr;intro w;exact z w
    rw[this];rfl|int q=>
   rw[J9];show(q==p)=(some (decide (q=p))==some true);by_cases z:q=p;·rw[Z6 z,z,beq_self_eq_true];rfl
   ·rw[JU z,beq_eq_false_iff_ne.mpr z];rfl|str q=>simp[D.eq,D.oth,VD]|_=>cases hy
 |str p=>cases ry with
  |non=>simp[D.eq,D.oth,VD]|bl q=>simp[D.eq,D.oth,VD]|int q=>simp[D.eq,D.oth,VD]|str q=>
   rw[JC];show(q==p)=(some (decide (q=p))==some true);by_cases z:q=p;·rw[Z6 z,z,beq_self_eq_true];rfl
   ·rw[JU z,beq_eq_false_iff_ne.mpr z];rfl|_=>cases hy
 |_=>cases hx
theorem IB{K:Fg}{F:Hp}{x:V}{dx:D}(rx:Rep K F x dx)(hx:Zq dx=true):∀{ys:List V}{ds:List D},Reps K F ys ds->ds.all Zq=true->inV x ys=inD dx ds/\ys.all Xg=true
 |_,_,.nil,_=>⟨rfl,rfl⟩|_,_,.cons h r,hd=>by
  rw[all_cons,Xo]at hd;obtain⟨i1,i2⟩:=IB rx hx r hd.2;refine⟨?_,?_⟩
  ·unfold inV at i1⊢;rw[any_cons,i1,Qc1 rx h hx hd.1];rfl
  ·rw[all_cons,i2,(Er (H:=F) (.inl h) hd.1).1];rfl
def CI{neg:Bool}{op:CmpOp}{g:D->D->Option D}(hr:OpR X (compareOp op) (UX X.K neg))(h1:∀dx dy d,g dx dy=some d->∃ys,(dy=.tup ys\/dy=.lst ys)/\Zq dx=true/\ys.all Zq=true/\d=.bl (if neg then !inD dx ys else inD dx ys)):OpR X (compareOp op) (UX X.K neg)/\Z7 X (UX X.K neg) g:=by
 refine⟨hr,λF H x y dx dy d Q s rx ry e k=>?_⟩;obtain⟨ys,hy,fx,fy,rfl⟩:=h1 dx dy d e;obtain⟨fv,rp⟩:=Er rx fx;rcases hy with rfl|rfl;·obtain⟨p,xs,rfl,hp,r⟩:=ry.tup;obtain⟨i1,i2⟩:=IB rp fx r fy;refine⟨p,xs,rfl,.inr (SqT.of (s _ _ hp)),fv,i2,?_⟩;rw[i1];exact k _ F H (.refl s) (.bl _)
 ·obtain⟨p,xs,rfl,hp,r⟩:=ry.lst s;obtain⟨i1,i2⟩:=IB rp fx r fy;refine⟨p,xs,rfl,.inl (SqL.of hp),fv,i2,?_⟩;rw[i1];exact k _ F H (.refl s) (.bl _)
def NX:OpR X (compareOp .In) (UX X.K false)/\Z7 X (UX X.K false) D.inO:=CI Qgo λdx dy d e=>by
 unfold D.inO at e;split at e
 ·split at e;·rename_i ys h;cases e;exact⟨ys,.inl rfl,h.1,h.2,rfl⟩
  ·cases e
 ·split at e;·rename_i ys h;cases e;exact⟨ys,.inr rfl,h.1,h.2,rfl⟩
  ·cases e
 ·cases e
def CK:OpR X (compareOp .NotIn) (UX X.K true)/\Z7 X (UX X.K true) D.notInO:=CI Qgx λdx dy d e=>by
 unfold D.notInO at e;split at e
 ·split at e;·rename_i ys h;cases e;exact⟨ys,.inl rfl,h.1,h.2,rfl⟩
  ·cases e
 ·split at e;·rename_i ys h;cases e;exact⟨ys,.inr rfl,h.1,h.2,rfl⟩
  ·cases e
 ·cases e
def Ag{vs:List V}{us:List Value}(r:Vals vs us){i:Nat}{u:Value}(h:us[i]?=some u):∃v,vs[i]?=some v/\RelV v u:=by
 have hl:=r.length;rcases VU i vs.length with hi|hi
 ·obtain⟨u',h1,h2⟩:=r.get (Qf hi);rw[h]at h1;cases h1;exact⟨_,Qf hi,h2⟩
 ·rw[XJ (by omega)]at h;cases h
def DA{ns:List Int}{us:List Value}(r:Vals (ns.map V.int) us){i:Nat}{u:Value}(h:us.toArray[i]?=some u):∃t,u=Value.int (ns.getD i 0) t:=by obtain⟨v,h1,h2⟩:=Ag r (by simpa using h);rw[Yz]at h1;cases q:ns[i]? with|none=>rw[q]at h1;cases h1|some n=>rw[q]at h1;cases h1;obtain⟨t,rfl⟩:=show∃t,u=Value.int n t from h2;exact⟨t,by rw[Yb,q];rfl⟩
def Hx{aa:List (Addr×Obj)}{σ:L2.St}{H:Hp}{s:Shared}{l:Addr}{us:List Value}{A:Around}{E:Value->Shared->Prop}{Q:Value->Shared->Prop}(I:Inv X aa σ H s)(hh:A.handled=none)(hp:PlainL s.heap l us.toArray)(h:∀s₂:Shared,Walks X.prog X.w A s.heap.objs.size [s.heap.objs.size,l] [s.heap.objs.size] us.toArray.size (λi v=>us.toArray[i]?=some v) (λi h=>h.IsListIter s.heap.objs.size l i/\h.IsList l us.toArray)->(s₂.heap.IsListIter s.heap.objs.size l 0/\s₂.heap.IsList l us.toArray)->(∀b∈[s.heap.objs.size,l],b<s₂.heap.objs.size)->(∀(h':Heap)(tk:Nat),(∀b o,b∉[s.heap.objs.size]->s₂.heap.get? b=some o->h'.get? b=some o)->Inv X aa σ H {s₂ with heap:=h',toks:=tk})->Q (.ref s.heap.objs.size) s₂):wpAny (model X.prog X.w) A (pyIter (.ref l)) Q E s:=by
 have bZ:l<s.heap.objs.size:=by obtain⟨_,_,e,_⟩:=hp;exact Heap.lt_size e
 refine wpAny_pyIter_list hp.isList (h _ (Walks.list hh _ l (Y9 bZ) us.toArray) ⟨⟨_,Heap.get?_push_size _ rfl,rfl,rfl⟩,hp.isList.push _⟩ (λb hb=>?_) λh' tk hk=>?_)
 ·show b<(s.heap.push _).objs.size;rw[Heap.size_push];rcases q_5.mp hb with rfl|hb;·exact Nat.lt_succ_self _
  ·rw[q_2.mp hb];exact lt_succ_of_lt bZ
 ·exact I.kept (t':=tk) λb u e=>hk b u (λz=>by rw[q_2.mp z]at e;exact absurd (Heap.lt_size e) (lt_irrefl _)) (Heap.get?_push_of_some _ e)
def QaS(hc:X.calm=true):CallR X (.builtin "max") (λxs H Q=>∃(l:Addr)(n:Int)(ns:List Int),xs=[.ref l]/\SqL X.K H l ((n::ns).map V.int)/\Q (.int (Jx n ns)) H):=by
 intro aa s σ H xs us Q I r⟨l,n,ns,hx,hq,q⟩;subst hx;obtain⟨u,rfl,rx⟩:=Ub r;cases rx;obtain⟨its,rv,pl,hz⟩:=I.list hq;refine call_max_walk (Hx I (I.ok.hd hc) pl λs₂ W st dY back=>?_);have cJ:∀i v,its.toArray[i]?=some v->∃t,v=Value.int ((n::ns).getD i 0) t:=λi v h=>DA rv h;have hl:=rv.length;rw[Qo]at hl;refine⟨_,_,_,_,_,_,_,rfl,W,st,dY,?_,CmpOf.ints_gt (λi=>(n::ns).getD i 0) cJ,λv h' tk hP hk=>?_⟩;·rw[Jp,<-hl];exact Nat.succ_pos _
 ·obtain⟨t,rfl⟩:=cJ _ _ hP;obtain⟨b1,b2⟩:=argBest_gt (λi=>(n::ns).getD i 0) (its.toArray.size-1);obtain⟨m1,m2,m3⟩:=PJ ns n;generalize argBest (λi j=>decide ((n::ns).getD i 0>(n::ns).getD j 0)) (its.toArray.size-1)=k at b1 b2⊢;have hsz:its.toArray.size=ns.length+1:=by rw[Jp,<-hl];rfl
  have e:(n::ns).getD k 0=Jx n ns:=by
   apply le_antisymm;·cases k with|zero=>exact m2|succ k=>
     have eP:k<ns.length:=by omega
     show ns.getD k 0<=_;rw[Yb,Qf eP];exact m3 _ (YB eP)
   ·rcases m1 with w|w;·rw[w];exact b2 0 (zero_le _)
    ·obtain⟨j,hj,e⟩:=Ts w;have:=b2 (j+1) (by omega);rw[show(n::ns).getD (j+1) 0=ns.getD j 0 from rfl,Yb,Qf hj]at this;rw[<-e];exact this
  rw[e];exact⟨.int (Jx n ns),H,back h' tk hk,⟨t,rfl⟩,q⟩
def RQ(hc:X.calm=true):CallR X (.builtin "max") (λxs H Q=>∃(l:Addr)(n:Int)(ns:List Int),xs=[.ref l]/\SqL X.K H l ((n::ns).map V.int)/\Q (.int (Jx n ns)) H)/\C1 X (λxs H Q=>∃(l:Addr)(n:Int)(ns:List Int),xs=[.ref l]/\SqL X.K H l ((n::ns).map V.int)/\Q (.int (Jx n ns)) H) D.maxL:=by
 refine⟨QaS hc,λF H x dx d Q s rx e k=>?_⟩;cases dx with
 |lst ds=>
  simp only[D.maxL]at e;split at e
  ·rename_i n ns q;cases e;obtain⟨l,xs,rfl,h,r⟩:=rx.lst s;have:=r.intsOf q;subst this;exact⟨l,n,ns,rfl,SqL.of h,k _ F H (.refl s) (.int _)⟩
  ·cases e|_=>cases e
theorem CZ(ns:List Int):∀k,k<=ns.length->preSum (λi=>ns.getD i 0) k=(ns.take k).sum|0,_=>by simp[preSum]|k+1,h=>by rw[preSum,CZ ns k (by omega),List.take_succ,Qf (by omega),List.sum_append];simp[Qf (show k<ns.length by omega)]
def QaV(hc:X.calm=true):CallR X (.builtin "sum") λxs H Q=>∃(l:Addr)(ns:List Int),xs=[.ref l]/\SqL X.K H l (ns.map V.int)/\Q (.int ns.sum) H:=by
 intro aa s σ H xs us Q I r⟨l,ns,hx,hq,q⟩;subst hx;obtain⟨u,rfl,rx⟩:=Ub r;cases rx;obtain⟨its,rv,pl,hz⟩:=I.list hq;refine call_sum_walkAnyS (Hx I (I.ok.hd hc) pl λs₂ W st dY back=>? _);have cJ:∀i v,its.toArray[i]?=some v->∃t,v=Value.int (ns.getD i 0) t:=λi v h=>DA rv h;have hl:=rv.length;rw[Qo]at hl;refine⟨_,_,_,_,_,_,_,λi=>ns.getD i 0,rfl,W.toS,st,dY,cJ,λs' t' mv=>? _⟩;have e:preSum (λi=>ns.getD i 0) its.toArray.size=ns.sum:=by rw[Jp,<-hl,CZ ns ns.length (Qz _),VV]
 rw[e];have I':=back s'.heap s'.toks mv.heap;have es:({s₂ with heap:=s'.heap,toks:=s'.toks}:Shared)=s':=by
  obtain⟨h',g',d',t',o'⟩:=s';have m1:g'=s₂.gens:=mv.gens;have m2:d'=s₂.drawn:=mv.drawn;have m3:o'=s₂.os:=mv.os;subst m1 m2 m3;rfl
 rw[es]at I';exact⟨.int ns.sum,H,I',⟨t',rfl⟩,q⟩
def QaU(hc:X.calm=true):CallR X (.builtin "sum") (λxs H Q=>∃(l:Addr)(ns:List Int),xs=[.ref l]/\SqL X.K H l (ns.map V.int)/\Q (.int ns.sum) H)/\C1 X (λxs H Q=>∃(l:Addr)(ns:List Int),xs=[.ref l]/\SqL X.K H l (ns.map V.int)/\Q (.int ns.sum) H) D.sumL:=by refine⟨QaV hc,λF H x dx d Q s rx e k=>?_⟩;cases dx with|lst ds=>obtain⟨ns,q,rfl⟩:=Z5 e;obtain⟨l,xs,rfl,h,r⟩:=rx.lst s;have:=r.intsOf q;subst this;exact⟨l,ns,rfl,SqL.of h,k _ F H (.refl s) (.int _)⟩|_=>cases e
theorem Fc{K:Fg}{F:Hp}:∀{vs:List V}{ds:List D}{bs:List Bool},Reps K F vs ds->U3 ds=some bs->vs=bs.map V.bl
 |_,_,bs,.nil,e=>by cases e;rfl|_,_,bs,.cons (d:=d) h r,e=>by cases h with
  |bl i=>simp only[U3]at e;cases q:U3 _ with
   |none=>rw[q]at e;cases e|some ms=>
    rw[q]at e;cases e;rw[Fc r q];rfl
  |_=>simp[U3]at e
theorem FG(bs:List Bool):∀k,k<=bs.length->(List.range k).any (λi=>bs.getD i false)=(bs.take k).any id|0,_=>by simp|k+1,h=>by rw[List.range_succ,List.any_append,FG bs k (by omega),List.take_succ,Qf (by omega),List.any_append];simp[Qf (show k<bs.length by omega)]
def QaM(hc:X.calm=true):CallR X (.builtin "any") λxs H Q=>∃(l:Addr)(bs:List Bool),xs=[.ref l]/\SqL X.K H l (bs.map V.bl)/\Q (.bl (bs.any id)) H:=by
 intro aa s σ H xs us Q I r⟨l,bs,hx,hq,q⟩;subst hx;obtain⟨u,rfl,rx⟩:=Ub r;cases rx;obtain⟨its,rv,pl,hz⟩:=I.list hq;refine call_any_walk (Hx I (I.ok.hd hc) pl λs₂ W st dY back=>? _);have cJ:∀i v,its.toArray[i]?=some v->v=Value.bool (bs.getD i false):=λi v h=>by
  obtain⟨w,h1,h2⟩:=Ag rv (by simpa using h);rw[Yz]at h1;cases q:bs[i]? with
  |none=>rw[q]at h1;cases h1|some n=>
   rw[q]at h1;cases h1;rw[show v=Value.bool n from h2,Yb,q];rfl
 have hl:=rv.length;rw[Qo]at hl;refine⟨_,_,_,_,_,_,λi=>bs.getD i false,rfl,W,st,λi v s3 Q3 E3 hP hQ=>? _,λh' tk hk=>? _⟩;·rw[cJ i v hP];exact wpAny_truthy_bool hQ
 ·have e:(List.range its.toArray.size).any (λi=>bs.getD i false)=bs.any id:=by rw[Jp,<-hl,FG bs bs.length (Qz _),VV]
  rw[e];exact⟨.bl (bs.any id),H,back h' tk hk,rfl,q⟩
def QaL(hc:X.calm=true):CallR X (.builtin "any") (λxs H Q=>∃(l:Addr)(bs:List Bool),xs=[.ref l]/\SqL X.K H l (bs.map V.bl)/\Q (.bl (bs.any id)) H)/\C1 X (λxs H Q=>∃(l:Addr)(bs:List Bool),xs=[.ref l]/\SqL X.K H l (bs.map V.bl)/\Q (.bl (bs.any id)) H) D.anyL:=by refine⟨QaM hc,λF H x dx d Q s rx e k=>?_⟩;cases dx with|lst ds=>obtain⟨bs,q,rfl⟩:=Z5 e;obtain⟨l,xs,rfl,h,r⟩:=rx.lst s;have:=Fc r q;subst this;exact⟨l,bs,rfl,SqL.of h,k _ F H (.refl s) (.bl _)⟩|_=>cases e
end
def Ui{X:Cx}{O O' OL:List Nat}{w:Bool}{st:Stmt}:PS X st (tS X O O' OL w X6):=λ_ _ _ _ _ _⟨_,_,_,_,_,z,_⟩=>by cases z
noncomputable def YF(osc:Scope)(oN:List Str)(scope:Scope)(n:Nat)(N':List Str)(caps:List Nat):Bool:=scope.kind==.function&&scope.names.all (λy=>y.2 !=.cell)&&scope.names.all (λx=>x.2 !=.local||scope.names.lookup x.1==some .local)&&scope.names.all (λx=>x.2 !=.free||osc.names.lookup x.1==some .cell||osc.names.lookup x.1==some .free)&&N'.length==n+caps.length&&(List.range caps.length).all (λj=>match caps[j]?,N'[n+j]? with|some i,some x=>oN[i]?==some x&&scope.names.lookup x==some .free|_,_=>false)&&decide N'.Nodup
def Yh{X:Cx}{scope:Scope}{n:Nat}{N':List Str}{caps:List Nat}(h:YF X.env.scope X.N scope n N' caps=true):CompSc X scope n N' caps:=by
 unfold YF at h;simp only[Xo,decide_eq_true_eq,beq_iff_eq,List.all_eq_true]at h;obtain⟨⟨⟨⟨⟨⟨h1,h2⟩,h3⟩,h4⟩,h5⟩,h6⟩,h7⟩:=h;refine⟨h1,λy hy z=>?_,λx hx z=>?_,λx hx z=>?_,h5,λj i hj=>?_,h7⟩;·have:=h2 y hy;rw[z]at this;simp at this
 ·have:=h3 x hx;rw[z]at this;simpa using this
 ·have:=h4 x hx;rw[z]at this;have q:List.lookup x.1 X.env.scope.names=some NameKind.cell\/List.lookup x.1 X.env.scope.names=some NameKind.free:=by simpa using this
  exact q
 ·have hl:j<caps.length:=by
   rcases VU j caps.length with w|w;·exact w
   ·rw[XJ w]at hj;cases hj
  have:=h6 j (List.mem_range.mpr hl);rw[hj]at this;cases q:N'[n+j]? with|none=>rw[q]at this;cases this|some x=>rw[q]at this;simp only[Xo,beq_iff_eq]at this;exact⟨x,rfl,this.1,this.2⟩
section
variable{es:List Expr}{env:Env}
def Qh0{a b c}:starEach (.Constant a b c::es) env=(false,eval (.Constant a b c) env)::starEach es env:=rfl
def WB{a b}:starEach (.Name a b::es) env=(false,eval (.Name a b) env)::starEach es env:=rfl
def QhY{a b c d}:starEach (.BinOp a b c d::es) env=(false,eval (.BinOp a b c d) env)::starEach es env:=rfl
def QhZ{a b c d}:starEach (.Compare a b c d::es) env=(false,eval (.Compare a b c d) env)::starEach es env:=rfl
def HW{a b c d}:starEach (.Call a b c d::es) env=(false,eval (.Call a b c d) env)::starEach es env:=rfl
def A0{a b c}:starEach (.Subscript a b c::es) env=(false,eval (.Subscript a b c) env)::starEach es env:=rfl
def Qh1{a b}:starEach (.List a b::es) env=(false,eval (.List a b) env)::starEach es env:=rfl
def Qh3{a b c}:starEach (.Tuple a b c::es) env=(false,eval (.Tuple a b c) env)::starEach es env:=rfl
def Qh2{a b c d}:starEach (.ListComp a b c d::es) env=(false,eval (.ListComp a b c d) env)::starEach es env:=rfl
end
section
variable{X:Cx}{O:List Nat}{es:List Expr}{l:ZC}{ea:Q7}
def Dk{a b c}(ha:PE X (.Constant a b c) (tD X O ea))(hr:PA X es (tL X O l)):PA X (.Constant a b c::es) (tL X O (lC ea l)):=U9 ha hr Qh0
def E4{a b}(ha:PE X (.Name a b) (tD X O ea))(hr:PA X es (tL X O l)):PA X (.Name a b::es) (tL X O (lC ea l)):=U9 ha hr WB
def Db{a b c d}(ha:PE X (.BinOp a b c d) (tD X O ea))(hr:PA X es (tL X O l)):PA X (.BinOp a b c d::es) (tL X O (lC ea l)):=U9 ha hr QhY
def Qcs{a b c d}(ha:PE X (.Compare a b c d) (tD X O ea))(hr:PA X es (tL X O l)):PA X (.Compare a b c d::es) (tL X O (lC ea l)):=U9 ha hr QhZ
def Dl{a b c d}(ha:PE X (.Call a b c d) (tD X O ea))(hr:PA X es (tL X O l)):PA X (.Call a b c d::es) (tL X O (lC ea l)):=U9 ha hr HW
def Du{a b c}(ha:PE X (.Subscript a b c) (tD X O ea))(hr:PA X es (tL X O l)):PA X (.Subscript a b c::es) (tL X O (lC ea l)):=U9 ha hr A0
def U8{a b}(ha:PE X (.List a b) (tD X O ea))(hr:PA X es (tL X O l)):PA X (.List a b::es) (tL X O (lC ea l)):=U9 ha hr Qh1
def Dt{a b c}(ha:PE X (.Tuple a b c) (tD X O ea))(hr:PA X es (tL X O l)):PA X (.Tuple a b c::es) (tL X O (lC ea l)):=U9 ha hr Qh3
def OZ{a b c d}(ha:PE X (.ListComp a b c d) (tD X O ea))(hr:PA X es (tL X O l)):PA X (.ListComp a b c d::es) (tL X O (lC ea l)):=U9 ha hr Qh2
end
end Wd
namespace Wd
def P9{n:Nat}{l:ZC}(h:∀(e:QG)(d:List D),l e=some d->d.length<=n)(hn:n<=lI):∀(e:QG)(d:List D),l e=some d->d.length<=lI:=λe d w=>Zk (h e d w) hn
def YK:∀(e:QG)(d:List D),lN e=some d->d.length<=lI:=P9 (n:=0) P8 (by decide)
def Vg{p:Q7}:∀(e:QG)(d:List D),(lC p lN) e=some d->d.length<=lI:=P9 (n:=1) (Xk P8) (by decide)
def YL{p q:Q7}:∀(e:QG)(d:List D),(lC p (lC q lN)) e=some d->d.length<=lI:=P9 (n:=2) (Xk (Xk P8)) (by decide)
def Yr{p q r:Q7}:∀(e:QG)(d:List D),(lC p (lC q (lC r lN))) e=some d->d.length<=lI:=P9 (n:=3) (Xk (Xk (Xk P8))) (by decide)
def X1{p q r t:Q7}:∀(e:QG)(d:List D),(lC p (lC q (lC r (lC t lN)))) e=some d->d.length<=lI:=P9 (n:=4) (Xk (Xk (Xk (Xk P8)))) (by decide)
open PySem PySem.Spec PyProof.Rows L2
end Wd
namespace Wd
open PySem PySem.Spec PyProof.Rows L2
def _root_.L2.Room.units1{k:Nat}{A:Around}(r:Room k A):A.units+1<cLine:=by have:=r.units;omega
theorem Hw{K:Fg}{F:Hp}(k:Kd):∀{ks:List Kd}{xs:List V}{ds:List D},ks.length=xs.length->Reps K F xs ds->(XD ks ds k=none/\Zu (ks.zip xs) k=none/\hasK k ks=false)\/∃d v,XD ks ds k=some d/\Zu (ks.zip xs) k=some v/\Rep K F v d/\hasK k ks=true
 |[],xs,ds,_,_=>.inl ⟨by cases ds<;>rfl,rfl,rfl⟩|c::ks,[],_,h,_=>by cases h|c::ks,x::xs,_,h,.cons (d:=d) (ds:=ds) hx r=>by
  by_cases z:c=k
  ·right;exact⟨d,x,by show(if c=k then some d else _)=_;rw[if_pos z],O9 (p:=(c,x)) z,hx,by simp[hasK,z]⟩
  ·have e1:XD (c::ks) (d::ds) k=XD ks ds k:=by show(if c=k then some d else _)=_;rw[if_neg z]
   have e2:Zu ((c::ks).zip (x::xs)) k=Zu (ks.zip xs) k:=R8 (p:=(c,x)) z;rw[e1,e2];rcases Hw k (by simpa using h) r with⟨a,b,c'⟩|⟨d',v',a,b,c',m⟩;·refine .inl ⟨a,b,?_⟩;show(decide (c=k)||hasK k ks)=false;rw[c',JU z];rfl
   ·refine .inr ⟨d',v',a,b,c',?_⟩;show(decide (c=k)||hasK k ks)=true;rw[m,Bool.or_true]
theorem FH(k:Kd):∀{ks:List Kd}{xs:List V},ks.length=xs.length->((ks.zip xs).any λkv=>decide (kv.1=k))=hasK k ks|[],_,_=>by simp[hasK]|c::ks,[],h=>by cases h|c::ks,x::xs,h=>by rw[Uy,any_cons,FH k (by simpa using h)];rfl
noncomputable def Tv:List Kd->List V->Kd->V->List V|c::ks,x::xs,k,v=>(if c=k then v else x)::Tv ks xs k v|_,_,_,_=>[]
theorem Cu{K:Fg}{F:Hp}(k:Kd){v:V}{d:D}(hv:Rep K F v d):∀{ks:List Kd}{xs:List V}{ds:List D},ks.length=xs.length->Reps K F xs ds->(ks.zip xs).map (λkv=>if kv.1=k then(kv.1,v)else kv)=ks.zip (Tv ks xs k v)/\ks.length=(Tv ks xs k v).length/\Reps K F (Tv ks xs k v) (OY ks ds k d)
 |[],xs,ds,_,_=>⟨by simp,rfl,by cases ds<;>exact .nil⟩|c::ks,[],_,h,_=>by cases h|c::ks,x::xs,_,h,.cons (d:=d0) (ds:=ds) hx r=>by
  obtain⟨a,b,c'⟩:=Cu k hv (ks:=ks) (xs:=xs) (by simpa using h) r;refine⟨?_,?_,?_⟩
  ·show(if c=k then(c,v)else(c,x))::(ks.zip xs).map _=(c,if c=k then v else x)::ks.zip (Tv ks xs k v);rw[a];by_cases z:c=k;·rw[if_pos z,if_pos z]
   ·rw[if_neg z,if_neg z]
  ·show ks.length+1=(Tv ks xs k v).length+1;rw[b]
  ·refine .cons ?_ c';by_cases z:c=k;·rw[if_pos z,if_pos z];exact hv
   ·rw[if_neg z,if_neg z];exact hx
def Reps.snoc{K:Fg}{F:Hp}{xs:List V}{ds:List D}{v:V}{d:D}(r:Reps K F xs ds)(h:Rep K F v d):Reps K F (xs++[v]) (ds++[d]):=r.append (.cons h .nil)
def Qhw{K:Fg}{F:Hp}{k:Kd}{v:V}{d:D}(hv:Rep K F v d){ks:List Kd}{xs:List V}{ds:List D}(hl:ks.length=xs.length)(r:Reps K F xs ds):∃gw bW cy,HO.dK (VJ (ks.zip xs) k v)=ho (some gw) bW/\WH (some gw) bW/\Reps K F bW cy/\Xb ks ds k d=Zm (some gw) cy:=by
 unfold VJ Xb;rw[FH k hl];by_cases z:hasK k ks=true
 ·obtain⟨a,b,c⟩:=Cu k hv hl r;refine⟨ks,Tv ks xs k v,OY ks ds k d,?_,b,c,?_⟩;·rw[if_pos z,a];rfl
  ·rw[if_pos z];rfl
 ·refine⟨ks++[k],xs++[v],ds++[d],?_,?_,r.snoc hv,?_⟩
  ·rw[if_neg z];show HO.dK (ks.zip xs++[(k,v)])=.dK ((ks++[k]).zip (xs++[v]));rw[List.zip_append hl];rfl
  ·show(ks++[k]).length=(xs++[v]).length;rw[Qe,Qe,hl];rfl
  ·rw[if_neg z];rfl
def IE{K:Fg}{F H:Hp}{v:V}{d:D}{k:Kd}(r:RdD K F H v d)(h:Xi d=some k):v=kV k:=by cases d with|str x=>cases h;exact r.str|int i=>cases h;exact r.int|_=>cases h
section
variable{X:Cx}{O O' OL:List Nat}{w:Bool}{e a b:Expr}{pos:Pos}
def OX:PE X (.Dict [] [] pos) (tO X O (eC (.dic [] []))):=PE.imp QgR λσ H Q⟨F0,F,en,d,rs,z,k⟩=>by cases z;intro p hp;exact k p (some []) [] [] F _ (Gr.newO rs.fh hp (.dK [])) hp (rs.fh.none hp) Jz .nil rfl rfl
def Oa{ea eb:Q7}(hu:X.A.units+1<cLine)(ha:PE X a (tR X O ea))(hb:PE X b (tR X O eb))(hs:L8 b:=by intro _ _;rfl):PE X (.Subscript a b pos) (tD X O (Q5 D.dget ea eb)):=PE.imp (QgQ hu ha hb hs) λσ H Q⟨F0,F,en,d,rs,z,k⟩=>by
  obtain⟨dx,dy,e1,e2,e3⟩:=U2 z;refine⟨F0,F,en,dx,rs,e1,λx F1 H1 g1 r1=>⟨F0,F1,en,dy,rs.grow g1,e2,λy F2 H2 g2 r2=>?_⟩⟩;cases dx with
  |dic ks ds=>
   obtain⟨kk,q1,q2⟩:=JB (show((Xi dy).bind λk=>XD ks ds k)=some d from e3);obtain⟨p,xs,rfl,h,hl,rp⟩:=(r1.gr g2).dic g2.fh;rcases Hw kk hl rp with⟨n,_⟩|⟨d',v',a1,a2,a3,_⟩;·rw[n]at q2;cases q2
   ·rw[a1]at q2;cases q2;refine⟨p,v',rfl,?_,k v' F2 H2 (g1.trans g2) a3⟩;rw[IE r2 q1,<-a2];exact .inl ⟨_,_,h,rfl,rfl⟩|_=>cases e3
def EH{ea eb:Q7}{g:Bool->Bool}{f:D->D->Option D}(hf:∀y d r,f y d=some r->∃ks ds k,d=.dic ks ds/\Xi y=some k/\r=.bl (g (hasK k ks))){σ:L2.St}{H:Hp}{Q:Bool->Hp->Prop}(h:tDT X O (Q5 f ea eb) σ H Q):tR X O ea σ H λy H1=>tR X O eb σ H1 λx H2=>∃a o,x=.ref a/\DGet H2 a y o/\∃d,V.bl (g o.isSome)=.bl d/\Q d H2:=by
 obtain⟨F0,F,en,b,rs,z,k⟩:=h;obtain⟨dy,dx,e1,e2,e3⟩:=U2 z;obtain⟨ks,ds,kk,rfl,q1,q2⟩:=hf _ _ _ e3;refine⟨F0,F,en,dy,rs,e1,λy F1 H1 g1 r1=>⟨F0,F1,en,_,rs.grow g1,e2,λx F2 H2 g2 r2=>?_⟩⟩;obtain⟨p,xs,rfl,h,hl,rp⟩:=r2.dic g2.fh;refine⟨p,Zu (ks.zip xs) kk,rfl,?_,?_⟩;·rw[IE (r1.gr g2) q1];exact .inl ⟨_,_,h,rfl,rfl⟩
 ·have:(Zu (ks.zip xs) kk).isSome=hasK kk ks:=by
   rcases Hw kk hl rp with⟨_,n,m⟩|⟨d',v',_,a2,_,m⟩;·rw[n,m];rfl
   ·rw[a2,m];rfl
  rw[this];cases q2;exact⟨_,rfl,k F2 H2 (g1.trans g2)⟩
def QcQ{ea eb:Q7}(hu:X.A.units+1<cLine)(ha:PE X a (tR X O ea))(hb:PE X b (tR X O eb))(hm:behindInMarks .In b=false:=by with_unfolding_all rfl):PT X (.Compare a [.In] [b] pos) (tDT X O (Q5 D.dIn ea eb)):=PT.imp (Ce (QgH hu ha hb) hm) λσ H Q h=>by have q:=EH (g:=id) (λy d r e=>by cases d with|dic ks ds=>obtain⟨k,e1,rfl⟩:=Z5 (show((Xi y).map λk=>D.bl (hasK k ks))=some r from e);exact⟨ks,ds,k,rfl,e1,rfl⟩|_=>cases e) h;exact q
def EL{ea eb:Q7}(hu:X.A.units+1<cLine)(ha:PE X a (tR X O ea))(hb:PE X b (tR X O eb))(hm:behindInMarks .NotIn b=false:=by with_unfolding_all rfl):PT X (.Compare a [.NotIn] [b] pos) (tDT X O (Q5 D.dNotIn ea eb)):=PT.imp (Ce (QgI hu ha hb) hm) λσ H Q h=>by have q:=EH (g:=not) (λy d r e=>by cases d with|dic ks ds=>obtain⟨k,e1,rfl⟩:=Z5 (show((Xi y).map λk=>D.bl (!hasK k ks))=some r from e);exact⟨ks,ds,k,rfl,e1,rfl⟩|_=>cases e) h;exact q
def Og(i:Nat)(hi:i∈O){x:Str}{p pos':Pos}{v key:Expr}{ek ev:Q7}(hu:X.A.units+1<cLine)(hk:PE X key (tR X O ek))(hv:PE X v (tD X O ev))(hN:X.N[i]?=some x:=by rfl)(iV:WK X.env.scope x:=by first|exact Or.inl rfl|exact Or.inr (Or.inl rfl)|exact Or.inr (Or.inr rfl))(hd:(x==("__debug__":Str))=false:=by decide)(b5:(x==("__classdict__":Str))=false:=by decide)(hs:swapsWith v (some (.Subscript (.Name x p) key pos')) pos.line X.env=pure false:=by rfl):PS X (.Assign [.Subscript (.Name x p) key pos'] v pos) (tS X O O OL w (Xs i ek ev)):=PS.imp (Qhk hu (Zt hN iV hd b5) hk hv hs) λDn σ H⟨F0,F,en,fl,rs,z,k⟩=>by
  obtain⟨dv,e1,z1⟩:=JB z;obtain⟨dx,e2,z2⟩:=JB z1;obtain⟨dy,e3,z3⟩:=JB z2;obtain⟨dz,e4,rfl⟩:=Z5 z3;refine⟨F0,F,en,dv,rs,e1,λu F1 H1 g1 r1=>?_⟩;have bT:=rs.grow g1;obtain⟨p,kk,xs,ds,h1,h2,h3,h4,h5,h6,h7⟩:=bT.own i dx (Vf e2) hi;refine⟨_,h1,F0,F1,en,dy,bT,e3,λy F2 H2 g2 r2=>?_⟩;have cP:=bT.grow g2;obtain⟨p',cG,bW,cy,k1,k2,k3,k4,k5,k6,k7⟩:=cP.own i dx (Vf e2) hi;rw[h1]at k1;cases k1;subst k6;cases cG with|none=>cases e4|some ks=>
   obtain⟨kx,q1,q2⟩:=JB (show((Xi dy).bind λk=>if ks.length<lI then some (Xb ks cy k dv)else none)=some dz from e4);split at q2
   ·rename_i hz;cases q2;obtain⟨ks2,jZ,ds2,a1,a2,a3,a4⟩:=Qhw (k:=kx) (r1.mono g2.ff) k7 k5;refine⟨p,upd H2 p (.dK (VJ (ks.zip bW) kx u)),rfl,?_,?_⟩
    ·rw[IE r2 q1];exact DPut.k k4 (by rw[Xp,show ks.length=bW.length from k7,min_self,<-show ks.length=bW.length from k7,Vj];exact hz)
    ·rw[a1];rw[a4]at k;exact k _ F2 _ (g1.ff.trans g2.ff) (cP.write hi (Vf e2) h1 k2 k3 a2 a3)
   ·cases q2
end
noncomputable def er(H:Hp)(p:Addr):Hp:=λa=>if a=p then none else H a
def Ee{H:Hp}{p:Addr}:er H p p=none:=if_pos rfl
def Ol{H:Hp}{p a:Addr}(h:a≠p):er H p a=H a:=if_neg h
def Qc5{H:Hp}{p:Addr}:Sm (er H p) H:=λa o h=>by
 by_cases z:a=p;·rw[z,Ee]at h;cases h
 ·rw[Ol z]at h;exact h
theorem Sm.er{F H:Hp}(s:Sm F H){p:Addr}(h:F p=Option.none):Sm F (er H p):=λa o e=>by
 have:a≠p:=λz=>by rw[z,h]at e;cases e
 rw[Ol this];exact s a o e
def R1(K:Fg)(f:List D->Option D):Sp:=λvs H Q _=>∃F us cs p kk xs es d,Sm F H/\vs=us++[.ref p]/\Reps K F us cs/\F p=none/\H p=some (ho kk xs)/\WH kk xs/\Reps K F xs es/\f (cs++[Zm kk es])=some d/\∀cG bW de F' H',Gr F (er H p) F' H'->F' p=none->H' p=some (ho cG bW)->WH cG bW->Reps K F' bW de->d=Zm cG de->Q .non H'
section
variable{P:Program}{w:World}{K:Fg}{mg:Str->Option Value}{ab:Heap}{x:Str}{st:Stmt}{N ps:List Str}{k:Nat}{b:QH}
def QhT{F H:Hp}{us:List V}{cs:List D}{p:Addr}{kk:Option (List Kd)}{xs:List V}{es:List D}(n m:Nat)(hm:us.length=m)(hn:m<n)(gE:n<=1000)(s:Sm F H)(r:Reps K F us cs)(hf:F p=none)(hp:H p=some (ho kk xs))(hk:WH kk xs)(re:Reps K F xs es):RS K H ⟨F,er H p,some p⟩ F H ((us++[V.ref p]).map some++List.replicate (n-(us++[V.ref p]).length) none) (sD n (cs++[Zm kk es])) [m,Qd m]:=by
 have hc:cs.length=m:=by rw[<-r.length];exact hm
 have em:(sD n (cs++[Zm kk es]))[m]?=some (some (Zm kk es)):=by
  unfold sD;rw[YO (by rw[Qo,Qe,hc];simp),Yz,Vx (by omega),hc];simp
 have sm:((us++[V.ref p]).map some++List.replicate (n-(us++[V.ref p]).length) none)[m]?=some (some (V.ref p)):=by
  rw[YO (by rw[Qo,Qe,hm];simp),Yz,Vx (by omega),hm];simp
 have big:∀i d,(sD n (cs++[Zm kk es]))[i]?=some (some d)->i<n:=λi d h=>by
  have:i<(sD n (cs++[Zm kk es])).length:=by cases VU i (sD n (cs++[Zm kk es])).length with|inl h=>exact h|inr h'=>rw[XJ h']at h;cases h
  unfold sD at this;rw[Qe,Qo,Qe,Pz,hc]at this;simp at this;omega
 refine⟨s,Qc5,.refl F,λ_ _ h=>.inl h,λi d h hi=>?_,λi d h hi=>?_,λi j q d1 d2 hi hj h1 h2 _ _=>?_,λi hi=>?_,?_⟩
 ·have ic:i≠m:=λz=>hi (by rw[z];simp);unfold sD at h;rcases VU i m with hl|hl
  ·rw[YO (by rw[Qo,Qe,hc];simp;omega),Yz,YO (by omega)]at h;have hd:cs[i]?=some d:=by cases q:cs[i]? with|none=>rw[q]at h;cases h|some d'=>rw[q]at h;cases h;rfl
   obtain⟨v,h1,h2⟩:=r.get hd;refine⟨v,?_,h2⟩;rw[YO (by rw[Qo,Qe,hm];simp;omega),Yz,YO (by omega),h1];rfl
  ·rw[Vx (by rw[Qo,Qe,hc];simp;omega),Sq]at h;split at h<;>cases h
 ·have bZ:=big i d h;have hi':i=m:=by
   rcases q_5.mp hi with z|z;·exact z
   ·have:=q_2.mp z;unfold Qd at this;omega
  subst hi';rw[em]at h;cases h;exact⟨p,kk,xs,es,sm,Ee,hf,hp,re,rfl,hk⟩
 ·have a1:=big i d1 h1;have a2:=big j d2 h2;have e1:i=m:=by
   rcases q_5.mp hi with z|z;·exact z
   ·have:=q_2.mp z;unfold Qd at this;omega
  have e2:j=m:=by
   rcases q_5.mp hj with z|z;·exact z
   ·have:=q_2.mp z;unfold Qd at this;omega
  rw[e1,e2]
 ·have:i=m:=by
   rcases q_5.mp hi with z|z;·unfold Qd at z;omega
   ·have:=q_2.mp z;unfold Qd at this;omega
  subst this;exact⟨p,rfl,sm⟩
 ·unfold sD;simp[r.length]
def NQ(h:Df K mg x st ps)(S:FnScope N ps (Qr st)){O' OL:List Nat}(hps:0<ps.length)(hpn:ps.length<=N.length)(lU:N.length<=1000)(lS:ps.length-1∈O')(lQ:Qd (ps.length-1)∈O')(hb:∀(f:Addr)(aA:Value)(A:Around)(ag:List Env)(s:Shared)(H:Hp)(E:XK),Room k (A.deeper (envOfC x (Qr st) s.heap.objs.size f aA))->PSs (Vb V8 P w K mg ab N x (Qr st) f aA A ag s H E).nox (VN st) (tS (Vb V8 P w K mg ab N x (Qr st) f aA A ag s H E).nox [ps.length-1,Qd (ps.length-1)] O' OL false b)):Qg P w K mg ab (k+1) x ps (R1 K (Xd N.length ps.length b)):=by
 obtain⟨f,fd,F,d4,hm⟩:=h;have len:∀{us:List V}{cs:List D}{Fz:Hp}{p:Addr}{dd d:D},Reps K Fz us cs->Xd N.length ps.length b (cs++[dd])=some d->us.length=ps.length-1/\cs.length=ps.length-1:=λr e=>by
  unfold Xd at e;split at e
  ·rename_i z;rw[Qe]at z;simp at z;have:=r.length;omega
  ·cases e
 refine⟨f,fd,F.ok S (λvs H Q E q=>?_) (λaA A ag s H vs Q E hr q=>?_),d4,F.kp,hm⟩
 ·obtain⟨Fz,us,cs,p,kk,xs,es,d,s,hv,r,hf,hp,hk,re,e,_⟩:=q;have:=len (p:=p) r e;rw[hv,Qe];simp;omega
 ·obtain⟨Fz,us,cs,p,kk,xs,es,d,sm,hv,r,hf,hp,hk,re,e,k⟩:=q;refine⟨_,hb f aA A ag s H E hr,?_⟩;have hl:=len (p:=p) r e;have e':(match b (sD N.length (cs++[Zm kk es]))with|some (.nx e)=>(e[ps.length-1]?).join|_=>none)=some d:=by
   unfold Xd at e;split at e;·exact e
   ·cases e
  cases q:b (sD N.length (cs++[Zm kk es]))with|none=>rw[q]at e';cases e'|some fl=>
   rw[q]at e';have cH:Wl N vs=(us++[V.ref p]).map some++List.replicate (N.length-(us++[V.ref p]).length) none:=by rw[hv];rfl
   rw[cH];refine⟨⟨Fz,er H p,some p⟩,Fz,sD N.length (cs++[Zm kk es]),fl,QhT N.length (ps.length-1) hl.1 (by omega) lU sm r hf hp hk re,q,?_⟩;cases fl with
   |nx en=>
    intro σ' F' H' s' rs;have hd:en[ps.length-1]?=some (some d):=Vf e';obtain⟨p',cG,bW,de,h1,h2,h3,h4,h5,h6,h7⟩:=rs.own _ _ hd lS;obtain⟨p2,m1,m2⟩:=rs.pin _ lQ;cases m1;rw[h1]at m2;cases m2;exact k cG bW de F' H' rs.ex.gr h3 h4 h7 h5 h6|rt d'=>cases e'|bk en=>cases e'|ct en=>cases e'
end
def RS.call{K:Fg}{H₀:Hp}{F0:Fz}{F H F' H':Hp}{σ:L2.St}{en:QG}{O:List Nat}{i:Nat}{p:Addr}{d0:D}{kk:Option (List Kd)}{xs:List V}{es:List D}(r:RS K H₀ F0 F H σ en O)(hi:i∈O)(he:en[i]?=some (some d0))(hσ:σ[i]?=some (some (.ref p)))(h0:F0.h p=none)(g:Gr F (er H p) F' H')(hf:F' p=none)(hp:H' p=some (ho kk xs))(hk:WH kk xs)(re:Reps K F' xs es):RS K H₀ F0 F' H' σ (en.set i (some (Zm kk es))) O:=have hl:i<en.length:=by cases VU i en.length with|inl h=>exact h|inr h=>rw[XJ h]at he;cases he
 {
 fh:=g.fh
 hh:=(r.hh.er h0).trans g.hh
 ff:=r.ff.trans g.ff
 fr:=λa o e=>by
  rcases g.fr a o e with z|z;·exact r.fr a o z
  ·by_cases q:a=p;·rw[q,hf]at e;cases e
   ·rw[Ol q]at z;exact .inr (r.hh.none z)
 slot:=λj d' e1 hj=>by
  have z:i≠j:=λz=>hj (z▸hi);rw[V7 hl,if_neg z]at e1;obtain⟨v,h1,h2⟩:=r.slot j d' e1 hj;exact⟨v,h1,h2.mono g.ff⟩
 own:=λj d' e1 hj=>by
  rw[V7 hl]at e1;split at e1;·rename_i z;cases e1;subst z;exact⟨p,kk,xs,es,hσ,h0,hf,hp,re,rfl,hk⟩
  ·rename_i z;obtain⟨q,k2,ys,iE,h1,h2,h3,h4,h5,h6⟩:=r.own j d' e1 hj;have qp:q≠p:=λw:q=p=>z (r.dis i j p _ _ hi hj he e1 hσ (by rw[<-w];exact h1));have e4:er H p q=some (ho k2 ys):=by rw[Ol qp];exact h4
   refine⟨q,k2,ys,iE,h1,h2,?_,g.hh _ _ e4,h5.mono g.ff,h6⟩;cases w:F' q with|none=>rfl|some o=>
    rcases g.fr q o w with z2|z2;·rw[h3]at z2;cases z2
    ·rw[e4]at z2;cases z2
 dis:=λj k q d1 d2 hj eP f1 f2 g1 g2=>by
  rw[V7 hl]at f1 f2;have k1:∃d,en[j]?=some (some d):=by
   split at f1;·rename_i z;subst z;exact⟨_,he⟩
   ·exact⟨_,f1⟩
  have k2:∃d,en[k]?=some (some d):=by
   split at f2;·rename_i z;subst z;exact⟨_,he⟩
   ·exact⟨_,f2⟩
  obtain⟨_,k1⟩:=k1;obtain⟨_,k2⟩:=k2;exact r.dis j k q _ _ hj eP k1 k2 g1 g2
 pin:=r.pin
 len:=by rw[WS];exact r.len}
def MW(X:Cx)(O:List Nat)(i:Nat)(l:ZC):TA:=λσ H Q=>∃F0 F e ds p,RS X.K X.H₀ F0 F H σ e O/\l e=some ds/\σ[i]?=some (some (.ref p))/\∀vs F' H',Gr F H F' H'->Reps X.K F' vs ds->Q (vs++[.ref p]) H'
section
variable{X:Cx}{O OL:List Nat}{w:Bool}{e a:Expr}{es:List Expr}{p pos aI:Pos}{x y:Str}{ps:List Str}{k:Nat}
def RY(i:Nat)(hN:X.N[i]?=some x:=by rfl)(hv:WK X.env.scope x:=by first|exact Or.inl rfl|exact Or.inr (Or.inl rfl)|exact Or.inr (Or.inr rfl))(hd:(x==("__debug__":Str))=false:=by decide)(b5:(x==("__classdict__":Str))=false:=by decide):PA X [.Name x p] (MW X O i lN):=PA.imp (ZJ (Zt hN hv hd b5) Vw WB) λσ H Q⟨F0,F,en,ds,q,rs,z,hσ,k⟩=>by cases z;exact⟨_,hσ,k [] F H (.refl rs.fh) .nil⟩
def Vk{i:Nat}{ea:Q7}{l:ZC}(ha:PE X a (tD X O ea))(hr:PA X es (MW X O i l))(hs:starEach (a::es) X.env=(false,eval a X.env)::starEach es X.env:=by rfl):PA X (a::es) (MW X O i (lC ea l)):=PA.imp (ZJ ha hr hs) λσ H Q⟨F0,F,en,ds,q,rs,z,hσ,k⟩=>by obtain⟨d,e1,e2⟩:=JB z;obtain⟨cy,e3,rfl⟩:=Z5 e2;refine⟨F0,F,en,d,rs,e1,λv F1 H1 g1 r1=>?_⟩;exact⟨F0,F1,en,cy,q,rs.grow g1,e3,hσ,λvs F2 H2 g2 r2=>k (v::vs) F2 H2 (g1.trans g2) (.cons (r1.mono g2.ff) r2)⟩
def Rb(i:Nat)(hi:i∈O){f:List D->Option D}{l:ZC}(c:Qg X.prog X.w X.K X.mg X.ab k x ps (R1 X.K f))(hr:Room k X.A)(hg:Gl X x)(ha:PA X (e::es) (MW X O i l))(cj:(x==("__debug__":Str))=false:=by decide)(he:starEach (e::es) X.env=(false,eval e X.env)::starEach es X.env:=by rfl)(cD:(backTo aI (starEach es X.env)).any (·.1)=false:=by rfl)(dX:swapsWith (.Call (.Name x p) (e::es) [] aI) none pos.line X.env=pure false:=by rfl):PS X (.Expr (.Call (.Name x p) (e::es) [] aI) pos) (tS X O O OL w (XN i f l)):=by
 obtain⟨fa,fd,F,hb,hk,hm⟩:=c;refine PS.imp (WQ (Ih F hr hg hm hk hb (.nil:Vals [] []) Ig ha cj he cD) dX) λDn σ H⟨F0,F,en,fl,rs,z,k⟩=>?_;obtain⟨ds,e1,z1⟩:=JB z;obtain⟨dx,e2,z2⟩:=JB z1;obtain⟨dz,e3,rfl⟩:=Z5 z2;obtain⟨q,kk,xs,de,h1,h2,h3,h4,h5,h6,h7⟩:=rs.own i dx (Vf e2) hi;refine⟨F0,F,en,ds,q,rs,e1,h1,λvs F1 H1 g1 r1=>?_⟩;have bT:=rs.grow g1;obtain⟨q',cG,bW,iE,k1,k2,k3,k4,k5,k6,k7⟩:=bT.own i dx (Vf e2) hi;rw[h1]at k1;cases k1;subst k6;refine⟨F1,vs,ds,q,cG,bW,iE,dz,g1.fh,?_,r1,k3,k4,k7,k5,e3,λkk2 jZ es3 F' H' g hf hp k8 re ed=>?_⟩;·rw[Yx]
 ·subst ed;exact k σ F' H' (g1.ff.trans g.ff) (bT.call hi (Vf e2) h1 k2 g hf hp k8 re)
end
def Gn(K:Fg)(a b:Addr):It:=⟨λi H=>∃xs ys x y,SqL K H a xs/\SqL K H b ys/\xs[i]?=some x/\ys[i]?=some y,λi H x H'=>∃p y1 y2,H p=none/\x=.ref p/\H'=upd H p (.tup [y1,y2])/\(∀xs,SqL K H a xs->xs[i]?=some y1)/\∀ys,SqL K H b ys->ys[i]?=some y2,λi H=>∃xs ys,SqL K H a xs/\SqL K H b ys/\(xs.length<=i\/ys.length<=i)⟩
def QiY{P:Program}{w:World}{K:Fg}{elts:List Expr}{x1:Nat}{pos:Pos}(l1 l2 z TI TO i1 i2:Addr)(D:ZipApart z TI TO i1 i2 l1 l2):Turn P w K (.Tuple elts x1 pos) (Gn K l1 l2) [z,TI,TO,i1,i2] z (λi h=>IsZip h z TI TO .none/\IsPair h TI (.ref i1) (.ref i2)/\(∃a b,IsPair h TO a b)/\h.IsListIter i1 l1 i/\h.IsListIter i2 l2 i)where
 mem:=by simp
 obj:=λi h st b hb=>by
  obtain⟨hz,cU,⟨a,c,c9⟩,⟨o1,kT,c1,d1⟩,⟨o2,dg,c2,d2⟩⟩:=st;simp only[q_5,WX,or_false]at hb;rcases hb with q|q|q|q|q<;>subst q;·exact⟨_,hz,λv e=>by
    have e':Data.fields _=Data.cell v:=e;cases e'⟩
  ·exact⟨_,cU,λv e=>by
    have e':Data.seq _=Data.cell v:=e;cases e'⟩
  ·exact⟨_,c9,λv e=>by have e':Data.seq _=Data.cell v:=e;cases e'⟩
  ·exact⟨o1,kT,λv e=>by rw[d1]at e;cases e⟩
  ·exact⟨o2,dg,λv e=>by rw[d2]at e;cases e⟩
 keep:=λi h h' st k=>by obtain⟨hz,cU,⟨a,c,c9⟩,h1,h2⟩:=st;exact⟨k z (by simp) _ hz,k TI (by simp) _ cU,⟨a,c,k TO (by simp) _ c9⟩,h1.at λo q=>k i1 (by simp) o q,h2.at λo q=>k i2 (by simp) o q⟩
 item:=by
  intro X hP hw hK hc i aa s σ H E I hf st hg;subst hP hw hK;obtain⟨hz,cU,⟨a,c,c9⟩,h1,h2⟩:=st;obtain⟨xs,ys,x,y,eN,eJ,hx,hy⟩:=hg;obtain⟨fQ,gd,p1,_⟩:=I.list eN;obtain⟨bO,gc,p2,_⟩:=I.list eJ;obtain⟨u1,kH,j9⟩:=gd.get hx;obtain⟨u2,kG,j8⟩:=gc.get hy;refine wpAny_pyNext_zip_item D hz cU c9 h1 h2 p1.isList p2.isList (x:=u1) (y:=u2) (by simpa using kH) (by simpa using kG) λh' fq je fG jL hT hsz kk=>?_;refine⟨_,rfl,wpAny_letOwnedTupleGo_zip fq λh3 kz sb=>?_⟩;have k2:∀b o,b∉[z,TI,TO,i1,i2]->s.heap.get? b=some o->h3.get? b=some o:=λb o hb q=>by
   have a1:b≠z:=λe=>hb (by simp[e]);have a2:b≠TO:=λe=>hb (by simp[e]);have a3:b≠i1:=λe=>hb (by simp[e]);have a4:b≠i2:=λe=>hb (by simp[e]);exact(sb.2 b a1).trans (kk b o a1 a2 a3 a4 q)
  have fe:H s.heap.objs.size=none:=I.hok.fresh (Qz _);have lz:z<s.heap.objs.size:=Heap.lt_size hz;have kJ:h3.get? s.heap.objs.size=some {cls:=.type "tuple",data:=.seq #[u1,u2]}:=(sb.2 _ (ne_of_gt lz)).trans hT;have I2:Inv X aa σ (upd H s.heap.objs.size (.tup [x,y])) {s with heap:=h3,toks:=s.toks}:=AY (t':=s.toks) I k2 hf (Qz _) (show ObjOk X.prog X.w _ h3 _ (.tup [x,y])from⟨by show 2<=sizeLine;decide,[u1,u2],.cons j9 (.cons j8 .nil),⟨_,kJ,rfl,_,rfl⟩⟩);have jf:IsPair h3 TI (.ref i1) (.ref i2):=(sb.2 _ D.TIz).trans (kk TI _ D.TIz D.TITO D.TIi1 D.TIi2 cU);refine⟨.ref s.heap.objs.size,_,I2,rfl,⟨_,x,y,fe,rfl,rfl,λzs fq=>by rw[I.list_inj fq eN];exact hx,λzs fq=>by rw[I.list_inj fq eJ];exact hy⟩,⟨kz,jf,⟨u1,u2,(sb.2 _ D.TOz).trans je⟩,fG.at λo q=>(sb.2 _ D.i1z).trans q,jL.at λo q=>(sb.2 _ D.i2z).trans q⟩,λb hb=>?_⟩;have bZ:b<s.heap.objs.size:=by
   simp only[q_5,WX,or_false]at hb;rcases hb with q|q|q|q|q<;>subst q;·exact lz
   ·exact Heap.lt_size cU
   ·exact Heap.lt_size c9
   ·obtain⟨o,ho,_⟩:=h1;exact Heap.lt_size ho
   ·obtain⟨o,ho,_⟩:=h2;exact Heap.lt_size ho
  rw[Qi (Y9 bZ)];exact(hf b hb).1
 done:=by
  intro X hP hw hK hc i aa s σ H E I hf st hg;subst hP hw hK;obtain⟨hz,cU,⟨a,c,c9⟩,h1,h2⟩:=st;obtain⟨xs,ys,eN,eJ,hx⟩:=hg;obtain⟨fQ,gd,p1,_⟩:=I.list eN;obtain⟨bO,gc,p2,_⟩:=I.list eJ;have l1':=gd.length;have l2':=gc.length;refine wpAny_pyNext_zip_end (I.ok.hd hc) D hz cU c9 h1 h2 p1.isList p2.isList ?_ λh' kk=>⟨rfl,AX (t':=s.toks) I (λb o hb q=>kk b o (λe=>hb (by simp[e])) (λe=>hb (by simp[e])) (λe=>hb (by simp[e])) (λe=>hb (by simp[e])) q) hf⟩;rcases hx with q|q;·left;simp;omega
  ·right;simp;omega
 self:=λ_ _ _ _ _ st h=>by obtain⟨hz,_⟩:=st;exact wpAny_pyIter_zip hz h
def QeT{x y:Nat}(h:x<y\/y<x):x≠y:=by omega
def Qi8(I l1 l2:Nat)(h1:l1<I)(h2:l2<I):ZipApart (I+4) (I+2) (I+3) I (I+1) l1 l2:=by constructor<;>(refine QeT ?_;omega)
section
variable{X:Cx}{O:List Nat}{a b:Expr}{p pos:Pos}
def QdC(K:Fg)(ta:TA):TI:=λσ H R=>ta σ H λvs H1=>∃l m,vs=[.ref l,.ref m]/\(∃xs,SqL K H1 l xs)/\(∃ys,SqL K H1 m ys)/\R (Gn K l m) H1
def Qg7{elts:List Expr}{x1:Nat}{cp:Pos}{ta:TA}(hg:Gl X "zip")(hm:X.mg "zip"=none)(ha:PA X [a,b] ta)(hs:starEach [a,b] X.env=[(false,eval a X.env),(false,eval b X.env)])(eI:starEach [b] X.env=[(false,eval b X.env)]):PI X (.Tuple elts x1 cp) (.Call (.Name "zip" p) [a,b] [] pos) (QdC X.K ta):=by
 intro aa s σ H R I h;refine Call_ (SX I hg hm boot_zip (PyProof.Rows.callWith_type1 (QW (ha pos aa s σ H _ I h) λus s1⟨vs,H1,I1,r1,q1⟩=>?_) (by rw[hs,eI]) (by rw[eI];rfl)));obtain⟨l,m,e,⟨xs,eN⟩,⟨ys,eJ⟩,q⟩:=q1;subst e;obtain⟨u,u2,rfl,rx,ry⟩:=Me r1;cases rx;cases ry;obtain⟨fQ,gd,p1,_⟩:=I1.list eN;obtain⟨bO,gc,p2,_⟩:=I1.list eJ;have kq:l<s1.heap.objs.size:=by obtain⟨o,ho,_⟩:=p1.isList;exact Heap.lt_size ho
 have kn:m<s1.heap.objs.size:=by obtain⟨o,ho,_⟩:=p2.isList;exact Heap.lt_size ho
 have D:ZipApart (s1.heap.objs.size+4) (s1.heap.objs.size+2) (s1.heap.objs.size+3) s1.heap.objs.size (s1.heap.objs.size+1) l m:=Qi8 _ _ _ kq kn;refine call_zip_2 p1.isList p2.isList λh' hz cU c9 lu lh hsz hk=>?_;have I2:Inv X aa σ H1 {s1 with heap:=h'}:=I1.kept (t':=s1.toks) hk;have fe:∀b,s1.heap.objs.size<=b->H1 b=none:=λb hb=>I1.hok.fresh hb;refine wpAny_pyIter_zip hz ⟨_,[s1.heap.objs.size+4,s1.heap.objs.size+2,s1.heap.objs.size+3,s1.heap.objs.size,s1.heap.objs.size+1],_,_,H1,rfl,I2,QiY l m _ _ _ _ _ D,⟨hz,cU,⟨_,_,c9⟩,lu,lh⟩,λb hb=>?_,q⟩;have:s1.heap.objs.size<=b:=by
  simp only[q_5,WX,or_false]at hb;rcases hb with q|q|q|q|q<;>rw[q];·exact le_add_right _ _
  ·exact le_add_right _ _
  ·exact le_add_right _ _
  ·exact Qz _
  ·exact le_add_right _ _
 exact I1.fpOk this (fe b this)
theorem Hy:∀(as bs:List D),(VY as bs).length=min as.length bs.length|[],_=>by simp[VY]|_::_,[]=>by simp[VY]|a::as,b::bs=>by rw[VY,JV,Hy,JV,JV];omega
theorem Am:∀(as bs:List D)(i:Nat)(x y:D),as[i]?=some x->bs[i]?=some y->(VY as bs)[i]?=some (.tup [x,y])|[],_,_,_,_,h,_=>by simp at h|_::_,[],_,_,_,_,h=>by simp at h|a::as,b::bs,0,_,_,h1,h2=>by simp at h1 h2;subst h1 h2;simp[VY]|a::as,b::bs,i+1,x,y,h1,h2=>by rw[VY,WU];exact Am as bs i x y (by simpa using h1) (by simpa using h2)
def DH{K:Fg}{F:Hp}{v:V}{d:D}{ds:List D}(r:Rep K F v d)(e:D.its d=some ds):∃l xs,v=.ref l/\SqL K F l xs/\Reps K F xs ds:=by cases r with|@lst l xs cy hl r=>cases e;exact⟨l,xs,rfl,SqL.of hl,r⟩|@scr l ns hl=>cases e;exact⟨l,_,rfl,hl,Reps.ints ns⟩|_=>cases e
def RZ{elts:List Expr}{x1:Nat}{cp:Pos}{ea eb:Q7}(hg:Gl X "zip")(hm:X.mg "zip"=none)(ha:PE X a (tD X O ea))(hb:PE X b (tD X O eb))(hs:starEach [a,b] X.env=[(false,eval a X.env),(false,eval b X.env)]:=by rfl)(eI:starEach [b] X.env=[(false,eval b X.env)]:=by rfl):PI X (.Tuple elts x1 cp) (.Call (.Name "zip" p) [a,b] [] pos) (tI X O (Wi ea eb)):=PI.imp (Qg7 hg hm (ZJ ha (ZJ hb Vw eI) (by rw[hs,eI])) hs eI) λσ H R⟨F0,F,en,jV,rs,z,k⟩=>by
  obtain⟨dx,e1,z1⟩:=JB z;obtain⟨dy,e2,z2⟩:=JB z1;obtain⟨bW,e3,z3⟩:=JB z2;obtain⟨jY,e4,rfl⟩:=Z5 z3;refine⟨F0,F,en,dx,rs,e1,λv F1 H1 g1 r1=>⟨F0,F1,en,dy,rs.grow g1,e2,λu F2 H2 g2 r2=>?_⟩⟩;obtain⟨l,xs,rfl,hl,rx⟩:=DH (r1.mono g2.ff) e3;obtain⟨m,ys,rfl,cR,ry⟩:=DH r2 e4;refine⟨l,m,rfl,⟨xs,g2.fh.sqL hl⟩,⟨ys,g2.fh.sqL cR⟩,k F2 H2 _ (g1.trans g2) ⟨λi F' H' s s' hi=>?_,λi F' H' x H3 s s' hi hy=>?_,λi F' H' s s' hi=>?_⟩⟩;·rw[Hy]at hi;obtain⟨v1,h1,_⟩:=rx.get (Qf (show i<bW.length by omega));obtain⟨v2,h2,_⟩:=ry.get (Qf (show i<jY.length by omega));exact⟨xs,ys,v1,v2,s'.sqL (s.sqL hl),s'.sqL (s.sqL cR),h1,h2⟩
  ·obtain⟨p,y1,y2,hp,rfl,rfl,gA,kE⟩:=hy;obtain⟨d1,a1,a2⟩:=rx.getV (gA xs (s'.sqL (s.sqL hl)));obtain⟨d2,b1,b2⟩:=ry.getV (kE ys (s'.sqL (s.sqL cR)));have g:=Gr.new s' hp (.tup [y1,y2]);exact⟨_,.tup [d1,d2],g,Am _ _ i d1 d2 a1 b1,.tup Jz (.cons ((a2.mono s).mono g.ff) (.cons ((b2.mono s).mono g.ff) .nil))⟩
  ·rw[Hy]at hi;exact⟨xs,ys,s'.sqL (s.sqL hl),s'.sqL (s.sqL cR),by rw[rx.length,ry.length];omega⟩
end
section
variable{X:Cx}{O OL:List Nat}{w:Bool}{c:Expr}{body:List Stmt}{pos:Pos}
def QcK{ec:Q7}{b:QH}(hp:PassesOwn (model X.prog X.w) X.A X.env X.xe)(hc:PT X c (tDT X O ec))(hb:PSs X body (tS X O O O w b)):PS X (.While c body [] pos) (tS X O O OL w (B1 ec b)):=PS.imp (Qhl hp hc hb) λDn σ H⟨F0,F,en,fl,rs,z,k⟩=>by
  refine⟨λm σ' H'=>∃F' bj,Sm F F'/\RS X.K X.H₀ F0 F' H' σ' bj O/\X9 ec b m bj=some fl,⟨100000,F,en,.refl F,rs,z⟩,?_⟩;rintro m σ' H'⟨F',bj,s',bF,e3⟩;cases m with
  |zero=>cases e3|succ n=>
   obtain⟨q,e4,e5⟩:=UK (show YY (ec bj) (WD (b bj) (X9 ec b n)) (some (.nx bj))=some fl from e3);refine⟨F0,F',bj,q,bF,e4,λF1 H1 g1=>?_⟩;cases q with
   |true=>
    rw[if_pos rfl];have l7:WD (b bj) (X9 ec b n)=some fl:=e5;obtain⟨f,e6,e7⟩:=Aa l7;refine⟨λσ2 H2=>∃F' bj,Sm F F'/\RS X.K X.H₀ F0 F' H2 σ2 bj O/\X9 ec b n bj=some fl,λσ2 H2 q=>⟨n,Nat.lt_succ_self n,q⟩,F0,F1,bj,f,bF.grow g1,e6,?_⟩;have sA:Sm F F1:=s'.trans g1.ff;cases f with
    |nx e=>exact λσ4 F4 H4 s4 cn=>⟨F4,e,sA.trans s4,cn,e7⟩|ct e=>exact λσ4 F4 H4 s4 cn=>⟨F4,e,sA.trans s4,cn,e7⟩|bk e=>cases e7;exact λσ4 F4 H4 s4 cn=>k σ4 F4 H4 (sA.trans s4) cn|rt d=>cases e7;exact k
   |false=>rw[if_neg (by decide)];cases e5;exact k σ' F1 H1 (s'.trans g1.ff) (bF.grow g1)
end
section
variable{X:Cx}{O:List Nat}{a:Expr}{p q pos:Pos}
def QdO{P:Program}{w:World}{k:JA}{v:Value}(h:(Yt P w).is k v=true):RelV (kV k) v:=by
 rcases Xj (show Td k v=true from h)with⟨i,t,rfl,rfl⟩|⟨x,t,rfl,rfl⟩;·exact⟨t,rfl⟩
 ·exact⟨t,rfl⟩
def Qd7{κ:Type}{ps:List (κ×V)}{vs:List (κ×Value)}(r:KV ps vs):∀{j:Nat}{p:κ×V}{v:κ×Value},ps[j]?=some p->vs[j]?=some v->p.1=v.1/\RelV p.2 v.2:=by unfold KV at r;induction r with|nil=>intro j p v h;simp at h|cons h _ ih=>intro j p v hp hv;cases j with|zero=>simp at hp hv;subst hp hv;exact h|succ j=>exact ih (by simpa using hp) (by simpa using hv)
def IF{κ:Type}{ps:List (κ×V)}{vs:List (κ×Value)}(r:KV ps vs):ps.length=vs.length:=Paired.length r
def QhO{K:Fg}{F:Hp}:∀k:Kd,Rep K F (kV k) (kD k)|.inl i=>.int i|.inr x=>.str x
end
def Ew{X:Cx}{aa:List (Addr×Obj)}{σ:L2.St}{H:Hp}{s:Shared}{d:Addr}{o:Obj}{ah:List (JA×V)}{es:Array DictEntry}{ep:Nat}(I:Inv X aa σ H s)(hd:H d=some (.frz o (.dK ah)))(ho:o.data=.dict es ep):∃vs,KV ah vs/\s.heap.DictAt (Yt X.prog X.w) d vs ep:=by obtain⟨h1,_,_,vs,rel,o',de,gK,ck,hx,cY,J7⟩:=show ObjOk X.prog X.w H s.heap d (.frz o (.dK ah))from I.hok d _ hd;rw[h1]at ck;cases ck;rw[ho]at cY;cases cY;exact⟨vs,rel,o,es,h1,hx,ho,J7⟩
def Gm(d:Addr)(o:Obj)(ah:List (JA×V))(vals:Bool):It:=⟨λi H=>H d=some (.frz o (.dK ah))/\i<ah.length,λi H x H'=>H'=H/\∃p,ah[i]?=some p/\x=if vals then p.2 else kV p.1,λi H=>H d=some (.frz o (.dK ah))/\ah.length<=i⟩
def QiV{P:Program}{w:World}{K:Fg}{tg:Expr}(d it:Addr){o:Obj}{ah:List (JA×V)}{es:Array DictEntry}{ep:Nat}(ho:o.data=.dict es ep):Turn P w K tg (Gm d o ah false) [it] it (λi h=>h.IsKeyIter it d i ah.length ep)where
 mem:=by simp
 obj:=λi h st b hb=>by
  have e:b=it:=by simpa using hb
  subst e;obtain⟨o,e,c,d⟩:=st;exact⟨o,e,λv z=>by rw[d]at z;cases z⟩
 keep:=λi h h' st k=>st.at λo e=>k it (by simp) o e
 item:=by
  intro X hP hw hK hc i aa s σ H E I hf st hg;subst hP hw hK;obtain⟨hd,hi⟩:=hg;obtain⟨vs,rel,da⟩:=Ew I hd ho;have hl:=IF rel;obtain⟨f0,f1,f2,f3,f4,f5⟩:=hf it (by simp);have hx:vs[i]?=some (vs[i]'(by omega)):=Qf (by omega);obtain⟨e1,e2⟩:=Qd7 rel (Qf hi) hx;refine wpAny_pyNext_dict_item (knd:=Yt X.prog X.w) (k:=(vs[i]'(by omega)).1) (v:=(vs[i]'(by omega)).2) (by rw[<-hl];exact st) da hx λkey h' hk bX sb=>?_;have I1:Inv X aa σ H {s with heap:=h'}:=I.turned (t':=s.toks) (λb o hb e=>(sb.2 b hb).trans e) f0 f1 f3 f4 f5;rw[<-hl]at bX;obtain⟨oi,e,c,dd⟩:=id bX;exact⟨key,rfl,Ky (s:={s with heap:=h'}) e c dd (by decide) ⟨kV ah[i].1,H,I1,by rw[e1];exact QdO hk,⟨rfl,ah[i],Qf hi,rfl⟩,bX,λb hb=>(hf b hb).1⟩⟩
 done:=by
  intro X hP hw hK hc i aa s σ H E I hf st hg;subst hP hw hK;obtain⟨hd,hi⟩:=hg;obtain⟨vs,rel,da⟩:=Ew I hd ho;have hl:=IF rel;obtain⟨f0,f1,f2,f3,f4,f5⟩:=hf it (by simp);exact wpAny_pyNext_dict_end (knd:=Yt X.prog X.w) (I.ok.hd hc) (by rw[<-hl];exact st) da (XJ (by omega)) λh' eb=>⟨rfl,I.turned (t':=s.toks) (λb o hb e=>eb b o hb e) f0 f1 f3 f4 f5⟩
 self:=λ_ _ _ _ _ st h=>wpAny_pyIter_keyiter st h
section
variable{X:Cx}{O:List Nat}{tg a iter:Expr}{p q:Pos}
def QdQ{K:Fg}{F H:Hp}{d:Addr}{o:Obj}{ks:List Kd}{xs:List V}{ds:List D}(hd:F d=some (.frz o (.dK (ks.zip xs))))(hl:ks.length=xs.length)(rp:Reps K F xs ds)(vals:Bool):ItOk K F (Gm d o (ks.zip xs) vals) (if vals then ds else ks.map kD):=by
 have hz:(ks.zip xs).length=ks.length:=by rw[Xp];omega
 have hrl:=rp.length;have hlen:(if vals then ds else ks.map kD).length=ks.length:=by cases vals<;>simp<;>omega
 refine⟨λi F' H' s s' hi=>⟨s' _ _ (s _ _ hd),by omega⟩,λi F' H' x H2 s s' hi⟨hH,p,hp,hx⟩=>?_,λi F' H' s s' hi=>⟨s' _ _ (s _ _ hd),by omega⟩⟩;subst hH;have hi':i<ks.length:=by omega
 rw[Qf (by omega)]at hp;cases hp;rw[getElem_zip]at hx;cases vals with
 |false=>
  refine⟨F',kD ks[i],.refl s',?_,?_⟩
  ·show(ks.map kD)[i]?=_;rw[Yz,Qf hi'];rfl
  ·rw[hx];exact QhO _|true=>obtain⟨dd,h1,h2⟩:=rp.getV (Qf (show i<xs.length by omega));refine⟨F',dd,.refl s',h1,?_⟩;rw[hx];exact h2.mono s
def QcA{ev:Q7}(h:PE X iter (tD X O ev)):PI X tg iter (tI X O (D7 ev)):=by
 rintro aa s σ H R I⟨F0,F,en,jV,rs,z,k⟩;obtain⟨d,e1,e2⟩:=JB z;refine QW (h aa s σ H (λx H1=>∃F1,Gr F H F1 H1/\Rep X.K F1 x d) I ⟨F0,F,en,d,rs,e1,λv F1 H1 g1 r1=>⟨F1,g1,r1⟩⟩) λv s1⟨x,H1,I1,rx,F1,g1,r1⟩=>?_;cases r1 with
 |@dic dd o ks xs ds hd hl rp=>
  cases e2;cases rx;have lG:=g1.fh _ _ hd;obtain⟨h1,zl,di,vs,rel,o',es,ep,ck,hx,cY,J7⟩:=(show ObjOk X.prog X.w H1 s1.heap dd (.frz o (.dK (ks.zip xs)))from I1.hok dd _ lG);rw[h1]at ck;cases ck;have hlen:=IF rel;refine wpAny_pyIter_dict (knd:=Yt X.prog X.w) (kvs:=vs) (ep:=ep) di ⟨o,es,h1,hx,cY,J7⟩ ?_;refine⟨s1.heap.objs.size,[s1.heap.objs.size],_,_,H1,rfl,I1.kept (t':=s1.toks) λb o e=>Heap.get?_push_of_some _ e,QiV dd _ (ah:=ks.zip xs) cY,⟨_,Heap.get?_push_size _ rfl,rfl,by rw[hlen];rfl⟩,λb hb=>?_,k F1 H1 _ g1 (QdQ (H:=H1) hd hl rp false)⟩;have e:b=s1.heap.objs.size:=by simpa using hb
  subst e;exact I1.fpOk (Qz _) (I1.hok.fresh (Qz _))|_=>cases e2
end
noncomputable def un(G G':Hp):Hp:=λa=>match G a with|some o=>some o|none=>G' a
def Qi0(G G':Hp):Sm G (un G G'):=λa o h=>by unfold un;rw[h]
def Qi1{F G G':Hp}(s:Sm G F)(s':Sm G' F):Sm G' (un G G'):=λa o h=>by unfold un;cases e:G a with|none=>exact h|some x=>have:=s a x e;rw[s' a o h]at this;exact this.symm
def Qi2{F G G':Hp}(s:Sm G F)(s':Sm G' F):Sm (un G G') F:=λa o h=>by unfold un at h;cases e:G a with|none=>rw[e]at h;exact s' a o h|some x=>rw[e]at h;cases h;exact s a _ e
def Ac{G G':Hp}{a:Addr}{o:HO}(h:un G G' a=some o):G a=some o\/G' a=some o:=by unfold un at h;cases e:G a with|none=>rw[e]at h;exact .inr h|some x=>rw[e]at h;exact .inl h
noncomputable def HZ(p:Addr)(o:HO):Hp:=λa=>if a=p then some o else none
def Qje(p:Addr)(o:HO):HZ p o p=some o:=if_pos rfl
def Qjf{F:Hp}{p:Addr}{o:HO}(h:F p=some o):Sm (HZ p o) F:=λa x e=>by
 unfold HZ at e;split at e;·rename_i z;subst z;cases e;exact h
 ·cases e
theorem Gr.un{F1 H1 G F' H':Hp}(sg:Sm G F1)(s1:Sm F1 H1)(g:Gr G H1 F' H'):Gr F1 H1 (un F1 F') H'/\Sm F' (un F1 F'):=by
 have s2:Sm F1 H':=s1.trans g.hh;refine⟨⟨Qi0 _ _,g.hh,Qi2 s2 g.fh,λa o h=>?_⟩,Qi1 s2 g.fh⟩;rcases Ac h with z|z;·exact .inl z
 ·rcases g.fr a o z with y|y;·exact .inl (sg a o y)
  ·exact .inr y
end Wd
namespace Wd
open PySem PySem.W PyProof.Rows
noncomputable def pl(p:Array Nat)(i:Nat):Nat:=(p[i]?).getD 0
def Qjd{p:Array Nat}{i j:Nat}(hj:j<=p.size)(k:Nat):pl (kas_rev p i j) k=if i<=k/\k<j then pl p (i+j-1-k)else pl p k:=by unfold pl kas_rev;rw[getElem?_mirror_all hj];split<;>rfl
structure Ord(lt:Nat->Nat->Bool)(n:Nat):Prop where
 as:∀i j,i<n->j<n->lt i j=true->lt j i=false
 tr:∀i j k,i<n->j<n->k<n->lt j i=false->lt k j=false->lt k i=false
section
variable{n:Nat}
structure Pm(n:Nat)(p:Array Nat):Prop where pm:p.Perm (List.toArray (List.range n))
theorem Pm.size{p:Array Nat}(h:Pm n p):p.size=n:=by have:=h.pm.toList.length_eq;simpa using this
def Pm.bd{p:Array Nat}(h:Pm n p)(hn:0<n)(i:Nat):pl p i<n:=by unfold pl;cases e:p[i]? with|none=>exact hn|some x=>have hx:x∈p:=Array.mem_of_getElem? e;have:=(h.pm.mem_iff).mp hx;simpa using this
end
section
variable{lt:Nat->Nat->Bool}{n:Nat}(o:Ord lt n)
def Dn(lt:Nat->Nat->Bool)(p:Array Nat)(k:Nat):Prop:=∀i j,i<=j->j<k->lt (pl p i) (pl p j)=false
include o
def Ord.ir(i:Nat)(h:i<n):lt i i=false:=by cases e:lt i i with|false=>rfl|true=>rw[o.as i i h h e]at e;cases e
def Eqs(lt:Nat->Nat->Bool)(p:Array Nat)(a k:Nat):Prop:=∀i j,a<=i->i<k->a<=j->j<k->lt (pl p i) (pl p j)=false
end
end Wd
namespace Wd
open PySem PySem.Spec PyProof.Rows L2
section
variable{μ:Type}
abbrev ZH(μ:Type):=QG->μ->Option (QG×μ)
noncomputable def loopR(g:Jy)(b:ZH μ):List D->ZH μ|[],e,m=>some (e,m)|d::ds,e,m=>(g d e).bind λe1=>(b e1 m).bind λr=>loopR g b ds r.1 r.2
def Sx(it:ZY)(g:Jy)(b:ZH μ):ZH μ:=λe m=>(it e).bind λds=>loopR g b ds e m
abbrev OG(μ:Type):=μ->Fz->Hp->Hp->Prop
def VX(X:Cx)(O:List Nat)(Res:OG μ)(b:ZH μ):TS:=λDn σ H=>∃F0 F e m r,RS X.K X.H₀ F0 F H σ e O/\Res m F0 F H/\b e m=some r/\∀σ' F' H',Sm F F'->RS X.K X.H₀ F0 F' H' σ' r.1 O->Res r.2 F0 F' H'->Dn.nx σ' H'
variable{X:Cx}{O:List Nat}{Res:OG μ}{tg iter:Expr}{body:List Stmt}{pos:Pos}
def Kp{it:ZY}{g:Jy}{b:ZH μ}(gr:∀m F0 F H F' H',Res m F0 F H->Gr F H F' H'->Res m F0 F' H')(hc:X.calm=true)(hp:PassesOwn (model X.prog X.w) X.A X.env X.xe)(hi:PI X tg iter (tI X O it))(hg:PG X tg (tG X O O g))(hb:PSs X body (VX X O Res b))(hs:∀x,foldedSetIterable iter X.env x=pure x:=by intro _;rfl):PS X (.For tg iter body [] pos) (VX X O Res (Sx it g b)):=PS.imp (Cb hp hc hi hg hb hs) λDn σ H⟨F0,F,en,m,rr,rs,res,z,k⟩=>by
  obtain⟨ds,e1,e2⟩:=JB z;refine⟨F0,F,en,ds,rs,e1,λF1 H1 J g1 io=>?_⟩;refine⟨λi n σ' H'=>n=ds.length-i/\i<=ds.length/\∃F' bj m',Sm F1 F'/\RS X.K X.H₀ F0 F' H' σ' bj O/\Res m' F0 F' H'/\loopR g b (ds.drop i) bj m'=some rr,⟨ds.length,by omega,by omega,F1,en,m,.refl F1,rs.grow g1,gr _ _ _ _ _ _ res g1,by rw[drop_zero];exact e2⟩,?_⟩;rintro i n σ' H'⟨rfl,hle,F',bj,m',s',bF,cz,e3⟩;rcases VU i ds.length with hi|hi
  ·refine .inr ⟨io.go i F' H' s' bF.fh hi,λσ2 H2=>∃n',n'<ds.length-i/\n'=ds.length-(i+1)/\i+1<=ds.length/\∃F' bj m',Sm F1 F'/\RS X.K X.H₀ F0 F' H2 σ2 bj O/\Res m' F0 F' H2/\loopR g b (ds.drop (i+1)) bj m'=some rr,λσ2 H2⟨n',h1,h2⟩=>⟨n',h1,h2⟩,λx H2 hy=>?_⟩;obtain⟨F2,d,g2,hd,r2⟩:=io.yld i F' H' x H2 s' bF.fh hi hy;have fD:ds.drop i=d::ds.drop (i+1):=by
    rw[O0 hi];rw[Qf hi]at hd;cases hd;rfl
   rw[fD]at e3;obtain⟨fJ,e4,e5⟩:=JB (show((g d bj).bind λe1=>(b e1 m').bind λr=>loopR g b (ds.drop (i+1)) r.1 r.2)=some rr from e3);obtain⟨gj,e6,e7⟩:=JB e5;refine⟨F0,F2,bj,d,fJ,bF.grow g2,r2,e4,λσ3 H3 F3 s3 cA=>?_⟩;have sA:Sm F1 F3:=(s'.trans g2.ff).trans s3.ff;exact⟨F0,F3,fJ,m',gj,cA,gr _ _ _ _ _ _ (gr _ _ _ _ _ _ cz g2) s3,e6,λσ4 F4 H4 s4 cn iL=>⟨_,by omega,rfl,hi,F4,gj.1,gj.2,sA.trans s4,cn,iL,e7⟩⟩
  ·have hz:ds.drop i=[]:=O3 hi;rw[hz]at e3;cases e3;exact .inl ⟨io.stop i F' H' s' bF.fh hi,k σ' F' H' (g1.ff.trans s') bF cz⟩
def Wa{st:Stmt}{b:ZH μ}(h:PS X st (VX X O Res b)):PSs X [st] (VX X O Res b):=Sl h
end
def Cp:V->List V->Hp->VK->Prop:=λx vs H Q=>∃p ah k y,x=.ref p/\vs=[kV k,y]/\H p=some (.dK ah)/\ah.length<sizeLine/\(∀v,Zu ah k=some v->Q v H)/\(Zu ah k=none->Q y (upd H p (.dK (VJ ah k y))))
section
variable{X:Cx}
def QeM:OE X "dict.setdefault" Cp:=by
 intro aa s σ H x vs v us Q I rx rv h;obtain⟨p,ah,k,y,rfl,rfl,hH,hz,q1,q2⟩:=h;cases rx;obtain⟨u,w',rfl,ru,bN⟩:=Me rv;obtain⟨_,di,ps,rel,dd⟩:=EJ I.hok hH;have hlen:=Paired.length rel;have eg:(Yt X.prog X.w).is k u=true:=SW ru;refine PySem.call_meetsIn PySem.F.slot_dict_setdefault dd.typeIs PySem.F.entry_dict_setdefault (PySem.F.args_dict_setdefault_3 _ _ _) (PySem.kt_meets_setdefault (Yt X.prog X.w) p eg di w') ⟨ps,dd,by omega,λv hv=>?_,λhn h' hd hs=>?_⟩;·have e:=rel.val k;rw[hv]at e;cases c:Zu ah k with|none=>rw[c]at e;exact e.elim|some x=>rw[c]at e;exact⟨x,H,I.tok _,e,q1 x c⟩
 ·have e1:Zu ah k=none:=by
   have e:=rel.val k;rw[hn]at e;cases c:Zu ah k with|none=>rfl|some x=>rw[c]at e;exact e.elim
  have hl:(VJ ah k y).length<=sizeLine:=by have:=IG ah k y;omega
  have he:∃q,h'.get? p=some q:=let⟨q,_,_,hq,_⟩:=hd;⟨q,hq⟩;exact⟨y,_,Km I (by rw[hH];exact True.intro) hs he (EI hl di (rel.put k bN) hd),bN,q2 e1⟩
end
abbrev KM:=List (Str×List Int)
noncomputable def addI(l:List Int)(i:Int):List Int:=if l.getLast?=some i then l else l++[i]
def Gr.keepN{F H F' H':Hp}(g:Gr F H F' H'){a:Addr}{o:HO}(h:H a=some o)(f:F a=none):F' a=none:=by cases e:F' a with|none=>rfl|some z=>
  rcases g.fr a z e with y|y;·rw[f]at y;cases y
  ·rw[h]at y;cases y
def RS.nest{K:Fg}{H₀:Hp}{F0:Fz}{F H F' H':Hp}{σ:L2.St}{e:QG}{i:Nat}(r:RS K H₀ F0 F H σ e [Qd i])(hl:e.length<=1000)(s:Sm F F')(s2:Sm F' H')(s3:Sm F0.h H')(fr:∀a o,F' a=some o->F a=some o\/F0.h a=none):RS K H₀ F0 F' H' σ e [Qd i]:=by
 have no:∀{j:Nat}{d:D},e[j]?=some (some d)->j∈[Qd i]->False:=λ{j d}h hj=>by have:=(q_18.mp h).1;have:=q_2.mp hj;unfold Qd at this;omega
 refine⟨s2,s3,r.ff.trans s,λa o h=>?_,λj d h hj=>?_,λj d h hj=>(no h hj).elim,λj _ _ _ _ hj _ h1=>(no h1 hj).elim,r.pin,r.len⟩
 ·rcases fr a o h with z|z;·exact r.fr a o z
  ·exact .inr z
 ·obtain⟨v,h1,h2⟩:=r.slot j d h hj;exact⟨v,h1,h2.mono s⟩
def ML{K:Fg}{F:Hp}{v:V}{x:Str}(r:Rep K F v (.str x)):v=.str x:=by cases r;rfl
def Cs{K:Fg}{F:Hp}{v:V}{x:Int}(r:Rep K F v (.int x)):v=.int x:=by cases r;rfl
section
variable{X:Cx}{i a b:Nat}
def UR{X:Cx}{e:Expr}{es:List Expr}{p pos:Pos}{x:Str}{ps:List Str}{k:Nat}{sp:Sp}{t:TA}(c:Qg X.prog X.w X.K X.mg X.ab k x ps sp)(hr:Room k X.A)(hg:Gl X x)(ha:PA X (e::es) t)(cj:(x==("__debug__":Str))=false:=by decide)(he:starEach (e::es) X.env=(false,eval e X.env)::starEach es X.env:=by rfl)(cD:(backTo pos (starEach es X.env)).any (·.1)=false:=by rfl):PE X (.Call (.Name x p) (e::es) [] pos) (O6 sp [] E0 t):=by obtain⟨fa,fd,F,hb,hk,hm⟩:=c;exact Ih F hr hg hm hk hb .nil Ig ha cj he cD
end
section
variable{K:Fg}{H₀:Hp}{F0:Fz}{F H:Hp}{σ:L2.St}{e:QG}{i:Nat}
def RS.nestIn{p:Addr}(r:RS K H₀ F0 F H σ e [i])(hl:e.length<=1000)(h1:σ[i]?=some (some (.ref p))):RS K H₀ ⟨F0.f,F0.h,some p⟩ F H σ (e.set i none) [Qd i]:=by
 have q:∀{j:Nat}{d:D},(e.set i none)[j]?=some (some d)->j≠i/\e[j]?=some (some d):=λ{j d}h=>by
  rw[Uz]at h;split at h;·split at h<;>cases h
  ·rename_i z;exact⟨λw=>z w.symm,h⟩
 have no:∀{j:Nat}{d:D},(e.set i none)[j]?=some (some d)->j∈[Qd i]->False:=λ{j d}h hj=>by
  have:=(q_18.mp (q h).2).1;have:=q_2.mp hj;unfold Qd at this;omega
 refine⟨r.fh,r.hh,r.ff,r.fr,λj d h hj=>?_,λj d h hj=>(no h hj).elim,λj _ _ _ _ hj _ h1=>(no h1 hj).elim,λj hj=>?_,by rw[WS];exact r.len⟩;·exact r.slot j d (q h).2 λz=>(q h).1 (q_2.mp z)
 ·have:j=i:=by have:=q_2.mp hj;unfold Qd at this;omega
  subst this;exact⟨p,rfl,h1⟩
end
section
variable{μ:Type}{X:Cx}{O:List Nat}{Res:OG μ}
def QcN:PSs X [] (VX X O Res λe m=>some (e,m)):=PSs.imp Cd λDn σ H⟨F0,F,en,m,r,rs,res,z,k⟩=>by cases z;exact k σ F H (.refl F) rs res
end
noncomputable def hdI:List D->Bool|.int _::_=>true|_=>false
mutual inductive NoI:D->Prop where|non:NoI .non|bl(b:Bool):NoI (.bl b)|int(i:Int):NoI (.int i)|str(x:Str):NoI (.str x)|tup{ds:List D}(h:NoIs ds):NoI (.tup ds)|lst{ds:List D}(h:NoIs ds)(hd:hdI ds=false):NoI (.lst ds)inductive NoIs:List D->Prop where|nil:NoIs []|cons{d:D}{ds:List D}(h:NoI d)(r:NoIs ds):NoIs (d::ds)end
def ClI(K:Fg)(G:Hp):Prop:=∀a xs,G a=some (.lst xs)->∀i r,xs≠V.int i::r
theorem ClI.un{K:Fg}{G G':Hp}(c:ClI K G)(c':ClI K G'):ClI K (un G G'):=λa xs h=>by
 rcases Ac h with z|z;·exact c a xs z
 ·exact c' a xs z
def ClI.emp(K:Fg):ClI K λ_=>none:=λa xs h=>by cases h
abbrev SM:=List (Int×List Str×List Str)
noncomputable def Vr(m:SM)(ts:List Addr):List (Kd×V):=(m.map λx=>(Sum.inl x.1:Kd)).zip (ts.map V.ref)
noncomputable def ZQ(p:Addr)(ls ns:List Addr):List Addr:=p::(ls++ns)
structure SH(m:SM)(p:Addr)(ts ls ns:List Addr)(F H:Hp):Prop where
 lt:ts.length=m.length
 ll:ls.length=m.length
 ln:ns.length=m.length
 dc:H p=some (.dK (Vr m ts))nd:(ZQ p ls ns).Nodup
 at_:∀(j:Nat)(t l n:Addr)(x:Int×List Str×List Str),ts[j]?=some t->ls[j]?=some l->ns[j]?=some n->m[j]?=some x->H t=some (.tup [.ref l,.ref n])/\H l=some (.lst (x.2.1.map V.str))/\H n=some (.lst (x.2.2.map V.str))fn:∀a∈ZQ p ls ns,F a=none
 ft:∀t∈ts,F t=none
def SH.gr{m:SM}{p:Addr}{ts ls ns:List Addr}{F H F' H':Hp}(s:SH m p ts ls ns F H)(g:Gr F H F' H'):SH m p ts ls ns F' H':=by
 have one:∀j,j<m.length->∃t l n x,ts[j]?=some t/\ls[j]?=some l/\ns[j]?=some n/\m[j]?=some x:=λj hj=>⟨_,_,_,_,Qf (by rw[s.lt];exact hj),Qf (by rw[s.ll];exact hj),Qf (by rw[s.ln];exact hj),Qf hj⟩;refine⟨s.lt,s.ll,s.ln,g.hh _ _ s.dc,s.nd,λj t l n x a b c d=>?_,λa ha=>?_,λt ht=>?_⟩;·obtain⟨h1,h2,h3⟩:=s.at_ j t l n x a b c d;exact⟨g.hh _ _ h1,g.hh _ _ h2,g.hh _ _ h3⟩
 ·have f:=s.fn a ha;rcases q_5.mp ha with z|z;·rw[z]at f⊢;exact g.keepN s.dc f
  ·rcases q_7.mp z with z|z
   ·obtain⟨j,hj,e⟩:=Ts z;obtain⟨t,l,n,x,h1,h2,h3,h4⟩:=one j (by rw[<-s.ll];exact hj);rw[Qf hj,e]at h2;cases h2;exact g.keepN (s.at_ j t a n x h1 (by rw[Qf hj,e]) h3 h4).2.1 f
   ·obtain⟨j,hj,e⟩:=Ts z;obtain⟨t,l,n,x,h1,h2,h3,h4⟩:=one j (by rw[<-s.ln];exact hj);exact g.keepN (s.at_ j t l a x h1 h2 (by rw[Qf hj,e]) h4).2.2 f
 ·obtain⟨j,hj,e⟩:=Ts ht;obtain⟨t',l,n,x,h1,h2,h3,h4⟩:=one j (by rw[<-s.lt];exact hj);exact g.keepN (s.at_ j t l n x (by rw[Qf hj,e]) h2 h3 h4).1 (s.ft t ht)
def SRes:OG SM:=λm F0 F H=>∃(p:Addr)(ts ls ns:List Addr),F0.p=some p/\SH m p ts ls ns F H/\(∀a∈ZQ p ls ns,F0.h a=none)/\∀t∈ts,F0.h t=none
theorem SRes.gr(m:SM)(F0:Fz)(F H F' H':Hp)(r:SRes m F0 F H)(g:Gr F H F' H'):SRes m F0 F' H':=by obtain⟨p,ts,ls,ns,h1,h2,h3,h4⟩:=r;exact⟨p,ts,ls,ns,h1,h2.gr g,h3,h4⟩
noncomputable def ens:SM->Int->SM|[],g=>[(g,[],[])]|x::m,g=>if x.1=g then x::m else x::ens m g
noncomputable def YT(f:List Str×List Str->List Str×List Str):SM->Int->SM|[],g=>[(g,f ([],[]))]|x::m,g=>if x.1=g then(x.1,f x.2)::m else x::YT f m g
theorem Kr(g:Int):∀(m:SM)(ts:List Addr),ts.length=m.length->(∃(j:Nat)(t:Addr)(x:Int×List Str×List Str),m[j]?=some x/\x.1=g/\ts[j]?=some t/\Zu (Vr m ts) (.inl g)=some (.ref t)/\ens m g=m/\∀f,YT f m g=m.set j (x.1,f x.2))\/(Zu (Vr m ts) (.inl g)=none/\ens m g=m++[(g,[],[])]/\∀f,YT f m g=m++[(g,f ([],[]))])
 |[],[],_=>.inr ⟨rfl,rfl,λ_=>rfl⟩|[],_::_,h=>by simp at h|_::_,[],h=>by simp at h|x::m,t::ts,h=>by
  have hc:Vr (x::m) (t::ts)=(.inl x.1,.ref t)::Vr m ts:=rfl;by_cases e:x.1=g
  ·refine .inl ⟨0,t,x,rfl,e,rfl,?_,?_,λf=>?_⟩;·rw[hc,O9 (by rw[e])]
   ·unfold ens;rw[if_pos e]
   ·unfold YT;rw[if_pos e];rfl
  ·have e':¬(Sum.inl x.1:Kd)=.inl g:=λz=>e (by cases z;rfl);rcases Kr g m ts (by simpa using h)with⟨j,t',x',h1,h2,h3,h4,h5,h6⟩|⟨h1,h2,h6⟩
   ·refine .inl ⟨j+1,t',x',by simpa using h1,h2,by simpa using h3,?_,?_,λf=>?_⟩;·rw[hc,R8 e'];exact h4
    ·unfold ens;rw[if_neg e,h5]
    ·unfold YT;rw[if_neg e,h6];rfl
   ·refine .inr ⟨?_,?_,λf=>?_⟩;·rw[hc,R8 e'];exact h1
    ·unfold ens;rw[if_neg e,h2];rfl
    ·unfold YT;rw[if_neg e,h6];rfl
def Qd6(m:SM)(ts:List Addr)(h:ts.length=m.length):(Vr m ts).length=m.length:=by unfold Vr;rw[Xp,Qo,Qo];omega
theorem DL:∀(m:SM)(ts:List Addr)(x:Int×List Str×List Str)(q:Addr),ts.length=m.length->Vr (m++[x]) (ts++[q])=Vr m ts++[(.inl x.1,.ref q)]|[],[],_,_,_=>rfl|[],_::_,_,_,h=>by simp at h|_::_,[],_,_,h=>by simp at h|y::m,r::ts,x,q,h=>by show(.inl y.1,.ref r)::Vr (m++[x]) (ts++[q])=_;rw[DL m ts x q (by simpa using h)];rfl
def Kept(fp:List Addr)(H H':Hp):Prop:=∀a o,a∉fp->H a=some o->H' a=some o
def Kept.refl(fp:List Addr)(H:Hp):Kept fp H H:=λ_ _ _ h=>h
def SH.keep{m:SM}{p:Addr}{ts ls ns:List Addr}{F H H':Hp}(s:SH m p ts ls ns F H)(k:∀a o,H a=some o->H' a=some o):SH m p ts ls ns F H':=⟨s.lt,s.ll,s.ln,k _ _ s.dc,s.nd,λj t l n x a b c d=>by obtain⟨h1,h2,h3⟩:=s.at_ j t l n x a b c d;exact⟨k _ _ h1,k _ _ h2,k _ _ h3⟩,s.fn,s.ft⟩
def SH.snoc{m:SM}{p:Addr}{ts ls ns:List Addr}{F H H':Hp}(s:SH m p ts ls ns F H){g:Int}{t l n:Addr}(ht:H t=none)(hl:H l=none)(hn:H n=none)(ln:l≠n)(sm:Sm F H)(k:Kept [p] H H')(hp:H' p=some (.dK (Vr (m++[(g,[],[])]) (ts++[t]))))(h1:H' t=some (.tup [.ref l,.ref n]))(h2:H' l=some (.lst []))(h3:H' n=some (.lst [])):SH (m++[(g,[],[])]) p (ts++[t]) (ls++[l]) (ns++[n]) F H':=by
 have old:∀a∈ZQ p ls ns,∃o,H a=some o:=λa ha=>by
  rcases q_5.mp ha with z|z;·rw[z];exact⟨_,s.dc⟩
  ·rcases q_7.mp z with z|z
   ·obtain⟨j,hj,rfl⟩:=Ts z;have h':j<m.length:=by rw[<-s.ll];exact hj
    exact⟨_,(s.at_ j _ _ _ _ (Qf (by rw[s.lt];exact h')) (Qf hj) (Qf (by rw[s.ln];exact h')) (Qf h')).2.1⟩
   ·obtain⟨j,hj,rfl⟩:=Ts z;have h':j<m.length:=by rw[<-s.ln];exact hj
    exact⟨_,(s.at_ j _ _ _ _ (Qf (by rw[s.lt];exact h')) (Qf (by rw[s.ll];exact h')) (Qf hj) (Qf h')).2.2⟩
 have new:∀a,H a=none->a∉ZQ p ls ns:=λa ha z=>by obtain⟨o,e⟩:=old a z;rw[ha]at e;cases e
 have nd:=s.nd;have np:∀a∈ls++ns,a≠p:=λa ha z=>(q_46.mp nd).1 (z▸ha);have gq:(ls++ns).Nodup:=(q_46.mp nd).2;have lp:l≠p:=λz=>new l hl (by rw[z];exact Ja);have kf:n≠p:=λz=>new n hn (by rw[z];exact Ja);have mem:∀a,a∈ZQ p (ls++[l]) (ns++[n])↔a∈ZQ p ls ns\/a=l\/a=n:=λa=>by unfold ZQ;simp only[q_5,q_7,q_2];grind
 refine⟨by simp[s.lt],by simp[s.ll],by simp[s.ln],hp,?_,λj t' l' n' x a b c d=>?_,λa ha=>?_,λt' h=>?_⟩
 ·have l1:l∉ls++ns:=λz=>new l hl (JO _ z);have n1:n∉ls++ns:=λz=>new n hn (JO _ z);have pp:p∉ls++ns:=(q_46.mp nd).1;unfold ZQ;rw[q_46];refine⟨λz=>?_,?_⟩
  ·simp only[q_7,q_2]at z;simp only[q_7,not_or]at pp;rcases z with(z|z)|(z|z);·exact pp.1 z
   ·exact lp z.symm
   ·exact pp.2 z
   ·exact kf z.symm
  ·simp only[q_7,not_or]at l1 n1;rw[q_60]at gq⊢;refine⟨?_,?_,?_⟩;·rw[q_60];exact⟨gq.1,by simp,λa ha b hb e=>by rw[q_2.mp hb]at e;exact l1.1 (e▸ha)⟩
   ·rw[q_60];exact⟨gq.2.1,by simp,λa ha b hb e=>by rw[q_2.mp hb]at e;exact n1.2 (e▸ha)⟩
   ·intro a ha b hb e;rcases q_7.mp ha with z|z<;>rcases q_7.mp hb with y|y;·exact gq.2.2 a z b y e
    ·rw[q_2.mp y]at e;exact n1.1 (e▸z)
    ·rw[q_2.mp z]at e;exact l1.2 (e▸y)
    ·rw[q_2.mp z,q_2.mp y]at e;exact ln e
 ·rcases VU j m.length with hj|hj
  ·rw[YO (by rw[s.lt];exact hj)]at a;rw[YO (by rw[s.ll];exact hj)]at b;rw[YO (by rw[s.ln];exact hj)]at c;rw[YO hj]at d;obtain⟨e1,e2,e3⟩:=s.at_ j t' l' n' x a b c d;have tp:t'≠p:=λz=>by rw[z,s.dc]at e1;cases e1
   exact⟨k _ _ (by simpa using tp) e1,k _ _ (by simpa using np _ (Vi _ (VL b))) e2,k _ _ (by simpa using np _ (YZ _ (VL c))) e3⟩
  ·have ej:j=m.length:=by
    have:=(q_18.mp d).1;simp at this;omega
   subst ej;rw[Vx (by rw[s.lt];exact Qz _),s.lt,sub_self]at a;rw[Vx (by rw[s.ll];exact Qz _),s.ll,sub_self]at b;rw[Vx (by rw[s.ln];exact Qz _),s.ln,sub_self]at c;rw[Vx (Qz _),sub_self]at d;cases a;cases b;cases c;cases d;exact⟨h1,h2,h3⟩
 ·rcases(mem a).mp ha with z|z|z;·exact s.fn a z
  ·rw[z];exact sm.none hl
  ·rw[z];exact sm.none hn
 ·rcases q_7.mp h with z|z;·exact s.ft t' z
  ·rw[q_2.mp z];exact sm.none ht
def R3:Sp:=λvs H Q _=>∃F m p ts ls ns g,Sm F H/\vs=[.ref p,.int g]/\SH m p ts ls ns F H/\m.length<1000/\∀(H':Hp)(cg bY bJ:List Addr)(j:Nat)(t:Addr),Kept [p] H H'->SH (ens m g) p cg bY bJ F H'->(∀a,a∈bY\/a∈bJ\/a∈cg->(a∈ls\/a∈ns\/a∈ts)\/H a=none)->cg[j]?=some t->(∃x:Int×List Str×List Str,(ens m g)[j]?=some x/\x.1=g/\∀f,YT f m g=(ens m g).set j (x.1,f x.2))->Q (.ref t) H'
section
variable{P:Program}{w:World}{K:Fg}{mg:Str->Option Value}{ab:Heap}{x y z:Str}{st:Stmt}{k:Nat}
def okQ(h:Df K mg x st [y,z])(S:FnScope [y,z] [y,z] (Qr st))(hb:∀(f:Addr)(aA:Value)(A:Around)(ag:List Env)(s:Shared)(H:Hp)(E:XK),Room k (A.deeper (envOfC x (Qr st) s.heap.objs.size f aA))->PSs (Vb V8 P w K mg ab [y,z] x (Qr st) f aA A ag s H E).nox (VN st) (AH (R6 K "dict" Cp (W0 0) (WC (W0 1) (WC (AI (WC (Ho X7) (WC (Ho X7) X7))) X7))))):Qg P w K mg ab (k+1) x [y,z] R3:=by
 obtain⟨f,fd,F,d4,hm⟩:=h;refine⟨f,fd,F.ok S (λvs H Q E q=>by obtain⟨_,_,_,_,_,_,_,_,hv,_⟩:=q;rw[hv];rfl) (λaA A ag s H vs Q E hr q=>?_),d4,F.kp,hm⟩;obtain⟨Fz,m,p,ts,ls,ns,g,sm,hv,sh,ml,k⟩:=q;refine⟨_,hb f aA A ag s H E hr,?_⟩;have cH:Wl [y,z] vs=[some (V.ref p),some (.int g)]:=by rw[hv];rfl
 rw[cH];have hz:=sizeLine_eq;have kl:=Qd6 m ts sh.lt;refine⟨.ref p,rfl,.inr (.inr (.inl ⟨rfl,.inl ⟨_,sh.dc⟩⟩)),.int g,rfl,zero_le _,λl hl=>⟨zero_le _,λn hn=>⟨by simp;omega,λt ht=>?_⟩⟩⟩;have nl:n≠l:=λe=>by rw[e,Jz]at hn;cases hn
 have dD:H n=none:=by rw[Qi nl]at hn;exact hn
 have tn:t≠n:=λe=>by rw[e,Jz]at ht;cases ht
 have tl:t≠l:=λe=>by rw[Qi tn,e,Jz]at ht;cases ht
 have gB:H t=none:=by rw[Qi tn,Qi tl]at ht;exact ht
 have keep:∀a o,H a=some o->upd (upd (upd H l (.lst [])) n (.lst [])) t (.tup [.ref l,.ref n]) a=some o:=λa o e=>by
  rw[Qi (λz=>by rw[z,gB]at e;cases e),Qi (λz=>by rw[z,dD]at e;cases e),Qi (λz=>by rw[z,hl]at e;cases e)];exact e
 refine⟨p,Vr m ts,.inl g,.ref t,rfl,rfl,keep _ _ sh.dc,by omega,λv hv=>?_,λdB=>?_⟩
 ·rcases Kr g m ts sh.lt with⟨j,t0,x0,a1,a2,a3,a4,a5,a6⟩|⟨a1,_⟩
  ·rw[hv]at a4;cases a4;exact k _ ts ls ns j t0 (λa o _ e=>keep a o e) (by rw[a5];exact sh.keep keep) (λa ha=>.inl ha) a3 ⟨x0,by rw[a5,a1],a2,λf=>by rw[a5,a6]⟩
  ·rw[hv]at a1;cases a1
 ·rcases Kr g m ts sh.lt with⟨j,t0,x0,a1,a2,a3,a4,a5,a6⟩|⟨_,a5,a6⟩;·rw[dB]at a4;cases a4
  ·have pt:p≠t:=λe=>by have:=sh.dc;rw[e,gB]at this;cases this
   have pn:p≠n:=λe=>by have:=sh.dc;rw[e,dD]at this;cases this
   have pl:p≠l:=λe=>by have:=sh.dc;rw[e,hl]at this;cases this
   have kp:Kept [p] H (upd (upd (upd (upd H l (.lst [])) n (.lst [])) t (.tup [.ref l,.ref n])) p (.dK (VJ (Vr m ts) (.inl g) (.ref t)))):=λa o ha e=>by rw[Qi (by simpa using ha)];exact keep a o e
   refine k _ (ts++[t]) (ls++[l]) (ns++[n]) m.length t kp ?_ (λa ha=>?_) (by rw[<-sh.lt];simp) ⟨(g,[],[]),by rw[a5];simp,rfl,λf=>by rw[a5,a6];simp⟩
   ·rw[a5];refine sh.snoc gB hl dD (Ne.symm nl) sm kp ?_ ?_ ?_ ?_;·rw[Jz,Qhs _ dB,DL m ts _ t sh.lt]
    ·rw[Qi (Ne.symm pt),Jz]
    ·rw[Qi (Ne.symm pl),Qi (Ne.symm tl),Qi (Ne.symm nl),Jz]
    ·rw[Qi (Ne.symm pn),Qi (Ne.symm tn),Jz]
   ·simp only[q_7,q_2]at ha;rcases ha with(h|h)|(h|h)|(h|h);·exact .inl (.inl h)
    ·right;rw[h];exact hl
    ·exact .inl (.inr (.inl h))
    ·right;rw[h];exact dD
    ·exact .inl (.inr (.inr h))
    ·right;rw[h];exact gB
end
def SH.memL{m:SM}{p:Addr}{ts ls ns:List Addr}{F H:Hp}(s:SH m p ts ls ns F H){j:Nat}{l:Addr}(h:ls[j]?=some l):l∈ZQ p ls ns:=JO _ (Vi _ (VL h))
def SH.memN{m:SM}{p:Addr}{ts ls ns:List Addr}{F H:Hp}(s:SH m p ts ls ns F H){j:Nat}{n:Addr}(h:ns[j]?=some n):n∈ZQ p ls ns:=JO _ (YZ _ (VL h))
theorem SH.set{m:SM}{p:Addr}{ts ls ns:List Addr}{F H:Hp}(s:SH m p ts ls ns F H){j:Nat}{t l n q:Addr}{x:Int×List Str×List Str}{L N:List Str}(hx:m[j]?=some x)(ht:ts[j]?=some t)(hl:ls[j]?=some l)(hn:ns[j]?=some n)(h:q=l/\N=x.2.2\/q=n/\L=x.2.1){zs:List V}(hz:zs=(if q=l then L else N).map V.str):SH (m.set j (x.1,L,N)) p ts ls ns F (upd H q (.lst zs)):=by
 obtain⟨c1,c2,c3⟩:=s.at_ j t l n x ht hl hn hx;have nd:=s.nd;have js:=q_46.mp nd;have fj:=q_60.mp js.2;have lm:=VL hl;have nm:=VL hn;have fm:l≠n:=λe=>fj.2.2 l lm n nm e;have qf:q∈ls++ns:=by rcases h with⟨z,_⟩|⟨z,_⟩<;>rw[z];exact Vi _ lm;exact YZ _ nm
 have pq:p≠q:=λe=>js.1 (e▸qf);have qs:∃us,H q=some (.lst us):=by rcases h with⟨z,_⟩|⟨z,_⟩<;>rw[z];exact⟨_,c2⟩;exact⟨_,c3⟩
 obtain⟨us,hq⟩:=qs;have tq:∀{t' l' n':Addr},H t'=some (.tup [.ref l',.ref n'])->t'≠q:=λe z=>by rw[z,hq]at e;cases e
 have hk:Vr (m.set j (x.1,L,N)) ts=Vr m ts:=by
  unfold Vr;congr 1;apply List.ext_getElem?;intro i;rw[Yz,Yz,Uz];split
  ·rename_i z;subst z;rw[if_pos (q_18.mp hx).1,hx];rfl
  ·rfl
 refine⟨by rw[WS];exact s.lt,by rw[WS];exact s.ll,by rw[WS];exact s.ln,by rw[Qi pq,hk];exact s.dc,nd,λi t' l' n' x' a b c d=>?_,s.fn,s.ft⟩;rw[Uz]at d;split at d
 ·rename_i z;subst z;rw[if_pos (q_18.mp hx).1]at d;cases d;rw[ht]at a;cases a;rw[hl]at b;cases b;rw[hn]at c;cases c;refine⟨by rw[Qi (tq c1)];exact c1,?_,?_⟩
  ·rcases h with⟨z,e⟩|⟨z,e⟩;·rw[if_pos z]at hz;rw[z,Jz,hz]
   ·rw[Qi (by rw[z];exact fm),e];exact c2
  ·rcases h with⟨z,e⟩|⟨z,e⟩;·rw[Qi (by rw[z];exact Ne.symm fm),e];exact c3
   ·rw[if_neg (by rw[z];exact Ne.symm fm)]at hz;rw[z,Jz,hz]
 ·rename_i z;obtain⟨d1,d2,d3⟩:=s.at_ i t' l' n' x' a b c d;have l1:l'≠l:=λw=>z ((List.getElem?_inj (q_18.mp hl).1 fj.1).mp (by rw[hl,b,w]));have n1:n'≠n:=λw=>z ((List.getElem?_inj (q_18.mp hn).1 fj.2.1).mp (by rw[hn,c,w]));have l2:l'≠n:=λw=>fj.2.2 l' (VL b) n nm w;have n2:n'≠l:=λw=>fj.2.2 l lm n' (VL c) w.symm;have lq:l'≠q:=by rcases h with⟨y,_⟩|⟨y,_⟩<;>rw[y]<;>assumption
  have nq:n'≠q:=by rcases h with⟨y,_⟩|⟨y,_⟩<;>rw[y]<;>assumption
  exact⟨by rw[Qi (tq d1)];exact d1,by rw[Qi lq];exact d2,by rw[Qi nq];exact d3⟩
section
variable{K:Fg}{H₀:Hp}{F0:Fz}{F H:Hp}{σ:L2.St}{e:QG}{i:Nat}{m:SM}{p:Addr}{ts ls ns:List Addr}
def SH.asked(rs:RS K H₀ F0 F H σ e [Qd i])(hl:e.length<=1000)(sh:SH m p ts ls ns F H)(h3:∀a∈ZQ p ls ns,F0.h a=none)(h4:∀t∈ts,F0.h t=none){H':Hp}{m':SM}{cg bY bJ:List Addr}(k:Kept [p] H H')(fc:SH m' p cg bY bJ F H')(nw:∀a,a∈bY\/a∈bJ\/a∈cg->(a∈ls\/a∈ns\/a∈ts)\/H a=none):RS K H₀ F0 F H' σ e [Qd i]/\(∀a∈ZQ p bY bJ,F0.h a=none)/\∀t∈cg,F0.h t=none:=by
 have fp:=sh.fn p Ja;have hp:=h3 p Ja;have one:∀a,a∈bY\/a∈bJ\/a∈cg->F0.h a=none:=λa ha=>by
  rcases nw a ha with(z|z|z)|z;·exact h3 a (JO _ (Vi _ z))
  ·exact h3 a (JO _ (YZ _ z))
  ·exact h4 a z
  ·exact rs.hh.none z
 refine⟨rs.nest hl (.refl F) (λa o h=>k a o (λz=>by rw[q_2.mp z,fp]at h;cases h) (rs.fh a o h)) (λa o h=>k a o (λz=>by rw[q_2.mp z,hp]at h;cases h) (rs.hh a o h)) λa o h=>.inl h,λa ha=>? _,λt ht=>one t (.inr (.inr ht))⟩;rcases q_5.mp ha with z|z;·rw[z];exact hp
 ·rcases q_7.mp z with z|z;·exact one a (.inl z)
  ·exact one a (.inr (.inl z))
def RS.wr(rs:RS K H₀ F0 F H σ e [Qd i])(hl:e.length<=1000){q:Addr}(hf:F q=none)(hh:F0.h q=none)(o:HO):RS K H₀ F0 F (upd H q o) σ e [Qd i]:=rs.nest hl (.refl F) (rs.fh.upd _ hf) (rs.hh.upd _ hh) λa o h=>.inl h
end
noncomputable def Xv:List D->Option (List Str)|[]=>some []|.str x::r=>(Xv r).map (x::·)|_=>none
theorem Hm{K:Fg}{F:Hp}:∀{zs:List V}{ds:List D}{L:List Str},Reps K F zs ds->Xv ds=some L->zs=L.map V.str|_,_,L,.nil,e=>by cases e;rfl|_,_,L,.cons (d:=d) h r,e=>by cases h with|str x=>obtain⟨M,e1,rfl⟩:=Z5 e;rw[Hm r e1];rfl|_=>cases e
def OM(pg lv:Q7):ZH SM:=λe m=>match pg e,lv e with|some (.int g),some (.lst ds)=>(Xv ds).bind λL=>if e.length<=1000/\m.length<1000/\L.length<=100000/\(∀x∈ens m g,x.2.1.length<=100000)then some (e,YT (λx=>(x.1++L,x.2)) m g)else none|_,_=>none
section
variable{X:Cx}{i:Nat}
def QcG{st:Stmt}{pg lv:Q7}(h:PS X st (R7 (R6 X.K "list" MK (X8 (UY X.K) (O6 R3 [] E0 (WC (W0 i) (WC (tD X [Qd i] pg) X7))) (tC (.int 0))) (WC (tD X [Qd i] lv) X7)))):PS X st (VX X [Qd i] SRes (OM pg lv)):=PS.imp h λDn σ H⟨F0,F,en,m,r,rs,res,z,k⟩=>by
  obtain⟨g,ds,L,ib,kX,hL,hl,ml,Ll,xl,rfl⟩:∃g ds L,pg en=some (.int g)/\lv en=some (.lst ds)/\Xv ds=some L/\en.length<=1000/\m.length<1000/\L.length<=100000/\(∀x∈ens m g,x.2.1.length<=100000)/\r=(en,YT (λx=>(x.1++L,x.2)) m g):=by
   unfold OM at z;split at z
   ·rename_i g ds h1 h2;obtain⟨L,h3,h4⟩:=JB z;split at h4
    ·rename_i hh;cases h4;exact⟨g,ds,L,h1,h2,h3,hh.1,hh.2.1,hh.2.2.1,hh.2.2.2,rfl⟩
    ·cases h4
   ·cases z
  obtain⟨p,ts,ls,ns,h1,sh,h3,h4⟩:=res;obtain⟨p',cL,hσ⟩:=rs.pin i (q_2.mpr rfl);rw[h1]at cL;cases cL;have hG:=sizeLine_eq;refine⟨.ref p,hσ,F0,F,en,_,rs,ib,λv F1 H1 g1 r1=>?_⟩;have ev:=Cs r1;subst ev;have bT:=rs.grow g1;have fb:=sh.gr g1;refine⟨F1,m,p,ts,ls,ns,g,bT.fh,rfl,fb,ml,λH2 cg bY bJ j t kp cO nw dw⟨x,hx,_,hu⟩=>?_⟩;obtain⟨cP,eS,iz⟩:=fb.asked bT hl h3 h4 kp cO nw;have hj:j<(ens m g).length:=(q_18.mp hx).1;obtain⟨l,lj⟩:∃l,bY[j]?=some l:=⟨_,Qf (by rw[cO.ll];exact hj)⟩;obtain⟨n,nj⟩:∃n,bJ[j]?=some n:=⟨_,Qf (by rw[cO.ln];exact hj)⟩;obtain⟨c1,c2,c3⟩:=cO.at_ j t _ _ x dw lj nj hx;refine .inr (.inl ⟨t,_,0,.ref l,rfl,rfl,SqT.of c1,rfl,?_⟩);refine⟨.inl ⟨rfl,_,SqL.of c2⟩,F0,F1,en,_,cP,kX,λu F3 H3 g3 r3=>?_⟩;cases r3 with|lst hb hr=>rename_i b zs;have ez:=Hm hr hL;subst ez;have gR:=cO.gr g3;have cA:=cP.grow g3;have xb:=xl x (VL hx);refine⟨l,b,_,_,rfl,rfl,g3.hh _ _ c2,g3.fh _ _ hb,by rw[Qo,Qo];omega,?_⟩;have lm:=gR.memL lj;refine k σ F3 _ (g1.ff.trans g3.ff) (cA.wr hl (gR.fn _ lm) (eS _ lm) _) ⟨p,cg,bY,bJ,h1,?_,eS,iz⟩;show SH (YT (λx=>(x.1++L,x.2)) m g) p cg bY bJ F3 _;rw[hu];exact gR.set (L:=x.2.1++L) (N:=x.2.2) hx dw lj nj (.inl ⟨rfl,rfl⟩) (by rw[if_pos rfl,YQ])
end
def R4(K:Fg)(f:List D->SM->Option SM):Sp:=λvs H Q _=>∃F m p ts ls ns us cs m',Sm F H/\vs=.ref p::us/\Reps K F us cs/\SH m p ts ls ns F H/\f cs m=some m'/\∀(F' H':Hp)(cg bY bJ:List Addr),Sm F F'->Sm F' H'->Kept (ZQ p ls ns++ts) H H'->(∀a o,F' a=some o->F a=some o\/(a∈ZQ p ls ns\/a∈ts)\/H a=none)->SH m' p cg bY bJ F' H'->(∀a,a∈ZQ p bY bJ\/a∈cg->(a∈ZQ p ls ns\/a∈ts)\/H a=none)->Q .non H'
def XE(n k:Nat)(b:ZH SM)(cs:List D)(m:SM):Option SM:=if cs.length+1=k/\k<=n/\n<=1000 then(b (none::sD (n-1) cs) m).map (·.2)else none
section
variable{P:Program}{w:World}{K:Fg}{mg:Str->Option Value}{ab:Heap}{x:Str}{st:Stmt}{N ps:List Str}{k:Nat}{b:ZH SM}
def NR(h:Df K mg x st ps)(S:FnScope N ps (Qr st))(hb:∀(f:Addr)(aA:Value)(A:Around)(ag:List Env)(s:Shared)(H:Hp)(E:XK),Room k (A.deeper (envOfC x (Qr st) s.heap.objs.size f aA))->PSs (Vb V8 P w K mg ab N x (Qr st) f aA A ag s H E).nox (VN st) (VX (Vb V8 P w K mg ab N x (Qr st) f aA A ag s H E).nox [Qd 0] SRes b)):Qg P w K mg ab (k+1) x ps (R4 K (XE N.length ps.length b)):=by
 obtain⟨f,fd,F,d4,hm⟩:=h;have cond:∀{cs:List D}{m m':SM},XE N.length ps.length b cs m=some m'->cs.length+1=ps.length/\ps.length<=N.length/\N.length<=1000/\∃r,b (none::sD (N.length-1) cs) m=some r/\r.2=m':=λ{cs m m'}e=>by
  unfold XE at e;split at e
  ·rename_i hh;obtain⟨r,h1,h2⟩:=Z5 e;exact⟨hh.1,hh.2.1,hh.2.2,r,h1,h2⟩
  ·cases e
 refine⟨f,fd,F.ok S (λvs H Q E q=>?_) (λaA A ag s H vs Q E hr q=>?_),d4,F.kp,hm⟩
 ·obtain⟨_,_,_,_,_,_,us,cs,_,_,hv,r,_,e,_⟩:=q;have:=(cond e).1;have:=r.length;rw[hv,JV];omega
 ·obtain⟨Fq,m,p,ts,ls,ns,us,cs,m',sm,hv,r,sh,e,k⟩:=q;refine⟨_,hb f aA A ag s H E hr,?_⟩;obtain⟨c1,c2,c3,rr,c4,c5⟩:=cond e;have ul:=r.length;have cH:Wl N vs=some (V.ref p)::(us.map some++List.replicate (N.length-1-us.length) none):=by
   rw[hv];show(V.ref p::us).map some++List.replicate (N.length-(us.length+1)) none=_;rw[ZT,List.cons_append,show N.length-(us.length+1)=N.length-1-us.length by omega]
  rw[cH];let F0:Fz:=⟨Fq,λa=>if a∈ZQ p ls ns++ts then none else H a,some p⟩;have jG:∀a,a∈ZQ p ls ns++ts->F0.h a=none:=λa ha=>if_pos ha;have len:(none::sD (N.length-1) cs:QG).length=N.length:=by unfold sD;simp;omega
  have no:∀{j:Nat}{d:D},(none::sD (N.length-1) cs:QG)[j]?=some (some d)->j∉[Qd 0]:=λ{j d}h hj=>by
   have:=(q_18.mp h).1;have:=q_2.mp hj;unfold Qd at this;rw[len]at*;omega
  have rs:RS K H F0 Fq H (some (V.ref p)::(us.map some++List.replicate (N.length-1-us.length) none)) (none::sD (N.length-1) cs) [Qd 0]:=by
   refine⟨sm,λa o h=>?_,.refl Fq,λa o h=>.inl h,λj d h hj=>?_,λj d h hj=>absurd hj (no h),λj _ _ _ _ hj _ h1=>absurd hj (no h1),λj hj=>?_,?_⟩
   ·have h':(if a∈ZQ p ls ns++ts then none else H a)=some o:=h;split at h';·cases h'
    ·exact h'
   ·cases j with
    |zero=>simp at h|succ j=>
     rw[WU]at h⊢;unfold sD at h;rcases VU j cs.length with hl|hl
     ·rw[YO (by rw[Qo];exact hl),Yz]at h;obtain⟨c,hc,e⟩:=q_78.mp h;cases e;obtain⟨v,h1,h2⟩:=r.get hc;exact⟨v,by rw[YO (by rw[Qo,ul];exact hl),Yz,h1];rfl,h2⟩
     ·rw[Vx (by rw[Qo];exact hl),Sq]at h;split at h<;>cases h
   ·have:j=0:=by
     have:=q_2.mp hj;unfold Qd at this;omega
    subst this;exact⟨p,rfl,rfl⟩
   ·unfold sD;simp;omega
  have sres:SRes m F0 Fq H:=⟨p,ts,ls,ns,rfl,sh,λa ha=>jG a (Vi _ ha),λt ht=>jG t (YZ _ ht)⟩;refine⟨F0,Fq,_,m,rr,rs,sres,c4,λσ' F' H' s' bF cz=>?_⟩;obtain⟨p',cg,bY,bJ,h1,fc,h3,h4⟩:=cz;cases h1;rw[c5]at fc;have out:∀a,F0.h a=none->(a∈ZQ p ls ns\/a∈ts)\/H a=none:=λa ha=>by
   have h':(if a∈ZQ p ls ns++ts then none else H a)=none:=ha;split at h';·rename_i z;exact .inl (q_7.mp z)
   ·exact .inr h'
  refine k F' H' cg bY bJ s' bF.fh (λa o ha e=>bF.hh a o (show(if a∈ZQ p ls ns++ts then none else H a)=some o by rw[if_neg ha];exact e)) (λa o h=>?_) fc λa ha=>out a (ha.elim (h3 a) (h4 a));rcases bF.fr a o h with z|z;·exact .inl z
  ·exact .inr (out a z)
end
noncomputable def W3(f:List D->SM->Option SM)(l:ZC):ZH SM:=λe m=>if e.length<=1000 then(l e).bind λds=>(f ds m).map λm'=>(e,m')else none
noncomputable def Wn(cv:Q7)(ba bb:ZH SM):ZH SM:=λe m=>match cv e with|some (.bl true)=>ba e m|some (.bl false)=>bb e m|_=>none
noncomputable def U1(a b:ZH SM):ZH SM:=λe m=>(a e m).bind λr=>b r.1 r.2
section
variable{X:Cx}{i:Nat}
def TR{st:Stmt}{f:List D->SM->Option SM}{l:ZC}(h:PS X st (R7 (O6 (R4 X.K f) [] E0 (WC (W0 i) (tL X [Qd i] l))))):PS X st (VX X [Qd i] SRes (W3 f l)):=PS.imp h λDn σ H⟨F0,F,en,m,r,rs,res,z,k⟩=>by
  unfold W3 at z;split at z
  ·rename_i hl;obtain⟨ds,e1,z1⟩:=JB z;obtain⟨m',e2,rfl⟩:=Z5 z1;obtain⟨p,ts,ls,ns,h1,sh,h3,h4⟩:=res;obtain⟨p',cL,hσ⟩:=rs.pin i (q_2.mpr rfl);rw[h1]at cL;cases cL;refine⟨.ref p,hσ,F0,F,en,ds,rs,e1,λvs F1 H1 g1 r1=>?_⟩;have bT:=rs.grow g1;refine⟨F1,m,p,ts,ls,ns,vs,ds,m',bT.fh,by rw[Yx],r1,sh.gr g1,e2,λF' H' cg bY bJ s1 s2 kp fr fc nw=>?_⟩;have cZ:∀a,a∈ZQ p ls ns\/a∈ts->F0.h a=none:=λa ha=>ha.elim (h3 a) (h4 a);have out:∀a,a∈ZQ p bY bJ\/a∈cg->F0.h a=none:=λa ha=>(nw a ha).elim (cZ a) λy=>bT.hh.none y;refine k σ F' H' (g1.ff.trans s1) (bT.nest hl s1 s2 (λa o h=>kp a o (λz=>by rw[cZ a (q_7.mp z)]at h;cases h) (bT.hh a o h)) λa o h=>?_) ⟨p,cg,bY,bJ,h1,fc,λa ha=>out a (.inl ha),λt ht=>out t (.inr ht)⟩;rcases fr a o h with y|y|y;·exact .inl y
   ·exact .inr (cZ a y)
   ·exact .inr (bT.hh.none y)
  ·cases z
def Oh{c:Expr}{a b:List Stmt}{cv:Q7}{ba bb:ZH SM}{pos:Pos}(hc:PT X c (tDT X [Qd i] cv))(ha:PSs X a (VX X [Qd i] SRes ba))(hb:PSs X b (VX X [Qd i] SRes bb)):PS X (.If c a b pos) (VX X [Qd i] SRes (Wn cv ba bb)):=PS.imp (Il hc ha hb) λDn σ H⟨F0,F,en,m,r,rs,res,z,k⟩=>by
  unfold Wn at z;split at z
  ·rename_i e1;exact⟨_,F,_,true,rs,e1,λF' H' g=>UM ⟨_,F',en,m,r,rs.grow g,SRes.gr _ _ _ _ _ _ res g,z,λσ' F2 H2 s=>k σ' F2 H2 (g.ff.trans s)⟩⟩
  ·rename_i e1;exact⟨_,F,_,false,rs,e1,λF' H' g=>UL ⟨_,F',en,m,r,rs.grow g,SRes.gr _ _ _ _ _ _ res g,z,λσ' F2 H2 s=>k σ' F2 H2 (g.ff.trans s)⟩⟩
  ·cases z
def QcL{st:Stmt}{J7:List Stmt}{ba bb:ZH SM}(h1:PS X st (VX X [Qd i] SRes ba))(h2:PSs X J7 (VX X [Qd i] SRes bb)):PSs X (st::J7) (VX X [Qd i] SRes (U1 ba bb)):=PSs.imp (Tp h1 h2) λDn σ H⟨F0,F,en,m,r,rs,res,z,k⟩=>by obtain⟨q,e1,e2⟩:=JB z;exact⟨F0,F,en,m,q,rs,res,e1,λσ' F' H' s bF cz=>⟨F0,F',q.1,q.2,r,bF,cz,e2,λσ2 F2 H2 s2=>k σ2 F2 H2 (s.trans s2)⟩⟩
end
noncomputable def XI(x:Str)(l:List Str):List Str:=match l.getLast? with|none=>l|some y=>l.set (l.length-1) (y++" "++x)
def Tw(c:Bool)(x:Str)(N:List Str)(s:List Str×List Str):List Str×List Str:=(if c then s.1++[x]else XI x s.1,s.2++N)
def Ak(c:Bool)(x:Str)(N:List Str)(m:SM)(g:Int):Prop:=m.length<1000/\x.length<=100000/\N.length<=100000/\∀s∈ens m g,s.2.1.length<=100000/\s.2.2.length<=100000/\(s.1=g->c=false->s.2.1≠[]/\∀y∈s.2.1,y.length<=100000)
open Classical in noncomputable def OO(pg cv:Q7):ZH SM:=λe m=>match pg e,cv e,e with|some (.int g),some (.bl c),[_,_,some (.str x),some (.lst ds),none,none]=>(Xv ds).bind λN=>if Ak c x N m g then some (e,YT (Tw c x N) m g)else none|_,_,_=>none
section
variable{K:Fg}{H₀:Hp}{F0:Fz}{F H:Hp}{σ:L2.St}{e:QG}{i:Nat}
def RS.raw(r:RS K H₀ F0 F H σ e [Qd i])(hl:e.length<=1000){j:Nat}(hj:e[j]?=some none)(ji:j≠i)(v:V):RS K H₀ F0 F H (σ.set j (some v)) e [Qd i]:=by
 have no:∀{j:Nat}{d:D},e[j]?=some (some d)->j∈[Qd i]->False:=λ{j d}h hj=>by
  have:=(q_18.mp h).1;have:=q_2.mp hj;unfold Qd at this;omega
 refine⟨r.fh,r.hh,r.ff,r.fr,λk d h hk=>?_,λk d h hk=>(no h hk).elim,λk _ _ _ _ hk _ h1=>(no h1 hk).elim,λk hk=>?_,by rw[WS];exact r.len⟩
 ·have:j≠k:=λz=>by rw[z,h]at hj;cases hj
  rw[Ux this];exact r.slot k d h hk
 ·have:k=i:=by
   have:=q_2.mp hk;unfold Qd at this;omega
  subst this;rw[Ux ji];exact r.pin k hk
end
noncomputable abbrev Ck:R2:=λx y H Q=>∃i j,x=.str i/\y=.str j/\i.length+j.length<=sizeLine/\Q (.str (i++j)) H
abbrev AF:TE:=AJ (rU λi=>.int (-i)) (tC (.int 1))
section
variable{X:Cx}
def QcP{body:List Stmt}{pg cv:Q7}(h:PSs X body (MY (R5 (O6 R3 [] E0 (WC (W0 0) (WC (tD X [Qd 0] pg) X7))) (P2 4)) (MY (R5 (X8 (UY X.K) (W0 4) (tC (.int 0))) (P2 5)) (MY (AE (tDT X [Qd 0] cv) (R7 (R6 X.K "list" Cj (W0 5) (WC (W0 2) X7))) (R5 (X8 Ck (X8 Ck (X8 (UY X.K) (W0 5) AF) (tC (.str " "))) (W0 2)) (Ey (W0 5) AF Cq))) (R7 (R6 X.K "list" MK (X8 (UY X.K) (W0 4) (tC (.int 1))) (WC (W0 3) X7))))))):PSs X body (VX X [Qd 0] SRes (OO pg cv)):=PSs.imp h λDn σ H⟨F0,F,en,m,r,rs,res,z,k⟩=>by
  obtain⟨g,c,x,ds,N,q0,q1,ib,lJ,he,hN,wc,rfl⟩:∃g c x ds N q0 q1,pg en=some (.int g)/\cv en=some (.bl c)/\en=[q0,q1,some (.str x),some (.lst ds),none,none]/\Xv ds=some N/\Ak c x N m g/\r=(en,YT (Tw c x N) m g):=by
   unfold OO at z;split at z
   ·rename_i g c q0 q1 x ds h1 h2;obtain⟨N,h3,h4⟩:=JB z;split at h4
    ·rename_i hh;cases h4;exact⟨g,c,x,ds,N,q0,q1,h1,h2,rfl,h3,hh,rfl⟩
    ·cases h4
   ·cases z
  have hl:en.length<=1000:=by rw[he];simp
  have e2:en[2]?=some (some (.str x)):=by rw[he];rfl
  have e3:en[3]?=some (some (.lst ds)):=by rw[he];rfl
  have e4:en[4]?=some none:=by rw[he];rfl
  have e5:en[5]?=some none:=by rw[he];rfl
  obtain⟨w1,w2,w3,w4⟩:=wc;obtain⟨p,ts,ls,ns,h1,sh,h3,h4⟩:=res;obtain⟨p',cL,hσ⟩:=rs.pin 0 (q_2.mpr rfl);rw[h1]at cL;cases cL;have hG:=sizeLine_eq;refine⟨.ref p,hσ,F0,F,en,_,rs,ib,λv F1 H1 g1 r1=>?_⟩;have ev:=Cs r1;subst ev;have bT:=rs.grow g1;have fb:=sh.gr g1;refine⟨F1,m,p,ts,ls,ns,g,bT.fh,rfl,fb,w1,λH2 cg bY bJ j t kp cO nw dw⟨s,hx,sg,hu⟩=>?_⟩;obtain⟨cP,eS,iz⟩:=fb.asked bT hl h3 h4 kp cO nw;have hj:j<(ens m g).length:=(q_18.mp hx).1;obtain⟨l,lj⟩:∃l,bY[j]?=some l:=⟨_,Qf (by rw[cO.ll];exact hj)⟩;obtain⟨n,nj⟩:∃n,bJ[j]?=some n:=⟨_,Qf (by rw[cO.ln];exact hj)⟩;obtain⟨c1,c2,c3⟩:=cO.at_ j t _ _ s dw lj nj hx;obtain⟨b1,b2,b3⟩:=w4 s (VL hx);have sl:=rs.len;have s4:(σ.set 4 (some (.ref t)))[4]?=some (some (.ref t)):=by rw[Uz,if_pos rfl,if_pos (by rw[sl,he];simp)]
  refine⟨.ref t,s4,?_⟩;refine .inr (.inl ⟨t,_,0,.ref l,rfl,rfl,SqT.of c1,rfl,?_⟩);have cn:=(cP.raw hl e4 (by decide) (.ref t)).raw hl e5 (by decide) (.ref l);generalize d9:(σ.set 4 (some (V.ref t))).set 5 (some (V.ref l))=σ' at cn;have t4:σ'[4]?=some (some (.ref t)):=by rw[<-d9,Ux (by decide)];exact s4
  have t5:σ'[5]?=some (some (.ref l)):=by rw[<-d9,Uz,if_pos rfl,if_pos (by rw[WS,sl,he];simp)]
  have no:∀{j:Nat}{d:D},en[j]?=some (some d)->j∉[Qd 0]:=λ{j d}h hj=>by
   have:=(q_18.mp h).1;have:=q_2.mp hj;unfold Qd at this;omega
  have t2:σ'[2]?=some (some (.str x)):=by
   obtain⟨v,y1,y2⟩:=cn.slot 2 _ e2 (no e2);rw[y1,ML y2]
  obtain⟨v3,t3,r3⟩:=cn.slot 3 _ e3 (no e3);dsimp only[P2];rw[d9];refine⟨F0,F1,en,c,cn,lJ,λF5 H5 g5=>?_⟩;have gi:=cn.grow g5;have df:=cO.gr g5;have lm:=df.memL lj;have nm:=df.memN nj;obtain⟨jX,fK,c35⟩:=df.at_ j t _ _ s dw lj nj hx;have fm:l≠n:=λe=>(q_60.mp (q_46.mp df.nd).2).2.2 l (VL lj) n (VL nj) e;cases(r3.mono g5.ff)with|lst hb hr=>
  rename_i b zs;have ez:=Hm hr hN;subst ez;have bl:b≠l:=λe=>by rw[e,df.fn l lm]at hb;cases hb
  have bn:b≠n:=λe=>by rw[e,df.fn n nm]at hb;cases hb
  have tl:t≠l:=λe=>by rw[e,fK]at jX;cases jX
  have fin:∀(L:List Str)(zs:List V),zs=L.map V.str->(if c then s.2.1++[x]else XI x s.2.1)=L->(R7 (R6 X.K "list" MK (X8 (UY X.K) (W0 4) (tC (.int 1))) (WC (W0 3) X7))) Dn σ' (upd H5 l (.lst zs)):=λL zs hz hL=>by
   have jk:=df.set (L:=L) (N:=s.2.2) hx dw lj nj (.inl ⟨rfl,rfl⟩) (zs:=zs) (by rw[if_pos rfl,hz]);have gh:=gi.wr hl (df.fn _ lm) (eS _ lm) (.lst zs);have cC:((ens m g).set j (s.1,L,s.2.2))[j]?=some (s.1,L,s.2.2):=by rw[Uz,if_pos rfl,if_pos hj]
   obtain⟨mf,c26,jW⟩:=jk.at_ j t _ _ _ dw lj nj cC;refine⟨.ref t,t4,?_⟩;refine .inr (.inl ⟨t,_,1,.ref n,rfl,rfl,SqT.of mf,rfl,?_⟩);refine⟨.inl ⟨rfl,_,SqL.of jW⟩,_,t3,n,b,_,N.map V.str,rfl,rfl,jW,?_,?_,?_⟩;·rw[Qi bl];exact gi.fh _ _ hb
   ·rw[Qo,Qo];show s.2.2.length+_<=_;omega
   ·refine k σ' F5 _ (g1.ff.trans g5.ff) (gh.wr hl (df.fn _ nm) (eS _ nm) _) ⟨p,cg,bY,bJ,h1,?_,eS,iz⟩;show SH (YT (Tw c x N) m g) p cg bY bJ F5 _;have:=jk.set (L:=L) (N:=s.2.2++N) cC dw lj nj (.inr ⟨rfl,rfl⟩) (zs:=s.2.2.map V.str++N.map V.str) (by rw[if_neg (Ne.symm fm),YQ]);rw[List.set_set]at this;rw[hu];have e:Tw c x N s.2=(L,s.2.2++N):=by unfold Tw;rw[hL]
    rw[e];exact this
  cases c with
  |true=>refine UM ⟨.ref l,t5,.inl ⟨rfl,_,SqL.of fK⟩,_,t2,l,_,_,rfl,rfl,fK,by rw[Qo];omega,?_⟩;exact fin (s.2.1++[x]) _ (by rw[YQ];rfl) rfl|false=>
   obtain⟨ne,yl⟩:=b3 sg rfl;obtain⟨y,hy⟩:∃y,s.2.1.getLast?=some y:=by cases q:s.2.1.getLast? with|none=>exact absurd (List.getLast?_eq_none_iff.mp q) ne|some y=>exact⟨y,rfl⟩
   have mr:=yl y (List.mem_of_getLast? hy);have len:0<s.2.1.length:=List.length_pos_iff.mpr ne;have ix:UP (s.2.1.map V.str).length (-1)=some (s.2.1.length-1):=by unfold UP;rw[Qo,if_neg (by decide),if_pos (by omega)];congr 1;omega
   have ay:XW (s.2.1.map V.str) (-1)=some (.str y):=by
    unfold XW;rw[ix];show(s.2.1.map V.str)[s.2.1.length-1]?=_;rw[Yz,<-List.getLast?_eq_getElem?,hy];rfl
   refine UL ⟨.ref l,t5,?_⟩;refine⟨1,rfl,.inl ⟨l,_,-1,.str y,rfl,rfl,SqL.of fK,ay,?_⟩⟩;refine⟨y," ",rfl,rfl,by show y.length+1<=_;omega,_,t2,y++" ",x,rfl,rfl,?_,?_⟩;·rw[Str.length_append];show y.length+1+_<=_;omega
   refine⟨.ref l,t5,1,rfl,l,_,-1,s.2.1.length-1,rfl,rfl,fK,ix,?_⟩;refine fin (XI x s.2.1) _ ?_ rfl;unfold XI;rw[hy,List.map_set]
end
noncomputable def Vz(x:Int×List Str×List Str):D:=.tup [.lst (x.2.1.map .str),.lst (x.2.2.map .str)]
def T5(m:SM):D:=.dic (m.map λx=>.inl x.1) (m.map Vz)
def Sy(i:Nat)(b:ZH SM):QH:=λe=>match e[i]? with|some (some (.dic [] []))=>if e.length<=1000 then(b (e.set i none) []).bind λr=>if i<r.1.length/\r.1.length<=1000 then some (.nx (r.1.set i (some (T5 r.2))))else none else none|_=>none
theorem Reps.strs{K:Fg}{F:Hp}:∀(L:List Str),Reps K F (L.map V.str) (L.map .str)|[]=>.nil|x::L=>.cons (.str x) (Reps.strs L)
section
variable{K:Fg}{H₀:Hp}{F0:Fz}{F H:Hp}{σ:L2.St}{e:QG}{i:Nat}
def RS.nestOutS{p:Addr}{m:SM}(r:RS K H₀ ⟨F0.f,F0.h,some p⟩ F H σ e [Qd i])(res:SRes m ⟨F0.f,F0.h,some p⟩ F H)(hi:i<e.length)(hl:e.length<=1000):∃F',Sm F F'/\RS K H₀ F0 F' H σ (e.set i (some (T5 m))) [i]:=by
 obtain⟨p',ts,ls,ns,h1,sh,h3,h4⟩:=res;cases h1;obtain⟨p',cL,hσ⟩:=r.pin i (q_2.mpr rfl);cases cL;have nd:=q_46.mp sh.nd;have tn:p∉ts:=λz=>by
  obtain⟨j,hj,e⟩:=Ts z;have hm:j<m.length:=by rw[<-sh.lt];exact hj
  have:=(sh.at_ j p _ _ _ (by rw[Qf hj,e]) (Qf (by rw[sh.ll];exact hm)) (Qf (by rw[sh.ln];exact hm)) (Qf hm)).1;rw[sh.dc]at this;cases this
 let fz:=ls++ns++ts;have fn:∀a∈fz,F a=none/\F0.h a=none:=λa ha=>by
  rcases q_7.mp ha with z|z;·exact⟨sh.fn a (JO _ z),h3 a (JO _ z)⟩
  ·exact⟨sh.ft a z,h4 a z⟩
 let F':Hp:=λa=>if a∈fz then H a else F a;have s1:Sm F F':=λa o h=>by
  have:a∉fz:=λz=>by rw[(fn a z).1]at h;cases h
  show(if a∈fz then H a else F a)=_;rw[if_neg this];exact h
 have s2:Sm F' H:=λa o h=>by
  have h':(if a∈fz then H a else F a)=some o:=h;split at h';·exact h'
  ·exact r.fh a o h'
 have q:∀{j:Nat}{d:D},j≠i->(e.set i (some (T5 m)))[j]?=some (some d)->e[j]?=some (some d):=λ{j d}z h=>by rwa[Ux (Ne.symm z)]at h
 have i1:i<1000:=by omega
 refine⟨F',s1,s2,r.hh,r.ff.trans s1,λa o h=>?_,λj d h hj=>?_,λj d h hj=>?_,λj j' _ _ _ hj ig _ _ _ _=>by rw[q_2.mp hj,q_2.mp ig],λj hj=>?_,by rw[WS];exact r.len⟩
 ·have h':(if a∈fz then H a else F a)=some o:=h;split at h'
  ·rename_i z;exact .inr (fn a z).2
  ·exact r.fr a o h'
 ·have ji:j≠i:=λz=>hj (q_2.mpr z);have h':=q ji h;obtain⟨v,a1,a2⟩:=r.slot j d h' λz=>by
   have:=(q_18.mp h').1;have:=q_2.mp z;unfold Qd at this;omega
  exact⟨v,a1,a2.mono s1⟩
 ·have:=q_2.mp hj;subst this;rw[Uz,if_pos rfl,if_pos hi]at h;cases h;refine⟨p,some (m.map λx:Int×List Str×List Str=>(Sum.inl x.1:Kd)),ts.map V.ref,m.map Vz,hσ,h3 p Ja,?_,sh.dc,?_,rfl,by show(m.map λx=>(Sum.inl x.1:Kd)).length=_;simp[sh.lt]⟩;·show(if p∈fz then H p else F p)=_;rw[if_neg λz=>(q_7.mp z).elim nd.1 tn];exact sh.fn p Ja
  ·have g:∀(eZ:List Addr)(m1:SM),eZ.length=m1.length->(∀(j:Nat)(t:Addr)(x:Int×List Str×List Str),eZ[j]?=some t->m1[j]?=some x->Rep K F' (.ref t) (Vz x))->Reps K F' (eZ.map V.ref) (m1.map Vz):=λeZ=>by induction eZ with
    |nil=>intro m1 h _;cases m1 with|nil=>exact .nil|cons _ _=>simp at h
    |cons q1 qs1 ih=>
     intro m1 h hh;cases m1 with|nil=>simp at h|cons l1 m1=>exact .cons (hh 0 q1 l1 rfl rfl) (ih m1 (by simpa using h) λj q l a b=>hh (j+1) q l (by simpa using a) (by simpa using b))
   refine g ts m sh.lt λj t x a b=>?_;have hm:=(q_18.mp b).1;obtain⟨l,cT⟩:∃l,ls[j]?=some l:=⟨_,Qf (by rw[sh.ll];exact hm)⟩;obtain⟨n,hn⟩:∃n,ns[j]?=some n:=⟨_,Qf (by rw[sh.ln];exact hm)⟩;obtain⟨c1,c2,c3⟩:=sh.at_ j t l n x a cT hn b;have fr:∀a,a∈fz->F' a=H a:=λa ha=>if_pos ha;refine .tup ((fr t (YZ _ (VL a))).trans c1) (.cons (.lst ((fr l (Vi _ (Vi _ (VL cT)))).trans c2) (Reps.strs _)) (.cons (.lst ((fr n (Vi _ (YZ _ (VL hn)))).trans c3) (Reps.strs _)) .nil))
 ·have:=q_2.mp hj;unfold Qd at this;omega
end
section
variable{X:Cx}{O' OL:List Nat}{w:Bool}{i:Nat}{s1 s2:Stmt}{J7:List Stmt}{ba bb:ZH SM}{s:QH}
def QcM(h1:PS X s1 (VX X [Qd i] SRes ba))(h2:PS X s2 (VX X [Qd i] SRes bb))(h3:PSs X J7 (tS X [i] O' OL w s)):PSs X (s1::s2::J7) (tS X [i] O' OL w (sQ (Sy i (U1 ba bb)) s)):=PSs.imp (Tp h1 (Tp h2 h3)) λDn σ H⟨F0,F,en,fl,rs,z,k⟩=>by have z':XO (Sy i (U1 ba bb) en) s=some fl:=z;cases q:Sy i (U1 ba bb) en with|none=>rw[q]at z';cases z'|some f1=>
  rw[q]at z';unfold Sy at q;split at q
  ·rename_i he;split at q
   ·rename_i hl;obtain⟨r,e1,e2⟩:=JB q;split at e2
    ·rename_i hc;cases e2;obtain⟨r1,e3,e4⟩:=JB e1;obtain⟨p,kk,xs,ds,a1,a2,a3,a4,a5,a6,a7⟩:=rs.own i _ he (q_2.mpr rfl);cases kk with
     |none=>cases a6|some ks=>
      cases a6;cases a5;refine⟨⟨F0.f,F0.h,some p⟩,F,en.set i none,[],r1,rs.nestIn hl a1,⟨p,[],[],[],rfl,⟨rfl,rfl,rfl,a4,by simp[ZQ],by simp,by simp[ZQ,a3],by simp⟩,by simp[ZQ,a2],by simp⟩,e3,λσ' F' H' s' bF cz=>?_⟩;refine⟨⟨F0.f,F0.h,some p⟩,F',r1.1,r1.2,r,bF,cz,e4,λσ2 F2 H2 s2 cP iM=>?_⟩;obtain⟨F3,s3,cA⟩:=cP.nestOutS iM hc.1 hc.2;exact⟨F0,F3,_,fl,cA,z',k.mono ((s'.trans s2).trans s3)⟩
    ·cases e2
   ·cases q
  ·cases q
end
noncomputable def D.fs3:D->D->D->Option D|.str x,.str y,.str z=>if x.length<=100000/\y.length<=100000/\z.length<=100000 then some (.str (x++" "++y++" "++z))else none|_,_,_=>none
def EM(a b c:Q7):Q7:=λe=>(a e).bind λx=>(b e).bind λy=>(c e).bind λz=>D.fs3 x y z
section
variable{X:Cx}{O:List Nat}{e1 e2 e3:Expr}{t1 t2 t3:TE}
def QgS{j1 j2}{p1 p2 p3 p4 p5 pos:Pos}(h1:PE X e1 t1)(h2:PE X e2 t2)(h3:PE X e3 t3):PE X (.JoinedStr [.FormattedValue e1 (-1) none p1,.Constant (.str " ") j1 p2,.FormattedValue e2 (-1) none p3,.Constant (.str " ") j2 p4,.FormattedValue e3 (-1) none p5] pos) (λσ H Q=>t1 σ H λu H1=>∃x,u=.str x/\x.length<=100000/\t2 σ H1 λu H2=>∃y,u=.str y/\y.length<=100000/\t3 σ H2 λu H3=>∃z,u=.str z/\z.length<=100000/\Q (.str (x++" "++y++" "++z)) H3):=by
 intro aa s σ H Q I h;have hz:=sizeLine_eq;refine JoinedStr_many (joinParts_cons (FormattedValue_plain (QW (h1 aa _ σ H _ I h) λu s1⟨v,H1,I1,r1,x,ev,lx,q⟩=>?_)));subst ev;obtain⟨t,rfl⟩:=r1;have e0:Str.empty++x=x:=Str.empty_append x;have sp:(Str.ofString " ").length=1:=rfl;refine formatField_str (λt' tk=>⟨by rw[e0];omega,?_⟩) (by omega);rw[e0];refine joinParts_cons (Calls.Constant_str ⟨by rw[Str.length_append];omega,?_⟩);refine joinParts_cons (FormattedValue_plain (QW (h2 aa _ σ H1 _ ((I1.tok _).tok _) q) λu s2⟨v,H2,I2,r2,y,ev,ly,q⟩=>?_));subst ev;obtain⟨t2,rfl⟩:=r2;refine formatField_str (λt' tk=>⟨by rw[Str.length_append,Str.length_append];omega,?_⟩) (by omega);refine joinParts_cons (Calls.Constant_str ⟨by rw[Str.length_append,Str.length_append,Str.length_append];omega,?_⟩);refine joinParts_cons (FormattedValue_plain (QW (h3 aa _ σ H2 _ ((I2.tok _).tok _) q) λu s3⟨v,H3,I3,r3,z,ev,lz,q⟩=>?_));subst ev;obtain⟨t3,rfl⟩:=r3;have l5:(x++" "++y++" "++z:Str).length<=sizeLine:=by rw[Str.length_append,Str.length_append,Str.length_append,Str.length_append];omega
 refine formatField_str (λt' tk=>⟨l5,?_⟩) (by omega);exact joinParts_nil ⟨.str _,H3,(I3.tok _).tok _,⟨_,rfl⟩,q⟩ l5
def Qcu{j1 j2}{p1 p2 p3 p4 p5 pos:Pos}{ea eb ec:Q7}(h1:PE X e1 (tD X O ea))(h2:PE X e2 (tD X O eb))(h3:PE X e3 (tD X O ec)):PE X (.JoinedStr [.FormattedValue e1 (-1) none p1,.Constant (.str " ") j1 p2,.FormattedValue e2 (-1) none p3,.Constant (.str " ") j2 p4,.FormattedValue e3 (-1) none p5] pos) (tD X O (EM ea eb ec)):=PE.imp (QgS h1 h2 h3) λσ H Q⟨F0,F,en,d,rs,z,k⟩=>by
  obtain⟨dx,a1,z1⟩:=JB z;obtain⟨dy,a2,z2⟩:=JB z1;obtain⟨dz,a3,z3⟩:=JB z2;obtain⟨x,y,w,rfl,rfl,rfl,lx,ly,lw,rfl⟩:∃x y w,dx=.str x/\dy=.str y/\dz=.str w/\x.length<=100000/\y.length<=100000/\w.length<=100000/\d=.str (x++" "++y++" "++w):=by
   unfold D.fs3 at z3;split at z3
   ·split at z3;·rename_i hh;cases z3;exact⟨_,_,_,rfl,rfl,rfl,hh.1,hh.2.1,hh.2.2,rfl⟩
    ·cases z3
   ·cases z3
  refine⟨F0,F,en,_,rs,a1,λv F1 H1 g1 r1=>⟨x,ML r1,lx,F0,F1,en,_,rs.grow g1,a2,λv F2 H2 g2 r2=>⟨y,ML r2,ly,F0,F2,en,_,(rs.grow g1).grow g2,a3,λv F3 H3 g3 r3=>⟨w,ML r3,lw,?_⟩⟩⟩⟩;exact k _ F3 H3 ((g1.trans g2).trans g3) (.str _)
end
noncomputable def ON(s:QH):ZH SM:=λe m=>match s e with|some (.nx e')=>if e.length<=1000/\e'.length<=1000 then some (e',m)else none|_=>none
def RS.deep{K:Fg}{H₀:Hp}{F0:Fz}{F H F' H':Hp}{σ σ':L2.St}{e e':QG}{i:Nat}(r:RS K H₀ F0 F H σ e [Qd i])(hl:e'.length<=1000)(q:RS K H₀ ⟨F,H,F0.p⟩ F' H' σ' e' [Qd i]):RS K H₀ F0 F' H' σ' e' [Qd i]:=by
 have no:∀{j:Nat}{d:D},e'[j]?=some (some d)->j∈[Qd i]->False:=λ{j d}h hj=>by
  have:=(q_18.mp h).1;have:=q_2.mp hj;unfold Qd at this;omega
 refine⟨q.fh,r.hh.trans q.hh,r.ff.trans q.ff,λa o h=>?_,q.slot,λj d h hj=>(no h hj).elim,λj _ _ _ _ hj _ h1=>(no h1 hj).elim,q.pin,q.len⟩;rcases q.fr a o h with z|z;·exact r.fr a o z
 ·exact .inr (r.hh.none z)
def RS.all{K:Fg}{H₀:Hp}{F0:Fz}{F H:Hp}{σ:L2.St}{e:QG}{i:Nat}(r:RS K H₀ F0 F H σ e [Qd i])(hl:e.length<=1000):RS K H₀ ⟨F,H,F0.p⟩ F H σ e [Qd i]:=by
 have no:∀{j:Nat}{d:D},e[j]?=some (some d)->j∈[Qd i]->False:=λ{j d}h hj=>by
  have:=(q_18.mp h).1;have:=q_2.mp hj;unfold Qd at this;omega
 exact⟨r.fh,.refl H,.refl F,λa o h=>.inl h,r.slot,λj d h hj=>(no h hj).elim,λj _ _ _ _ hj _ h1=>(no h1 hj).elim,r.pin,r.len⟩
section
variable{X:Cx}{i:Nat}
def QcJ{st:Stmt}{j:Nat}{OL:List Nat}{w:Bool}{b:QH}(h:PS X st (tS X [Qd i] (ad j [Qd i]) OL w b))(he:dl j (ad j [Qd i])=[Qd i]:=by decide):PS X st (VX X [Qd i] SRes (ON b)):=by
 rintro aa s σ H D I⟨F0,F,en,m,r,rs,res,z,k⟩;obtain⟨e',z1,hl,cT,rfl⟩:∃e',b en=some (.nx e')/\en.length<=1000/\e'.length<=1000/\r=(e',m):=by
  unfold ON at z;split at z
  ·rename_i e' h1;split at z;·rename_i h2;cases z;exact⟨e',h1,h2.1,h2.2,rfl⟩
   ·cases z
  ·cases z
 refine QW (h aa s σ H {D with nx:=λσ' H'=>∃F',RS X.K X.H₀ ⟨F,H,F0.p⟩ F' H' σ' e' (ad j [Qd i])} I ⟨⟨F,H,F0.p⟩,F,en,_,rs.all hl,z1,λσ' F' H' _ q=>⟨F',q⟩⟩) λf s' sp=>?_;cases f with|next=>obtain⟨σ',H',I',F',q⟩:=sp;obtain⟨F2,H2,I2,s2,r2⟩:=HC j I' q;rw[he]at r2;have g:Gr F H F2 H2:=r2.ex.gr;exact⟨σ',H2,I2,k σ' F2 H2 g.ff (rs.deep cT r2) (SRes.gr _ _ _ _ _ _ res g)⟩|_=>exact sp
end
def Qek(K:Fg)(f:List D->Option D)(H:Hp)(a:Addr)(ns:List Int)(h:f [.scr ns]=some (.bl true))(hS:SqL K H a (ns.map V.int)):Qw K f [.ref a] H (λv _=>v=.bl true) λ_ _ _=>False:=⟨H,[.scr ns],.bl true,.refl H,.cons (.scr hS) .nil,h,λv F' H' g r=>by cases r;rfl⟩
section
variable{X:Cx}{O:List Nat}{x:Str}{pos p:Pos}{e:Expr}{es:List Expr}{l:ZC}{k k':Nat}{ps:List Str}
def dv(i:Nat)(hN:X.N[i]?=some x:=by rfl)(hv:WK X.env.scope x:=by first|exact Or.inl rfl|exact Or.inr (Or.inl rfl)|exact Or.inr (Or.inr rfl))(hd:(x==("__debug__":Str))=false:=by decide)(hc:(x==("__classdict__":Str))=false:=by decide):PE X (.Name x pos) (tR X O (eV i)):=Wu i hN hv hd hc
def dq{i:Int}{j}:PE X (.Constant (.int i) j pos) (tR X O (eC (.int i))):=dr Qy
def dn(i:Nat)(hr:PA X es (tL X O l))(hN:X.N[i]?=some x:=by rfl)(hv:WK X.env.scope x:=by first|exact Or.inl rfl|exact Or.inr (Or.inl rfl)|exact Or.inr (Or.inr rfl))(hO:i∉O:=by decide)(hd:(x==("__debug__":Str))=false:=by decide)(hc:(x==("__classdict__":Str))=false:=by decide):PA X (.Name x pos::es) (tL X O (lC (eV i) l)):=E4 (Ql i hN hv hO hd hc) hr
def dc{f:List D->Option D}(c:Qg X.prog X.w X.K X.mg X.ab k x ps (Qw X.K f))(hr:Room k' X.A)(ha:PA X (e::es) (tL X O l))(hk:k<=k':=by decide)(hg:Gl X x:=by exact rfl)(cj:(x==("__debug__":Str))=false:=by decide)(he:starEach (e::es) X.env=(false,eval e X.env)::starEach es X.env:=by rfl)(cD:(backTo pos (starEach es X.env)).any (·.1)=false:=by rfl):PE X (.Call (.Name x p) (e::es) [] pos) (tD X O (eK f l)):=Qct c (hr.mono hk) hg ha cj he cD
def J4{P:Program}{w:World}{K:Fg}{mg:Str->Option Value}{ab:Heap}{st:Stmt}(N ps:List Str)(b:QH)(k:Nat)(h:Df K mg x st ps)(hb:N.Nodup->∀{f:Addr}{aA:Value}{A:Around}{ag:List Env}{s:Shared}{H:Hp}{E:XK},Room k (A.deeper (envOfC x (Qr st) s.heap.objs.size f aA))->PSs (Vb V8 P w K mg ab N x (Qr st) f aA A ag s H E).nox (VN st) (tS (Vb V8 P w K mg ab N x (Qr st) f aA A ag s H E).nox [] [] [] false b))(S:FnScope N ps (Qr st):=by constructor<;>first|rfl|decide+kernel):Qg P w K mg ab (k+1) x ps (Qw K (QV N.length ps.length b)):=okC h S λ_ _ _ _ _ _ _ hr=>hb S.nd hr
end
section
variable{X:Cx}{O:List Nat}{x:Str}{pos p:Pos}{a b:Expr}{es:List Expr}{l:ZC}{k:Nat}{ea eb:Q7}
def dE(hr:Room k X.A)(ha:PE X a (tR X O ea))(hb:PE X b (tR X O eb)):PT X (.Compare a [.Eq] [b] pos) (tDT X O (Q5 D.eqO ea eb)):=Wv (Xm hr.units) ha hb (Zr _)
def dF(hr:Room k X.A)(ha:PE X a (tR X O ea))(hb:PE X b (tR X O eb)):PT X (.Compare a [.NotEq] [b] pos) (tDT X O (Q5 D.neO ea eb)):=Wv (Qgw hr.units) ha hb (Zr _)
def dy{z:Int}{j}{q:Pos}(i:Nat)(hN:X.N[i]?=some x:=by rfl)(hv:WK X.env.scope x:=by first|exact Or.inl rfl|exact Or.inr (Or.inl rfl)|exact Or.inr (Or.inr rfl))(hd:(x==("__debug__":Str))=false:=by decide)(hc:(x==("__classdict__":Str))=false:=by decide):PE X (.Subscript (.Name x p) (.Constant (.int z) j q) pos) (tD X O (Q5 D.ix (eV i) (eC (.int z)))):=Qh (dv i hN hv hd hc) dq
def dx{z:Int}{j}{q:Pos}(i:Nat)(hN:X.N[i]?=some x:=by rfl)(hv:WK X.env.scope x:=by first|exact Or.inl rfl|exact Or.inr (Or.inl rfl)|exact Or.inr (Or.inr rfl))(hd:(x==("__debug__":Str))=false:=by decide)(hc:(x==("__classdict__":Str))=false:=by decide):PE X (.Subscript (.Name x p) (.Constant (.int z) j q) pos) (tR X O (Q5 D.ix (eV i) (eC (.int z)))):=dr (dy i hN hv hd hc)
end
end Wd
namespace My
section
open PySem Wd
abbrev Q4(n:Int):Q7:=eC (.int n)
abbrev QC(n:Str):Q7:=eC (.str n)
abbrev Jt(n:Bool):Q7:=eC (.bl n)
abbrev Q2(k:Nat)(n:Int):Q7:=Q5 D.ix (eV k) (eC (.int n))
abbrev WA(a:Q7)(n:Int):Q7:=Q5 D.ix a (eC (.int n))
abbrev ZG(a b:Q7):Q7:=Q5 D.ix a b
abbrev QO(a b:Q7):Q7:=Q5 D.eqO a b
abbrev Yd(a b:Q7):Q7:=Q5 D.neO a b
abbrev QJ(a b:Q7):Q7:=Q5 D.add a b
abbrev Jn(a b:Q7):Q7:=Q5 D.mod a b
abbrev YC(a b:Q7):Q7:=Q5 D.mulA a b
abbrev V0(a b:Q7):Q7:=Q5 D.sub a b
abbrev QU(a:Q7):ZC:=lC a lN
abbrev Qc(a b:Q7):ZC:=lC a (lC b lN)
abbrev JI(a b c:Q7):ZC:=lC a (lC b (lC c lN))
abbrev ZB(a b c d:Q7):ZC:=lC a (lC b (lC c (lC d lN)))
noncomputable abbrev Q0(n:Int):Option D:=some (.int n)
noncomputable abbrev QA(n:List D):Option D:=some (.lst n)
noncomputable abbrev QQ(n:Str):Option D:=some (.str n)
noncomputable abbrev QS(n:Bool):Option D:=some (.bl n)
def Lm:QH:=QI (QB D.len (QB D.strI (eV 0)))
def SJ:List D->Option D:=QV 1 1 Lm
def Li:QH:=QI (QN (ZB (eV 0) (Q4 0) (Q4 0) (Q4 0)))
def UG:List D->Option D:=QV 1 1 Li
def Lp:QH:=QI (Q5 D.le (QJ (QJ (Q2 1 1) (Q2 1 3)) (eV 2)) (Q2 0 1))
def SK:List D->Option D:=QV 3 3 Lp
def Lq:QH:=QI (Qa (QO (Q2 1 2) (Q4 0)) (Q5 D.le (QJ (QJ (Q2 1 2) (Q4 1)) (eV 2)) (Q2 0 0)))
def Ov:List D->Option D:=QV 3 3 Lq
def KY:QH:=QI (QN (lC (QN (JI (eV 0) (eV 1) (eV 2))) (lC (QN (ZB (eV 0) (eV 1) (QJ (eV 2) (eV 3)) (eV 4))) lN)))
def SU:List D->Option D:=QV 5 5 KY
def KJ:QH:=sQ (Q6 (Q2 1 0) (gS 4)) (sQ (Q6 (Q2 1 1) (gS 5)) (sQ (Q6 (Q2 1 2) (gS 6)) (sQ (Q6 (QJ (Q2 1 3) (eV 3)) (gS 7)) (sQ (QD (Qn (eK Ov (JI (eV 0) (eV 1) (eV 2))) (eK SK (JI (eV 0) (eV 1) (QJ (Q4 1) (eV 3))))) (sQ (Q6 (Zb (QO (eV 6) (Q4 0)) (Q4 0) (QJ (eV 6) (Q4 1))) (gS 8)) (QI (eK SU (lC (eV 4) (ZB (eV 5) (eV 8) (eV 2) (eV 7)))))) QE) (sQ (QD (Qn (Q5 D.gt (eV 6) (Q4 0)) (eK SK (JI (eV 0) (eV 1) (QJ (Q4 2) (eV 3))))) (QI (eK SU (lC (eV 4) (ZB (QJ (eV 5) (Q4 1)) (Q4 0) (eV 2) (eV 7))))) QE) (QI (eK SU (lC (QJ (eV 4) (Q4 1)) (ZB (Q4 0) (Q4 0) (eV 2) (eV 3))))))))))
def Rx:List D->Option D:=QV 9 4 KJ
def Lk:QH:=sQ (QD (QO (Q2 0 2) (Q4 0)) (QI (eV 0)) QE) (QI (QN (ZB (Q2 0 0) (QJ (Q2 0 1) (Q4 1)) (Q4 0) (Q2 0 3))))
def Ro:List D->Option D:=QV 1 1 Lk
def KH:QH:=sQ (Q6 (eK Ro (QU (eV 1))) (gS 4)) (sQ (QD (JT (eK SK (JI (eV 0) (eV 4) (QJ (eV 2) (eV 3))))) (Q6 (eK UG (QU (QJ (Q2 4 0) (Q4 1)))) (gS 4)) QE) (sQ (Q6 (QN (JI (Q2 4 0) (Q2 4 1) (Q4 0))) (gS 5)) (QI (QN (lC (eV 5) (lC (QN (ZB (Q2 4 0) (QJ (Q2 4 1) (eV 2)) (Q4 0) (Q2 4 3))) lN))))))
def Tc:List D->Option D:=QV 6 4 KH
def K9:QH:=sQ (QD (QO (eV 0) (eK UG (QU (Q2 0 0)))) (QI (eV 0)) QE) (QI (eK UG (QU (QJ (Q2 0 0) (Q4 1)))))
def Rv:List D->Option D:=QV 1 1 K9
def K8:QH:=sQ (Q6 (eK Rv (QU (eV 1))) (gS 2)) (sQ (QD (Qn (Q2 0 2) (QO (Jn (Q2 2 0) (Q4 2)) (Q4 0))) (QI (eK UG (QU (QJ (Q2 2 0) (Q4 1))))) QE) (QI (eV 2)))
def Ru:List D->Option D:=QV 3 2 K8
def KI:QH:=sQ (Q6 (WA (eK Rv (QU (eV 0))) 0) (gS 2)) (QI (QN (Qc (QN (JI (eV 2) (Q4 0) (Q4 0))) (eK UG (QU (QJ (eV 2) (eV 1)))))))
def N3:List D->Option D:=QV 3 2 KI
def Lv:QH:=QI (Qn (Zy D.le D.le (Q4 4) (Q2 0 0) (Q4 90)) (Zy D.le D.le (Q4 2) (Q2 0 1) (Q4 60)))
def Oy:List D->Option D:=QV 1 1 Lv
def Lw:QH:=QI (Q5 D.inO (Q2 0 0) (QN (Qc (QC "chapter") (QC "heading"))))
def Xf:List D->Option D:=QV 1 1 Lw
def Lu:QH:=QI (Q5 D.inO (Q2 0 0) (QN (Qc (QC "word") (QC "ref"))))
def Wf:List D->Option D:=QV 1 1 Lu
def Lz:QH:=QI (Zb (QO (Q2 0 0) (QC "para")) (QC "") (ZG (eV 0) (QB D.neg (Q4 1))))
def Um:List D->Option D:=QV 1 1 Lz
def Ly:QH:=QI (Zb (QO (Q2 0 0) (QC "para")) (Q2 0 1) (QF lN))
def Wg:List D->Option D:=QV 1 1 Ly
def KL:QH:=sQ (Q6 (QF lN) (gS 1)) (sQ (Jb (J1 (eV 0)) (gS 2) (HE 1 (JL 1 [] (J1 (eK Wg (QU (eV 2)))) (gS 0) (QO (Q2 0 0) (QC "ref")) (Q2 0 1)))) (QI (eV 1)))
def Vp:List D->Option D:=QV 3 1 KL
def KD:QH:=sQ (QD (QO (Q2 0 0) (QC "plates")) (QI (QJ (Q4 2) (Q2 0 1))) QE) (sQ (QD (Qn (eK Xf (QU (eV 0))) (Q2 1 3)) (QI (Q4 4)) QE) (QI (QJ (Q4 2) (YC (Q4 2) (QB D.len (JL 1 [] (J1 (eK Wg (QU (eV 0)))) (gS 0) (eK Wf (QU (eV 0))) (eV 0)))))))
def SQ:List D->Option D:=QV 2 2 KD
def KC:QH:=QI (QJ (Q4 3) (QB D.sumL (JL 1 [1] (J1 (eV 0)) (gS 0) (Jt true) (eK SQ (Qc (eV 0) (eV 1))))))
def N1:List D->Option D:=QV 2 2 KC
def KN:QH:=QI (eK SJ (QU (eK N1 (Qc (eV 0) (eV 1)))))
def N4:List D->Option D:=QV 2 2 KN
def Lh:QH:=QI (QB D.anyL (JL 1 [1] (J1 (eV 0)) (gS 0) (Jt true) (Q5 D.gt (QB D.len (eV 0)) (eV 1))))
def Rm:List D->Option D:=QV 2 2 Lh
def S6:QH:=sQ (QD (eK Xf (QU (eV 0))) (sQ (Q6 (Zb (Q2 1 3) (QJ (Q4 2) (eV 2)) (Q4 0)) (gS 3)) (QI (Q5 D.gt (QJ (QB D.len (Q2 0 1)) (eV 3)) (Q2 1 0)))) QE) (QI (Qn (QO (Q2 0 0) (QC "table")) (eK Rm (Qc (Q2 0 1) (Q2 1 0)))))
def Ul:List D->Option D:=QV 4 3 S6
def Lx:QH:=sQ (QD (QO (Q2 0 0) (QC "word")) (QI (eK Rm (Qc (QJ (QF (QU (Q2 0 1))) (Q2 0 2)) (Q2 1 0)))) QE) (QI (Qn (QO (Q2 0 0) (QC "ref")) (Q5 D.gt (QJ (QJ (QB D.len (Q2 0 2)) (eV 2)) (QB D.len (Q2 0 3))) (Q2 1 0))))
def Oz:List D->Option D:=QV 3 3 Lx
def Lr:QH:=sQ (QD (QO (Q2 0 0) (QC "heading")) (QI (Q5 D.gt (QJ (Q2 0 2) (Q4 1)) (Q2 1 1))) QE) (QI (Qn (QO (Q2 0 0) (QC "table")) (Q5 D.gt (QB D.len (Q2 0 1)) (Q2 1 1))))
def Ow:List D->Option D:=QV 2 2 Lr
def Ls:QH:=QI (Qn (QO (Q2 0 0) (QC "word")) (Q5 D.gt (QJ (QB D.len (Q2 0 2)) (Q4 1)) (Q2 1 1)))
def Ox:List D->Option D:=QV 2 2 Ls
def Lg:QH:=sQ (QD (Q5 D.dIn (eV 0) (eV 2)) X6 QE) (Xs 2 (eV 0) (Jt true))
def Rl:List D->Option D:=Xd 3 3 Lg
def K5:QH:=sQ (QD (eK Ul (JI (eV 0) (eV 2) (eV 3))) X6 QE) (sQ (QD (eK Ow (Qc (eV 0) (eV 2))) X6 QE) (QD (Yd (eK Um (QU (eV 0))) (QC "")) (XN 4 Rl (Qc (eK Um (QU (eV 0))) (eV 1))) QE))
def Rp:List D->Option D:=Xd 5 5 K5
def K6:QH:=sQ (QD (eK Oz (JI (eV 0) (eV 2) (eV 3))) X6 QE) (sQ (QD (eK Ox (Qc (eV 0) (eV 2))) X6 QE) (QD (QO (Q2 0 0) (QC "mark")) (XN 4 Rl (Qc (Q2 0 1) (eV 1))) QE))
def Rq:List D->Option D:=Xd 5 5 K6
def OP:QH:=sQ (Q6 (QB D.len (JL 1 [] (J1 (eV 0)) (gS 0) (eK Wf (QU (eV 0))) (eV 0))) (gS 5)) (Jb (J1 (eV 0)) (gS 6) (sQ (XN 4 Rq (ZB (eV 6) (eV 1) (eV 2) (eV 3))) (QD (eK Wf (QU (eV 6))) (ZV 5 D.sub (Q4 1)) (QD (QO (eV 5) (Q4 0)) X6 QE))))
def Rr:List D->Option D:=Xd 7 5 OP
def K7:QH:=Jb (Xh (eV 0)) (JQ [gS 2,gS 3]) (Jb (J1 (eK Vp (QU (QF (QU (eV 3)))))) (gS 4) (QD (Q5 D.dNotIn (eV 4) (eV 1)) X6 QE))
def Rt:List D->Option D:=QV 5 2 K7
def K4:QH:=sQ (QD (JT (eK Oy (QU (eV 1)))) X6 QE) (sQ (Q6 (eK N4 (Qc (eV 0) (eV 1))) (gS 2)) (sQ (Q6 (eC (.dic [] [])) (gS 3)) (sQ (Jb (Xh (eV 0)) (JQ [gS 4,gS 5]) (sQ (XN 3 Rp (ZB (eV 5) (eV 4) (eV 1) (eV 2))) (XN 3 Rr (ZB (eK Wg (QU (eV 5))) (eV 4) (eV 1) (eV 2))))) (Zg (eK Rt (Qc (eV 0) (eV 3)))))))
def Uo:List D->Option D:=QV 6 2 K4
def KQ:QH:=sQ (Q6 (QF lN) (gS 2)) (sQ (Q6 (eK UG (QU (Q4 1))) (gS 3)) (sQ (QD (JT (Q2 1 3)) (QI (QN (Qc (eV 2) (eV 3)))) QE) (sQ (Jb (J1 (eV 0)) (gS 4) (QD (eK Xf (QU (eV 4))) (sQ (Q6 (eK Tc (ZB (eV 1) (eV 3) (Q4 1) (Q4 0))) (gS 5)) (sQ (sP 2 (Q2 5 0)) (Q6 (Q2 5 1) (gS 3)))) QE)) (sQ (QD (Q5 D.gt (QB D.len (eV 2)) (Q4 0)) (Q6 (eK Ru (Qc (eV 1) (eV 3))) (gS 3)) QE) (QI (QN (Qc (eV 2) (eV 3))))))))
def N5:List D->Option D:=QV 6 2 KQ
def KR:QH:=sQ (Q6 (QF lN) (gS 4)) (sQ (Q6 (Q4 0) (gS 5)) (sQ (Jb (J1 (eV 0)) (gS 6) (QD (eK Wf (QU (eV 6))) (sQ (QD (QO (Q2 6 0) (QC "ref")) (sQ (Q6 (QJ (QJ (QB D.len (Q2 6 2)) (ZG (eV 3) (eV 5))) (QB D.len (Q2 6 3))) (gS 7)) (sQ (Q6 (eK Rx (ZB (eV 1) (eV 2) (eV 7) (Q4 0))) (gS 8)) (ZV 5 D.addI (Q4 1)))) (Q6 (eK Rx (ZB (eV 1) (eV 2) (QB D.len (Q2 6 1)) (QB D.len (Q2 6 2)))) (gS 8))) (sQ (sP 4 (Q2 8 0)) (Q6 (Q2 8 1) (gS 2)))) QE)) (QI (QN (Qc (eV 4) (eK Ro (QU (eV 2))))))))
def Rz:List D->Option D:=QV 9 4 KR
def KO:QH:=sQ (QD (QO (Q2 0 0) (QC "plates")) (QI (eK N3 (Qc (eV 2) (Q2 0 1)))) QE) (sQ (QD (QO (Q2 0 0) (QC "table")) (QI (eK Tc (ZB (eV 1) (eV 2) (QB D.len (Q2 0 1)) (Q4 0)))) QE) (sQ (QD (QO (Q2 0 0) (QC "heading")) (QI (eK Tc (ZB (eV 1) (eV 2) (Q4 1) (Q2 0 2)))) QE) (QI (eK Tc (ZB (eV 1) (eK Ru (Qc (eV 1) (eV 2))) (Q4 1) (Q4 0))))))
def Ry:List D->Option D:=QV 3 3 KO
def KP:QH:=sQ (Q6 (eK N5 (Qc (eV 0) (eV 1))) (gS 3)) (sQ (Q6 (QF (QU (Q2 3 0))) (gS 4)) (sQ (Q6 (Q2 3 1) (gS 5)) (sQ (Q6 (Q4 0) (gS 6)) (sQ (Jb (J1 (eV 0)) (gS 7) (sQ (QD (QO (Q2 7 0) (QC "para")) (sQ (Q6 (eK Rz (ZB (Q2 7 1) (eV 1) (eV 5) (JM (eV 2) (JJ (eV 6)) JX))) (gS 3)) (sQ (sP 4 (Q2 3 0)) (ZV 6 D.addI (QB D.len (eK Vp (QU (QF (QU (eV 7))))))))) (sQ (Q6 (eK Ry (JI (eV 7) (eV 1) (eV 5))) (gS 3)) (sP 4 (QF (QU (Q2 3 0)))))) (Q6 (Q2 3 1) (gS 5)))) (QI (eV 4))))))
def UI:List D->Option D:=QV 8 3 KP
def KG:QH:=sQ (Q6 (QF lN) (gS 3)) (sQ (Q6 (Q4 0) (gS 4)) (sQ (Jb (J1 (eV 0)) (gS 5) (QD (eK Wf (QU (eV 5))) (ZV 4 D.addI (Q4 1)) (QD (QO (Q2 5 0) (eV 2)) (sP 3 (QN (Qc (Q2 5 1) (WA (ZG (eV 1) (eV 4)) 0)))) QE))) (QI (eV 3))))
def SR:List D->Option D:=QV 6 3 KG
def K0:QH:=sQ (Q6 (eC (.dic [] [])) (gS 2)) (sQ (Jb (Wi (eV 0) (JM (eV 1) (JJ (Q4 1)) JX)) (JQ [gS 3,gS 4]) (sQ (QD (Yd (eK Um (QU (eV 3))) (QC "")) (Xs 2 (eK Um (QU (eV 3))) (WA (Q2 4 0) 0)) QE) (Jb (J1 (eK SR (JI (eK Wg (QU (eV 3))) (eV 4) (QC "mark")))) (JQ [gS 5,gS 6]) (Xs 2 (eV 5) (eV 6))))) (QI (eV 2)))
def UH:List D->Option D:=QV 7 2 K0
def KW:QH:=sQ (Q6 (QF lN) (gS 2)) (sQ (Jb (Wi (eV 0) (JM (eV 1) (JJ (Q4 1)) JX)) (JQ [gS 3,gS 4]) (QD (eK Xf (QU (eV 3))) (sP 2 (QN (Qc (Q2 3 1) (WA (Q2 4 0) 0)))) QE)) (QI (eV 2)))
def SS:List D->Option D:=QV 5 2 KW
def K1:QH:=sQ (Zg (eK Uo (Qc (eV 0) (eV 1)))) (QI (eK UI (JI (eV 0) (eV 1) (eV 2))))
def N0:List D->Option D:=QV 3 3 K1
def Ln:QH:=sQ (Q6 (eK UH (Qc (eV 0) (eK UI (JI (eV 0) (eV 1) (eV 2))))) (gS 3)) (QI (JL 1 [3] (J1 (eK Vp (QU (eV 0)))) (gS 0) (Jt true) (eK SJ (QU (Q5 D.dget (eV 1) (eV 0))))))
def Tb:List D->Option D:=QV 4 3 Ln
def KU:QH:=sQ (Q6 (eV 2) (gS 3)) (sQ (Q6 (eK Tb (JI (eV 0) (eV 1) (eV 3))) (gS 4)) (sQ (B1 (Yd (eV 4) (eV 3)) (sQ (Q6 (eV 4) (gS 3)) (Q6 (eK Tb (JI (eV 0) (eV 1) (eV 3))) (gS 4)))) (QI (eV 3))))
def N6:List D->Option D:=QV 5 3 KU
def K3:QH:=sQ (Zg (eK Uo (Qc (eV 0) (eV 1)))) (QI (eK N6 (JI (eV 0) (eV 1) (YC (QF (QU (Q4 1))) (QB D.len (eK Vp (QU (eV 0))))))))
def SO:List D->Option D:=QV 2 2 K3
def KS:QH:=QI (eK UI (JI (eV 0) (eV 1) (eK SO (Qc (eV 0) (eV 1)))))
def P0:List D->Option D:=QV 2 2 KS
def RN:ZH SM:=OM (Q2 1 0) (eV 2)
def Xe:List D->SM->Option SM:=XE 3 3 RN
noncomputable def RO:ZH SM:=OO (Q2 1 0) (QO (Q2 1 2) (Q4 0))
noncomputable def Wx:List D->SM->Option SM:=XE 6 4 RO
noncomputable def RL:ZH SM:=U1 (ON (Q6 (JL 1 [] (J1 (eV 1)) (gS 0) (eK Wf (QU (eV 0))) (eV 0)) (gS 4))) (Sx (Wi (eV 4) (eV 2)) (JQ [gS 5,gS 6]) (Wn (QO (Q2 5 0) (QC "ref")) (W3 Wx (JI (eV 6) (QJ (QJ (Q2 5 2) (QB D.strI (Q5 D.dget (eV 3) (Q2 5 1)))) (Q2 5 3)) (QF lN))) (W3 Wx (JI (eV 6) (Q2 5 1) (Q2 5 2)))))
noncomputable def Rk:List D->SM->Option SM:=XE 7 4 RL
noncomputable def RK:ZH SM:=Wn (QO (Q2 1 0) (QC "para")) (W3 Rk (JI (Q2 1 1) (eV 2) (eV 3))) (Wn (QO (Q2 1 0) (QC "table")) (W3 Xe (Qc (Q2 2 0) (Q2 1 1))) (Wn (Yd (Q2 1 0) (QC "plates")) (W3 Xe (Qc (Q2 2 0) (QF (QU (Q2 1 1))))) λe m=>some (e,m)))
noncomputable def SI:List D->SM->Option SM:=XE 4 4 RK
def Lj:QH:=sQ (Q6 (QB D.strI (eV 1)) (gS 3)) (sQ (Q6 (YC (QC ".") (V0 (V0 (V0 (eV 2) (QB D.len (eV 0))) (Q4 2)) (QB D.len (eV 3)))) (gS 4)) (QI (EM (eV 0) (eV 4) (eV 3))))
def Rn:List D->Option D:=QV 5 3 Lj
def Lo:QH:=sQ (Q6 (V0 (V0 (eV 1) (QB D.len (Q2 0 0))) (QB D.len (Q2 0 1))) (gS 2)) (QI (QJ (QJ (Q2 0 0) (YC (QF (QU (QC ""))) (eV 2))) (Q2 0 1)))
def Ou:List D->Option D:=QV 3 2 Lo
noncomputable def KA:QH:=sQ (Q6 (eK P0 (Qc (eV 0) (eV 1))) (gS 2)) (sQ (Q6 (eK UH (Qc (eV 0) (eV 2))) (gS 3)) (sQ (Q6 (eC (.dic [] [])) (gS 4)) (sQ (Sy 4 (U1 (Sx (Wi (Q2 2 0) (eK SS (Qc (eV 0) (eV 2)))) (JQ [gS 5,gS 6]) (W3 Xe (lC (eV 5) (lC (QF (QU (eK Rn (JI (Q2 6 0) (Q2 6 1) (Q2 1 0))))) lN)))) (Sx (Wi (eV 0) (JM (eV 2) (JJ (Q4 1)) JX)) (JQ [gS 7,gS 8]) (W3 SI (JI (eV 7) (eV 8) (eV 3)))))) (QI (JL 1 [4,1] (D7 (eV 4)) (gS 0) (Jt true) (QN (Qc (eV 0) (eK Ou (Qc (Q5 D.dget (eV 1) (eV 0)) (Q2 2 1))))))))))
noncomputable def Rw:List D->Option D:=QV 9 2 KA
def LU:QH:=sQ (QD (Q5 D.lt (eV 1) (QB D.len (eV 0))) (QI (ZG (eV 0) (eV 1))) QE) (QI (Q4 0))
def VR:List D->Option D:=QV 2 2 LU
def Lf:QH:=QI (Qn (Zn "int" (eV 0)) (JT (Zn "bool" (eV 0))))
def Ot:List D->Option D:=QV 1 1 Lf
def LY:QH:=sQ (Q6 (Jn (YC (QJ (QJ (Jn (eV 0) (Q4 2147483647)) (YC (YC (eV 1) (eV 1)) (Q4 7919))) (Q4 104729)) (Q4 48271)) (Q4 2147483647)) (gS 2)) (QI (Jn (QJ (YC (eV 2) (eV 2)) (YC (Q4 69621) (eV 1))) (Q4 2147483629)))
def We:List D->Option D:=QV 3 2 LY
def FO:QH:=sQ (Q6 (QC "abcdefghijkl") (gS 1)) (QI (QJ (QJ (QJ (JM (QC "xxx") JX (JJ (Jn (YC (eV 0) (Q4 7)) (Q4 4)))) (ZG (eV 1) (Jn (Q5 D.fdiv (eV 0) (Q4 12)) (Q4 12)))) (ZG (eV 1) (Jn (eV 0) (Q4 12)))) (JM (QC "yy") JX (JJ (Jn (YC (eV 0) (Q4 5)) (Q4 3))))))
def SG:List D->Option D:=QV 2 1 FO
def Lb:QH:=sQ (Q6 (Q4 10) (gS 2)) (sQ (Jb (VE (Jn (Q5 D.fdiv (eV 1) (Q4 97)) (Q4 4))) (gS 3) (Q6 (YC (eV 2) (Q4 10)) (gS 2))) (sQ (QD (QO (Jn (Q5 D.fdiv (eV 1) (Q4 97)) (Q4 8)) (Q4 7)) (Q6 (Q5 D.pow (Q4 10) (Q4 30)) (gS 2)) QE) (QI (Q5 D.ix (QF (JI (QJ (Q4 1) (Jn (Q5 D.fdiv (eV 1) (Q4 16)) (Q4 3))) (V0 (V0 (eV 2) (Q4 1)) (Jn (Q5 D.fdiv (eV 1) (Q4 16)) (Q4 5))) (QJ (Q4 1) (Jn (eV 0) (Q5 D.pow (Q4 10) (Q4 39)))))) (Jn (Q5 D.fdiv (eV 1) (Q4 997)) (Q4 3))))))
def Om:List D->Option D:=QV 4 2 Lb
def Ld:QH:=sQ (Q6 (eC (.str "!\"#$&'()*+,-./0123456789:;<=>?@ABCDEFGHIJKLMNOPQRSTUVWXYZ[\\]^_`")) (gS 3)) (sQ (Q6 (QJ (eV 3) (QC "abcdefghijklmnopqrstuvwxyz{}~|")) (gS 3)) (sQ (Q6 (QC "") (gS 4)) (sQ (Jb (VE (eV 1)) (gS 5) (sQ (Q6 (QJ (QJ (Q5 D.fdiv (eV 0) (Q4 7)) (YC (eV 5) (QJ (Q4 1) (Jn (eV 0) (Q4 13))))) (YC (eV 5) (eV 5))) (gS 6)) (sQ (Q6 (ZG (eV 3) (Jn (eV 6) (QJ (V0 (QB D.len (eV 3)) (Q4 1)) (eV 2)))) (gS 7)) (sQ (QD (Qn (QO (eV 2) (Q4 1)) (QO (Jn (QJ (Q5 D.fdiv (eV 0) (Q4 3)) (eV 5)) (Q4 4)) (Q4 0))) (Q6 (QC " ") (gS 7)) QE) (Q6 (QJ (eV 4) (eV 7)) (gS 4)))))) (QI (eV 4)))))
def UE:List D->Option D:=QV 8 3 Ld
def LR:QH:=sQ (Q6 (eK We (Qc (eV 0) (QJ (eV 1) (Q4 20)))) (gS 2)) (sQ (Q6 (Jn (eV 2) (Q4 17)) (gS 3)) (sQ (Q6 (QJ (Q4 1) (Jn (Q5 D.fdiv (eV 2) (Q4 17)) (ZG (QF (Qc (Q4 11) (Q4 40))) (QB D.intB (QO (Jn (Q5 D.fdiv (eV 2) (Q4 187)) (Q4 9)) (Q4 4)))))) (gS 4)) (sQ (Q6 (QJ (Q4 1) (Jn (Q5 D.fdiv (eV 2) (Q4 97)) (ZG (QF (Qc (Q4 4) (Q4 30))) (QB D.intB (QO (Jn (Q5 D.fdiv (eV 2) (Q4 1009)) (Q4 11)) (Q4 5)))))) (gS 5)) (sQ (Q6 (eK UE (JI (Q5 D.fdiv (eV 2) (Q4 17)) (eV 4) (Q4 1))) (gS 6)) (sQ (Q6 (eK UE (JI (Q5 D.fdiv (eV 2) (Q4 19)) (eV 4) (Q4 0))) (gS 7)) (sQ (Q6 (eK SG (QU (eV 1))) (gS 8)) (sQ (Q6 (eV 8) (gS 9)) (sQ (QD (QO (Jn (Q5 D.fdiv (eV 2) (Q4 1009)) (Q4 2)) (Q4 0)) (Q6 (QC "") (gS 9)) QE) (sQ (QD (QO (eV 3) (Q4 0)) (QI (QN (JI (QC "chapter") (QJ (Q2 7 0) (QB D.strip (eV 6))) (eV 9)))) QE) (sQ (QD (QO (eV 3) (Q4 1)) (QI (QN (ZB (QC "heading") (QJ (Q2 7 0) (QB D.strip (eV 6))) (V0 (eV 5) (Q4 1)) (eV 9)))) QE) (sQ (QD (QO (eV 3) (Q4 2)) (QI (QN (lC (QC "table") (lC (JL 1 [6,4] (VE (eV 5)) (gS 0) (Jt true) (JM (eV 1) JX (JJ (Q5 D.max2 (Q4 0) (V0 (eV 2) (eV 0)))))) (QU (eV 9)))))) QE) (sQ (QD (QO (eV 3) (Q4 3)) (QI (QN (JI (QC "plates") (eK Om (Qc (eV 0) (eV 2))) (eV 9)))) QE) (sQ (QD (QO (eV 3) (Q4 4)) (QI (QN (JI (QC "break") (QC "") (QC "")))) QE) (sQ (QD (Q5 D.lt (eV 3) (Q4 7)) (QI (QN (Qc (QC "mark") (eV 8)))) QE) (sQ (QD (QO (eV 3) (Q4 7)) (QI (QN (lC (QC "key") (lC (JM (YC (eV 7) (Q4 9)) JX (JJ (QJ (Q4 1) (Jn (Q5 D.fdiv (eV 2) (Q4 97)) (Q4 80))))) lN)))) QE) (sQ (QD (Q5 D.lt (eV 3) (Q4 12)) (QI (QN (lC (QC "ref") (lC (QC "") (lC (JM (eV 7) JX (JJ (Jn (Q5 D.fdiv (eV 2) (Q4 97)) (Q4 3)))) (lC (eK UE (JI (Q5 D.fdiv (eV 2) (Q4 23)) (Jn (Q5 D.fdiv (eV 2) (Q4 291)) (Q4 3)) (Q4 0))) lN)))))) QE) (sQ (QD (QO (eV 3) (Q4 12)) (QI (QN (JI (QC "word") (eV 7) (JL 1 [6] (VE (eV 5)) (gS 0) (Jt true) (JM (eV 1) (JJ (eV 0)) JX))))) QE) (QI (QN (JI (QC "word") (eV 7) (QF lN)))))))))))))))))))))
def Uk:List D->Option D:=QV 10 2 LR
def Lc:QH:=sQ (Q6 (QF lN) (gS 2)) (sQ (Jb (J1 (eV 0)) (gS 3) (QD (QO (Q2 3 0) (QC "mark")) (sP 2 (Q2 3 1)) (QD (Qn (Q5 D.notInO (Q2 3 0) (QF (ZB (QC "break") (QC "word") (QC "key") (QC "ref")))) (Yd (ZG (eV 3) (QB D.neg (Q4 1))) (QC ""))) (sP 2 (ZG (eV 3) (QB D.neg (Q4 1)))) QE))) (sQ (Q6 (QF lN) (gS 4)) (sQ (Jb (Xh (eV 0)) (JQ [gS 5,gS 3]) (QD (Qn (QO (Q2 3 0) (QC "ref")) (QO (eV 2) (QF lN))) (sP 4 (QN (JI (QC "word") (QC "lost") (QF lN)))) (QD (QO (Q2 3 0) (QC "ref")) (sQ (Q6 (ZG (eV 2) (Jn (eK We (Qc (ZG (eV 1) (eV 5)) (QJ (eV 5) (Q4 90)))) (QB D.len (eV 2)))) (gS 6)) (sP 4 (QN (ZB (QC "ref") (eV 6) (Q2 3 2) (Q2 3 3))))) (sP 4 (eV 3))))) (QI (eV 4)))))
def Oo:List D->Option D:=QV 7 2 Lc
def LX:QH:=sQ (Q6 (QF lN) (gS 1)) (sQ (Q6 (QF lN) (gS 2)) (sQ (Jb (J1 (QJ (eV 0) (QF (QU (QN (JI (QC "end") (QC "") (QC ""))))))) (gS 3) (sQ (QD (Q5 D.inO (Q2 3 0) (QF (ZB (QC "mark") (QC "key") (QC "ref") (QC "word")))) (sQ (sP 2 (eV 3)) YD) QE) (sQ (QD (Qn (Yd (eV 2) (QF lN)) (Q5 D.inO (WA (ZG (eV 2) (QB D.neg (Q4 1))) 0) (QF (Qc (QC "mark") (QC "key"))))) (sP 2 (QN (JI (QC "word") (QC "end") (QF lN)))) QE) (sQ (QD (Qa (Yd (eV 2) (QF lN)) (QO (Q2 3 0) (QC "break"))) (sP 1 (QN (Qc (QC "para") (eV 2)))) QE) (sQ (Q6 (QF lN) (gS 2)) (QD (Q5 D.notInO (Q2 3 0) (QF (Qc (QC "break") (QC "end")))) (sP 1 (eV 3)) QE)))))) (QI (eV 1))))
def Ta:List D->Option D:=QV 4 1 LX
def LW:QH:=sQ (QD (Qa (Q2 1 3) (Yd (Jn (eK VR (Qc (eV 0) (Q4 4))) (Q4 3)) (Q4 1))) (QI (QF lN)) QE) (sQ (Q6 (QJ (Q4 1) (Jn (eK We (Qc (eK VR (Qc (eV 0) (Q4 4))) (Q4 19))) (Q4 6))) (gS 2)) (sQ (Q6 (Q4 1) (gS 3)) (sQ (Jb (VE (eV 2)) (gS 4) (Q6 (YC (eV 3) (Q4 10)) (gS 3))) (sQ (Q6 (QF (lC (QN (JI (QC "word") (YC (QC "w") (Q5 D.max2 (Q4 1) (V0 (V0 (Q2 1 0) (Q4 1)) (eV 2)))) (QF lN))) (lC (QN (Qc (QC "mark") (QC "z"))) (lC (QN (ZB (QC "ref") (QC "z") (QC "") (QC ""))) lN)))) (gS 5)) (QI (QF (lC (QN (JI (QC "plates") (V0 (eV 3) (Q4 2)) (QC ""))) (lC (QN (JI (QC "table") (JL 1 [] (VE (V0 (Q2 1 1) (Q4 1))) (gS 0) (Jt true) (QC "")) (QC ""))) (QU (QN (Qc (QC "para") (eV 5))))))))))))
def Rh:List D->Option D:=QV 6 2 LW
def La:QH:=sQ (Q6 (Q4 4) (gS 2)) (sQ (Q6 (Q4 2) (gS 3)) (sQ (Jb (J1 (eV 0)) (gS 4) (sQ (QD (Qa (QO (Q2 4 0) (QC "chapter")) (QO (Q2 4 0) (QC "heading"))) (Q6 (Q5 D.max2 (eV 2) (QJ (QJ (QB D.len (Q2 4 1)) (Q4 2)) (eV 1))) (gS 2)) QE) (sQ (QD (QO (Q2 4 0) (QC "heading")) (Q6 (Q5 D.max2 (eV 3) (QJ (Q2 4 2) (Q4 1))) (gS 3)) QE) (sQ (QD (QO (Q2 4 0) (QC "table")) (sQ (Q6 (Q5 D.max2 (eV 3) (QB D.len (Q2 4 1))) (gS 3)) (Q6 (QB D.maxL (QJ (QF (QU (eV 2))) (JL 1 [] (J1 (Q2 4 1)) (gS 0) (Jt true) (QB D.len (eV 0))))) (gS 2))) QE) (QD (QO (Q2 4 0) (QC "para")) (sQ (Q6 (QB D.maxL (QJ (QF (QU (eV 2))) (JL 1 [1] (J1 (Q2 4 1)) (gS 0) (QO (Q2 0 0) (QC "ref")) (QJ (QJ (QB D.len (Q2 0 2)) (eV 1)) (QB D.len (Q2 0 3)))))) (gS 2)) (sQ (Q6 (QB D.maxL (QJ (QF (QU (eV 2))) (JL 1 [] (J1 (Q2 4 1)) (gS 0) (QO (Q2 0 0) (QC "word")) (QB D.len (Q2 0 1))))) (gS 2)) (sQ (Q6 (JL 1 [] (J1 (Q2 4 1)) (gS 0) (QO (Q2 0 0) (QC "word")) (Q2 0 2)) (gS 5)) (sQ (Q6 (QB D.maxL (QJ (QF (QU (eV 3))) (JL 1 [] (J1 (eV 5)) (gS 0) (Jt true) (QJ (Q4 1) (QB D.len (eV 0)))))) (gS 3)) (Jb (J1 (eV 5)) (gS 6) (Q6 (QB D.maxL (QJ (QF (QU (eV 2))) (JL 1 [] (J1 (eV 6)) (gS 0) (Jt true) (QB D.len (eV 0))))) (gS 2))))))) QE))))) (QI (QN (Qc (eV 2) (eV 3))))))
def Rj:List D->Option D:=QV 7 2 La
def LZ:QH:=sQ (Q6 (Q4 3) (gS 2)) (sQ (Jb (J1 (eV 0)) (gS 3) (sQ (Q6 (QJ (eV 2) (Q4 2)) (gS 2)) (sQ (QD (Qn (eV 1) (Qa (QO (Q2 3 0) (QC "chapter")) (QO (Q2 3 0) (QC "heading")))) (Q6 (QJ (eV 2) (Q4 2)) (gS 2)) QE) (sQ (QD (QO (Q2 3 0) (QC "plates")) (Q6 (QJ (eV 2) (Q2 3 1)) (gS 2)) QE) (QD (QO (Q2 3 0) (QC "para")) (Q6 (QJ (eV 2) (YC (Q4 2) (QB D.len (JL 1 [] (J1 (Q2 3 1)) (gS 0) (Qa (QO (Q2 0 0) (QC "word")) (QO (Q2 0 0) (QC "ref"))) (eV 0))))) (gS 2)) QE))))) (QI (eV 2)))
def Ri:List D->Option D:=QV 4 2 LZ
def LV:QH:=sQ (Q6 (QJ (JM (eV 0) JX (JJ (Q4 63))) (QF (QU (Q4 7)))) (gS 1)) (sQ (Q6 (JL 1 [1] (VE (Jn (eK We (Qc (eK VR (Qc (eV 0) (Q4 5))) (Q4 29))) (Q4 35))) (gS 0) (Jt true) (ZG (eV 1) (Jn (eV 0) (QB D.len (eV 1))))) (gS 2)) (sQ (Q6 (eK Ta (lC (eK Oo (Qc (JL 2 [] (Xh (eV 2)) (JQ [gS 0,gS 1]) (Jt true) (eK Uk (Qc (eV 1) (eV 0)))) (eV 2))) lN)) (gS 3)) (sQ (Q6 (QO (Jn (eK VR (Qc (eV 0) (Q4 3))) (Q4 2)) (Q4 1)) (gS 4)) (sQ (Q6 (eK Rh (lC (eV 0) (lC (QN (ZB (Q4 4) (Q4 2) (Jt false) (eV 4))) lN))) (gS 5)) (sQ (Q6 (QB D.len (QB D.strI (eK Ri (Qc (QJ (eV 5) (eV 3)) (eV 4))))) (gS 6)) (sQ (Q6 (eK Rj (Qc (QJ (eV 3) (eV 5)) (eV 6))) (JQ [gS 7,gS 8])) (sQ (QD (Yd (eV 5) (QF lN)) (Q6 (Q5 D.max2 (eV 7) (QJ (eV 6) (Q4 2))) (gS 7)) QE) (sQ (Q6 (Q5 D.max2 (eV 7) (QJ (Q4 4) (Jn (eK We (Qc (eK VR (Qc (eV 0) (Q4 0))) (Q4 1))) (Q4 30)))) (gS 9)) (sQ (Q6 (Q5 D.max2 (eV 8) (QJ (Q4 2) (Jn (eK We (Qc (eK VR (Qc (eV 0) (Q4 1))) (Q4 2))) (Q4 5)))) (gS 10)) (sQ (QD (QO (Jn (eK VR (Qc (eV 0) (Q4 1))) (Q4 5)) (Q4 1)) (Q6 (Q5 D.max2 (eV 8) (QJ (Q4 2) (Jn (eK We (Qc (eK VR (Qc (eV 0) (Q4 1))) (Q4 4))) (Q4 59)))) (gS 10)) QE) (sQ (Q6 (QN (ZB (eV 9) (eV 10) (QO (Jn (eK VR (Qc (eV 0) (Q4 2))) (Q4 2)) (Q4 1)) (eV 4))) (gS 11)) (QI (QN (JI (QJ (eK Rh (Qc (eV 0) (eV 11))) (eV 3)) (eV 11) (eV 6)))))))))))))))
def Rg:List D->Option D:=QV 12 1 LV
def Le:QH:=sQ (Q6 (QF lN) (gS 2)) (sQ (Jb (VE (QB D.len (eV 0))) (gS 3) (QD (Qa (QO (WA (ZG (eV 0) (eV 3)) 0) (QC "chapter")) (QO (WA (ZG (eV 0) (eV 3)) 0) (QC "heading"))) (sP 2 (QN (Qc (WA (ZG (eV 0) (eV 3)) 1) (WA (WA (ZG (eV 1) (QJ (eV 3) (Q4 1))) 0) 0)))) QE)) (QI (eV 2)))
def Oq:List D->Option D:=QV 4 2 Le
noncomputable def K2:QH:=sQ (Q6 (eK Rg (lC (QJ (QJ (JM (QJ (JM (eV 0) JX (JJ (Q4 3))) (QF (JI (Q4 0) (Q4 0) (Q4 0)))) JX (JJ (Q4 3))) (QF (QU (Q4 1)))) (JM (eV 0) (JJ (Q4 4)) JX)) lN)) (JQ [gS 1,gS 2,gS 3])) (sQ (Q6 (eK N0 (JI (eV 1) (eV 2) (eK SO (Qc (eV 1) (eV 2))))) (gS 4)) (sQ (Q6 (eK Oq (Qc (eV 1) (eV 4))) (gS 5)) (sQ (QD (Yd (QB D.len (Q2 4 0)) (QB D.len (eV 5))) (QI (Jt false)) QE) (sQ (Q6 (eC (.dic [] [])) (gS 6)) (sQ (Jb (J1 (eK Rw (Qc (eV 1) (eV 2)))) (JQ [gS 7,gS 8]) (Xs 6 (eV 7) (eV 8))) (sQ (Jb (VE (QB D.len (eV 5))) (gS 9) (sQ (Q6 (ZG (Q2 4 0) (eV 9)) (JQ [gS 7,gS 10,gS 11])) (sQ (Q6 (ZG (eV 5) (eV 9)) (JQ [gS 12,gS 13])) (sQ (QD (Qa (JT (eK Ot (QU (eV 13)))) (Qa (Q5 D.dNotIn (eV 7) (eV 6)) (Yd (eV 11) (Q4 0)))) (QI (Jt false)) QE) (sQ (Q6 (ZG (Q5 D.dget (eV 6) (eV 7)) (eV 10)) (gS 14)) (sQ (Q6 (V0 (V0 (V0 (Q2 2 0) (QB D.len (eV 12))) (QB D.len (QB D.strI (eV 13)))) (Q4 2)) (gS 15)) (sQ (QD (Qa (Yd (QB D.len (eV 14)) (Q2 2 0)) (Qa (Yd (JM (eV 14) JX (JJ (QB D.len (eV 12)))) (eV 12)) (Yd (JM (eV 14) (JJ (V0 (QB D.len (eV 14)) (QB D.len (QB D.strI (eV 13))))) JX) (QB D.strI (eV 13))))) (QI (Jt false)) QE) (QD (Qa (Q5 D.lt (eV 15) (Q4 0)) (Yd (JM (eV 14) (JJ (QB D.len (eV 12))) (JJ (V0 (QB D.len (eV 14)) (QB D.len (QB D.strI (eV 13)))))) (QJ (QJ (QC " ") (YC (QC ".") (eV 15))) (QC " ")))) (QI (Jt false)) QE)))))))) (QI (Jt true))))))))
noncomputable def SN:List D->Option D:=QV 16 1 K2
noncomputable def cell(ns:List Int)(k:Nat):Int:=ns.getD k 0
def S9(ns:List Int)(k:Nat):VR [.lst (ns.map .int),.int k]=Q0 (cell ns k):=by
 unfold VR LU;by_cases h:k<ns.length;·simp[Jk,JM,ZD,lI,QV,sD,sQ,QD,QI,V2,Q6,ZV,Zg,QE,V1,YD,gS,JQ,Z9,eV,eC,Q5,QB,JT,Qn,Qa,Zb,Zy,QN,QF,eK,lN,lC,Zn,JX,JJ,Yi,D.len,D.lt,D.le,D.gt,D.ge,D.add,D.sub,D.ix,D.eqO,D.neO,D.cmp,D.cmpN,D.inst,ZX,D.isT,D.intB,D.min2,D.max2,D.neg,D.addI,Qj,Yv,Yn,Yw,Jf,Jq,V3,V4,V6,V5,Yl,Yk,Yj,Yg,Ys,Y3,YW,YV,J6,JF,ZP,ZO,ZZ,ZI,D.rng,D.its,D.itsT,J9,Ym,JC,YX,Zz,Zp,Y5,JN,h,cell]
 ·simp[Jk,JM,ZD,lI,QV,sD,sQ,QD,QI,V2,Q6,ZV,Zg,QE,V1,YD,gS,JQ,Z9,eV,eC,Q5,QB,JT,Qn,Qa,Zb,Zy,QN,QF,eK,lN,lC,Zn,JX,JJ,Yi,D.len,D.lt,D.le,D.gt,D.ge,D.add,D.sub,D.ix,D.eqO,D.neO,D.cmp,D.cmpN,D.inst,ZX,D.isT,D.intB,D.min2,D.max2,D.neg,D.addI,Qj,Yv,Yn,Yw,Jf,Jq,V3,V4,V6,V5,Yl,Yk,Yj,Yg,Ys,Y3,YW,YV,J6,JF,ZP,ZO,ZZ,ZI,D.rng,D.its,D.itsT,J9,Ym,JC,YX,Zz,Zp,Y5,JN,h,cell]
noncomputable def Zd(c t:Int):Int:=((c%2147483647+t*t*7919+104729)*48271%2147483647*((c%2147483647+t*t*7919+104729)*48271%2147483647)+69621*t)%2147483629
def Dp(c t:Int):0<=Zd c t:=XM _ (by decide)
def QeJ(c t:Int):Zd c t<2147483629:=Xq _ (by decide)
def Tg(c t:Int)(h0:0<=t)(h1:t<=1000):We [.int c,.int t]=Q0 (Zd c t):=by have e1:D.mul (.int t) (.int t)=Q0 (t*t):=Sb (by omega);have e2:D.mul (.int (t*t)) (.int 7919)=Q0 (t*t*7919):=NO (by decide);have e3:D.mul (.int (c%2147483647+t*t*7919+104729)) (.int 48271)=Q0 ((c%2147483647+t*t*7919+104729)*48271):=NO (by decide);have n0:=XM ((c%2147483647+t*t*7919+104729)*48271) (show(2147483647:Int)≠0 by decide);have n1:=Xq ((c%2147483647+t*t*7919+104729)*48271) (show(0:Int)<2147483647 by decide);have e4:D.mul (.int ((c%2147483647+t*t*7919+104729)*48271%2147483647)) (.int ((c%2147483647+t*t*7919+104729)*48271%2147483647))=Q0 _:=Sb ⟨by omega,by omega⟩;have e5:D.mul (.int 69621) (.int t)=Q0 (69621*t):=Sb (by decide);have m1:D.mod (.int c) (.int 2147483647)=Q0 (c%2147483647):=Xl (by decide);have m2:D.mod (.int ((c%2147483647+t*t*7919+104729)*48271)) (.int 2147483647)=Q0 _:=Xl (by decide);have m3:∀z:Int,D.mod (.int z) (.int 2147483629)=Q0 (z%2147483629):=λz=>Xl (by decide);unfold We LY Zd;simp[Jk,JM,ZD,lI,QV,sD,sQ,QD,QI,V2,Q6,ZV,Zg,QE,V1,YD,gS,JQ,Z9,eV,eC,Q5,QB,JT,Qn,Qa,Zb,Zy,QN,QF,eK,lN,lC,Zn,JX,JJ,Yi,D.len,D.lt,D.le,D.gt,D.ge,D.add,D.sub,D.ix,D.eqO,D.neO,D.cmp,D.cmpN,D.inst,ZX,D.isT,D.intB,D.min2,D.max2,D.neg,D.addI,Qj,Yv,Yn,Yw,Jf,Jq,V3,V4,V6,V5,Yl,Yk,Yj,Yg,Ys,Y3,YW,YV,J6,JF,ZP,ZO,ZZ,ZI,D.rng,D.its,D.itsT,J9,Ym,JC,YX,Zz,Zp,Y5,e1,e2,e3,e4,e5,m1,m2,m3]
def Y8(z:Int){j:Int}(h:0<j):D.mod (.int z) (.int j)=Q0 (z%j):=Xl h
def TV(z:Int){j:Int}(h:0<j):∃x,z%j=x/\0<=x/\x<j:=⟨_,rfl,XM z (by omega),Xq z h⟩
theorem toNat_inj:∀{a b:List Char},a.map Char.toNat=b.map Char.toNat->a=b|[],[],_=>rfl|[],_::_,h=>nomatch h|_::_,[],h=>nomatch h|a::x,b::y,h=>by rw[ZT,ZT]at h;obtain⟨h1,h2⟩:=List.cons.inj h;rw[toNat_inj h2,Char.toNat_inj.mp h1]
@[simp]theorem tg(a b:String):(Str.ofString a=Str.ofString b)=(a=b):=propext ⟨λh=>by rw[Str.ofString_eq_byList]at h;unfold Str.ofStringByList at h;have h2:(a.toList.map Char.toNat).toArray=(b.toList.map Char.toNat).toArray:=Str.mk.inj h;exact String.toList_inj.mp (toNat_inj (congrArg Array.toList h2)),λh=>h▸rfl⟩
inductive It where|word(w:Str)(ns:List Str)|ref(l a b:Str)|mark(l:Str)|key(w:Str)
inductive Bk where|chapter(t l:Str)|heading(t:Str)(k:Int)(l:Str)|para(is:List It)|table(rs:List Str)(l:Str)|plates(n:Int)(l:Str)
inductive At where|bk(b:Bk)|it(i:It)|brk|fin
noncomputable def QR(xs:List Str):D:=.lst (xs.map .str)
@[simp]def It.d:It->D|.word w ns=>.tup [.str "word",.str w,QR ns]|.ref l a b=>.tup [.str "ref",.str l,.str a,.str b]|.mark l=>.tup [.str "mark",.str l]|.key w=>.tup [.str "key",.str w]
@[simp]def Bk.d:Bk->D|.chapter t l=>.tup [.str "chapter",.str t,.str l]|.heading t k l=>.tup [.str "heading",.str t,.int k,.str l]|.para is=>.tup [.str "para",.lst (is.map It.d)]|.table rs l=>.tup [.str "table",QR rs,.str l]|.plates n l=>.tup [.str "plates",.int n,.str l]
@[simp]def At.d:At->D|.bk b=>b.d|.it i=>i.d|.brk=>.tup [.str "break",.str "",.str ""]|.fin=>.tup [.str "end",.str "",.str ""]
def Q9(bs:List Bk):D:=.lst (bs.map Bk.d)
theorem loopR{α σ:Type}{g:Jy}{b:QH}(d:α->D)(R:σ->QG->Prop)(step:σ->α->σ):∀(xs:List α),(∀a∈xs,∀s e,R s e->∃e',((g (d a) e).bind b=some (.nx e')\/(g (d a) e).bind b=some (.ct e'))/\R (step s a) e')->∀s e,R s e->∃e',Vt g b (xs.map d) e=some (.nx e')/\R (xs.foldl step s) e'
 |[],_,s,e,h=>⟨e,rfl,h⟩|a::xs,hb,s,e,h=>by
  obtain⟨e1,h1,r1⟩:=hb a Ja s e h;obtain⟨e2,h2,r2⟩:=loopR d R step xs (λx hx=>hb x (JO _ hx)) _ _ r1;refine⟨e2,?_,r2⟩;show WD ((g (d a) e).bind b) (Vt g b (xs.map d))=_;rcases h1 with h1|h1;·rw[h1];exact h2
  ·rw[h1];exact h2
theorem Fm{α:Type}{g:Jy}{c el:Q7}(d:α->D)(R:QG->Prop)(p:α->Bool)(o:α->D):∀(xs:List α),(∀a∈xs,∀e,R e->∃e',g (d a) e=some e'/\R e'/\c e'=QS (p a)/\(p a=true->el e'=some (o a)))->∀e,R e->XB g c el (xs.map d) e=some ((xs.filter p).map o)|[],_,e,h=>rfl|a::xs,hb,e,h=>by obtain⟨e1,h1,r1,h2,h3⟩:=hb a Ja e h;have ih:=Fm d R p o xs (λx hx=>hb x (JO _ hx)) _ r1;show(g (d a) e).bind (λe1=>YY (c e1) ((el e1).bind λx=>(XB g c el (xs.map d) e1).map λr=>x::r) (XB g c el (xs.map d) e1))=_;rw[h1];show YY (c e1) _ _=_;rw[h2,Qj,ih];cases q:p a with|false=>rw[if_neg (by decide),List.filter_cons_of_neg (by simp[q])]|true=>rw[if_pos rfl,h3 q,List.filter_cons_of_pos q];rfl
theorem Ut{α:Type}{g:Jy}{b:QH}(d:α->D):∀(xs:List α)(R:Nat->QG->Prop),(∀i(hi:i<xs.length)e,R i e->∃e',((g (d xs[i]) e).bind b=some (.nx e')\/(g (d xs[i]) e).bind b=some (.ct e'))/\R (i+1) e')->∀e,R 0 e->∃e',Vt g b (xs.map d) e=some (.nx e')/\R xs.length e'
 |[],R,_,e,h=>⟨e,rfl,h⟩|a::xs,R,hb,e,h=>by
  obtain⟨e1,h1,r1⟩:=hb 0 (by simp) e h;obtain⟨e2,h2,r2⟩:=Ut d xs (λi=>R (i+1)) (λi hi x hx=>hb (i+1) (by simpa using hi) x hx) _ r1;refine⟨e2,?_,r2⟩;show WD ((g (d a) e).bind b) (Vt g b (xs.map d))=_;have fG:(g (d a) e).bind b=some (.nx e1)\/(g (d a) e).bind b=some (.ct e1):=h1;rcases fG with h1|h1;·rw[h1];exact h2
  ·rw[h1];exact h2
def Qez{g:Jy}{b:QH}(n:Nat)(R:Nat->QG->Prop)(h:∀i,i<n->∀e,R i e->∃e',((g (.int (0+(i:Int))) e).bind b=some (.nx e')\/(g (.int (0+(i:Int))) e).bind b=some (.ct e'))/\R (i+1) e'):∀e,R 0 e->∃e',Vt g b (rD 0 n) e=some (.nx e')/\R n e':=by
 intro e h0;have:=Ut (g:=g) (b:=b) (λi:Nat=>D.int (0+(i:Int))) (List.range n) R (λi hi e r=>by
  have q:(List.range n)[i]=i:=by simp
  rw[q];exact h i (by simpa using hi) e r) e h0;simpa[rD]using this
def st{a k:QH}{e e1:QG}{r:Option Fl}(h:a e=some (.nx e1))(hk:k e1=r):sQ a k e=r:=by unfold sQ;rw[h];exact hk
def Y2{a k:QH}{e:QG}{d:D}(h:a e=some (.rt d)):sQ a k e=some (.rt d):=by unfold sQ;rw[h];rfl
def stC{a k:QH}{e e1:QG}(h:a e=some (.ct e1)):sQ a k e=some (.ct e1):=by unfold sQ;rw[h];rfl
def JS{n k:Nat}{b:QH}{ds:List D}{r:D}(hl:ds.length=k)(h:b (sD n ds)=some (.rt r)):QV n k b ds=some r:=by unfold QV;rw[if_pos hl,h];rfl
def Hg{it:ZY}{g:Jy}{b k:QH}{e:QG}{r:Option Fl}(n:Nat)(R:Nat->QG->Prop)(hit:it e=some (rD 0 n))(h0:R 0 e)(hb:∀i,i<n->∀e,R i e->∃e',((g (.int (0+(i:Int))) e).bind b=some (.nx e')\/(g (.int (0+(i:Int))) e).bind b=some (.ct e'))/\R (i+1) e')(hk:∀e',R n e'->k e'=r):sQ (Jb it g b) k e=r:=by obtain⟨e',h1,h2⟩:=Qez n R hb e h0;refine st (e1:=e') ?_ (hk e' h2);unfold Jb;rw[hit];exact h1
def XQ{α:Type}{it:ZY}{g:Jy}{b k:QH}{e:QG}{r:Option Fl}(d:α->D)(xs:List α)(R:Nat->QG->Prop)(hit:it e=some (xs.map d))(h0:R 0 e)(hb:∀i(hi:i<xs.length)e,R i e->∃e',((g (d xs[i]) e).bind b=some (.nx e')\/(g (d xs[i]) e).bind b=some (.ct e'))/\R (i+1) e')(hk:∀e',R xs.length e'->k e'=r):sQ (Jb it g b) k e=r:=by obtain⟨e',h1,h2⟩:=Ut d xs R hb e h0;refine st (e1:=e') ?_ (hk e' h2);unfold Jb;rw[hit];exact h1
def Eh{α σ:Type}{it:ZY}{g:Jy}{b:QH}{e:QG}(d:α->D)(xs:List α)(R:σ->QG->Prop)(step:σ->α->σ)(s:σ)(hit:it e=some (xs.map d))(h0:R s e)(hb:∀a∈xs,∀s e,R s e->∃e',((g (d a) e).bind b=some (.nx e')\/(g (d a) e).bind b=some (.ct e'))/\R (step s a) e'):∃e',Jb it g b e=some (.nx e')/\R (xs.foldl step s) e':=by obtain⟨e',h1,h2⟩:=loopR d R step xs hb s e h0;refine⟨e',?_,h2⟩;unfold Jb;rw[hit];exact h1
def A6{α σ:Type}{it:ZY}{g:Jy}{b k:QH}{e:QG}{r:Option Fl}(d:α->D)(xs:List α)(R:σ->QG->Prop)(step:σ->α->σ)(s:σ)(hit:it e=some (xs.map d))(h0:R s e)(hb:∀a∈xs,∀s e,R s e->∃e',((g (d a) e).bind b=some (.nx e')\/(g (d a) e).bind b=some (.ct e'))/\R (step s a) e')(hk:∀e',R (xs.foldl step s) e'->k e'=r):sQ (Jb it g b) k e=r:=by obtain⟨e',h1,h2⟩:=Eh d xs R step s hit h0 hb;exact st h1 (hk e' h2)
def Jg{g:Jy}{b:QH}{d:D}{e e1:QG}{r:Option Fl}(h:g d e=some e1)(hk:b e1=r):(g d e).bind b=r:=by rw[h];exact hk
def ret{a:Q7}{e:QG}{d:D}(h:a e=some d):QI a e=some (.rt d):=by unfold QI;rw[h];rfl
def exD{β:Type}{dd:β->D}{P:β->Prop}{n k:Nat}{b:QH}{ds:List D}(hl:ds.length=k)(h:∃x,b (sD n ds)=some (.rt (dd x))/\P x):∃x,QV n k b ds=some (dd x)/\P x:=by obtain⟨x,h1,h2⟩:=h;exact⟨x,JS hl h1,h2⟩
def VQ{β:Type}{dd:β->D}{P:β->Prop}{a k:QH}{e e1:QG}(h:a e=some (.nx e1))(hk:∃x,k e1=some (.rt (dd x))/\P x):∃x,sQ a k e=some (.rt (dd x))/\P x:=by obtain⟨x,h1,h2⟩:=hk;exact⟨x,st h h1,h2⟩
def Va{α:Type}{n:Nat}{caps:List Nat}{it:ZY}{g:Jy}{c el:Q7}{e:QG}(d:α->D)(xs:List α)(R:QG->Prop)(p:α->Bool)(o:α->D)(hit:it e=some (xs.map d))(hl:xs.length<=lI)(h0:R (XY n caps e))(hb:∀a∈xs,∀e,R e->∃e',g (d a) e=some e'/\R e'/\c e'=QS (p a)/\(p a=true->el e'=some (o a))):JL n caps it g c el e=QA ((xs.filter p).map o):=by unfold JL;rw[hit];show(if(xs.map d).length<=lI then(XB g c el (xs.map d) (XY n caps e)).map D.lst else none)=_;rw[if_pos (by rw[Qo];exact hl),Fm d R p o xs hb _ h0];rfl
def XH{α:Type}(xs:List α):xs.filter (λ_=>true)=xs:=by simp
def Sf{a b:Q7}{e:QG}{r:Option D}(ha:a e=QS false)(hb:b e=r):Qa a b e=r:=by unfold Qa;rw[ha];exact hb
def orT{a b:Q7}{e:QG}(ha:a e=QS true):Qa a b e=QS true:=by unfold Qa;rw[ha];rfl
def Ye{a b:Q7}{e:QG}{r:Option D}(ha:a e=QS true)(hb:b e=r):Qn a b e=r:=by unfold Qn;rw[ha];exact hb
def VM{a b:Q7}{e:QG}(ha:a e=QS false):Qn a b e=QS false:=by unfold Qn;rw[ha];rfl
def Q1{g:D->D->Option D}{a b:Q7}{e:QG}{x y:D}{r:Option D}(ha:a e=some x)(hb:b e=some y)(h:g x y=r):Q5 g a b e=r:=by unfold Q5;rw[ha,hb];exact h
def JK{g:D->Option D}{a:Q7}{e:QG}{x:D}{r:Option D}(ha:a e=some x)(h:g x=r):QB g a e=r:=by unfold QB;rw[ha];exact h
def Th{a:Q7}{e:QG}{b:Bool}(ha:a e=QS b):JT a e=QS (!b):=by unfold JT;rw[ha];rfl
def D8{t:String}{a:Q7}{e:QG}{x:D}{r:Option D}(ha:a e=some x)(h:D.inst t x=r):Zn t a e=r:=by unfold Zn;rw[ha];exact h
def JD{f:List D->Option D}{a:Q7}{e:QG}{x:D}{r:Option D}(ha:a e=some x)(h:f [x]=r):eK f (lC a lN) e=r:=by unfold eK lC lN;rw[ha];exact h
def Zv{f:List D->Option D}{a b:Q7}{e:QG}{x y:D}{r:Option D}(ha:a e=some x)(hb:b e=some y)(h:f [x,y]=r):eK f (lC a (lC b lN)) e=r:=by unfold eK lC lN;rw[ha,hb];exact h
def YE{f:List D->Option D}{a b c:Q7}{e:QG}{x y z:D}{r:Option D}(ha:a e=some x)(hb:b e=some y)(hc:c e=some z)(h:f [x,y,z]=r):eK f (lC a (lC b (lC c lN))) e=r:=by unfold eK lC lN;rw[ha,hb,hc];exact h
def TH{f:List D->Option D}{a b c d:Q7}{e:QG}{x y z u:D}{r:Option D}(ha:a e=some x)(hb:b e=some y)(hc:c e=some z)(hd:d e=some u)(h:f [x,y,z,u]=r):eK f (lC a (lC b (lC c (lC d lN)))) e=r:=by unfold eK lC lN;rw[ha,hb,hc,hd];exact h
def WY{i:Nat}{a:Q7}{e:QG}{x d z:D}(hx:eV i e=some x)(ha:a e=some d)(h:D.app x d=some z):sP i a e=some (.nx (e.set i (some z))):=by unfold sP;rw[hx,ha];show(D.app x d).map _=_;rw[h];rfl
def J0{a:Q7}{g:Jy}{e e1:QG}{d:D}(h:a e=some d)(hg:g d e=some e1):Q6 a g e=some (.nx e1):=by unfold Q6;rw[h];show(g d e).map _=_;rw[hg];rfl
def JR{c:Q7}{a b:QH}{e:QG}{r:Option Fl}(h:c e=QS true)(ha:a e=r):QD c a b e=r:=by unfold QD;rw[h];exact ha
def QY{c:Q7}{a b:QH}{e:QG}{r:Option Fl}(h:c e=QS false)(ha:b e=r):QD c a b e=r:=by unfold QD;rw[h];exact ha
def Qb(x y:Str):D.eqO (.str x) (.str y)=QS (decide (x=y)):=by simp[D.eqO,JF,JC,D.cmp]
def Md{a b c:Q7}{e:QG}{x y z:D}(ha:a e=some x)(hb:b e=some y)(hc:c e=some z):QN (lC a (lC b (lC c lN))) e=some (.tup [x,y,z]):=by unfold QN lC lN;rw[ha,hb,hc];rfl
def AW{a b:Q7}{e:QG}{x y:D}(ha:a e=some x)(hb:b e=some y):QN (lC a (lC b lN)) e=some (.tup [x,y]):=by unfold QN lC lN;rw[ha,hb];rfl
def Hs{a b c d:Q7}{e:QG}{x y z u:D}(ha:a e=some x)(hb:b e=some y)(hc:c e=some z)(hd:d e=some u):QN (lC a (lC b (lC c (lC d lN)))) e=some (.tup [x,y,z,u]):=by unfold QN lC lN;rw[ha,hb,hc,hd];rfl
def TY{x y:Int}(h:x≠y):D.eqO (.int x) (.int y)=QS false:=by simp[D.eqO,J6,J9,D.cmp,h]
def TZ{x y:Int}(h:x=y):D.eqO (.int x) (.int y)=QS true:=by simp[D.eqO,J6,J9,D.cmp,h]
def II{x y:Int}(h:¬x<y):D.lt (.int x) (.int y)=QS false:=by show some (D.bl (decide (x<y)))=_;rw[JU h]
def Dd{x y:Int}(h:x<y):D.lt (.int x) (.int y)=QS true:=by show some (D.bl (decide (x<y)))=_;rw[Z6 h]
def XZ{a:Q7}{lo hi:T7}{e:QG}{x:D}{l h:Option Int}{r:Option D}(ha:a e=some x)(hl:lo e=some l)(hh:hi e=some h)(hc:ZD x l h=r):JM a lo hi e=r:=by unfold JM;rw[ha,hl,hh];exact hc
def Uc{a:Q7}{e:QG}{i:Int}(ha:a e=Q0 i):JJ a e=some (some i):=by unfold JJ;rw[ha];rfl
noncomputable def AM:Option D->Str|some (.str x)=>x|_=>""
noncomputable def DB:Option D->Bool|some (.str _)=>true|_=>false
def QdN{o:Option D}(h:DB o=true):o=QQ (AM o):=by cases o with|none=>cases h|some d=>cases d<;>first|rfl|cases h
def Y7(k:Nat):Str:=AM (SG [.int k])
def NK(k:Nat):Bool:=DB (SG [.int k])&&decide (1<=(Y7 k).length)&&decide ((Y7 k).length<=7)&&decide (Y7 k≠"z")
def Qd8:(List.range 58).all NK=true:=by decide+kernel
def DQ(k:Nat)(h:k<58):NK k=true:=List.all_eq_true.mp Qd8 k (List.mem_range.mpr h)
def Qd9(k:Nat)(h:k<58):SG [.int k]=QQ (Y7 k):=by have:=DQ k h;simp only[NK,Xo]at this;exact QdN this.1.1.1
def Qec(k:Nat)(h:k<58):Y7 k≠"z":=by have:=DQ k h;simp only[NK,Xo,decide_eq_true_eq]at this;exact this.2
noncomputable def NP:List Str->Bool|[]=>true|x::xs=>xs.all (λy=>decide (x≠y))&&NP xs
def Qeb:NP ((List.range 58).map Y7)=true:=by decide+kernel
def Wh(z:Int){j:Int}(h:0<j/\j<1073741824):D.fdiv (.int z) (.int j)=Q0 (z/j):=Qc8 h
def QiL(t:Int)(a b c:Option D):∀(ds:List D),∃c',Vt (gS 3) (Q6 (YC (eV 2) (Q4 10)) (gS 2)) ds [a,b,Q0 t,c]=some (.nx [a,b,Q0 (t*10^ds.length),c']):=by intro ds;induction ds generalizing t c with|nil=>exact⟨c,by simp[Vt]⟩|cons d ds ih=>obtain⟨c',e⟩:=ih (t*10) (some d);refine⟨c',?_⟩;have m:D.mul (.int t) (.int 10)=Q0 (t*10):=NO (by decide);simp[Vt,Jk,JM,ZD,lI,QV,sD,sQ,QD,QI,V2,Q6,ZV,Zg,QE,V1,YD,gS,JQ,Z9,eV,eC,Q5,QB,JT,Qn,Qa,Zb,Zy,QN,QF,eK,lN,lC,Zn,JX,JJ,Yi,D.len,D.lt,D.le,D.gt,D.ge,D.add,D.sub,D.ix,D.eqO,D.neO,D.cmp,D.cmpN,D.inst,ZX,D.isT,D.intB,D.min2,D.max2,D.neg,D.addI,Qj,Yv,Yn,Yw,Jf,Jq,V3,V4,V6,V5,Yl,Yk,Yj,Yg,Ys,Y3,YW,YV,J6,JF,ZP,ZO,ZZ,ZI,D.rng,D.its,D.itsT,J9,Ym,JC,YX,Zz,Zp,Y5,AZ,m,e];rw[Int.mul_assoc,<-Int.pow_succ']
def QiK(t:Int)(a b c d e:Option D):∀(ds:List D),∃d',Vt (gS 4) (Q6 (YC (eV 3) (Q4 10)) (gS 3)) ds [a,b,c,Q0 t,d,e]=some (.nx [a,b,c,Q0 (t*10^ds.length),d',e]):=by intro ds;induction ds generalizing t d with|nil=>exact⟨d,by simp[Vt]⟩|cons x ds ih=>obtain⟨c',q⟩:=ih (t*10) (some x);refine⟨c',?_⟩;have m:D.mul (.int t) (.int 10)=Q0 (t*10):=NO (by decide);simp[Vt,Jk,JM,ZD,lI,QV,sD,sQ,QD,QI,V2,Q6,ZV,Zg,QE,V1,YD,gS,JQ,Z9,eV,eC,Q5,QB,JT,Qn,Qa,Zb,Zy,QN,QF,eK,lN,lC,Zn,JX,JJ,Yi,D.len,D.lt,D.le,D.gt,D.ge,D.add,D.sub,D.ix,D.eqO,D.neO,D.cmp,D.cmpN,D.inst,ZX,D.isT,D.intB,D.min2,D.max2,D.neg,D.addI,Qj,Yv,Yn,Yw,Jf,Jq,V3,V4,V6,V5,Yl,Yk,Yj,Yg,Ys,Y3,YW,YV,J6,JF,ZP,ZO,ZZ,ZI,D.rng,D.its,D.itsT,J9,Ym,JC,YX,Zz,Zp,Y5,AZ,m,q];rw[Int.mul_assoc,<-Int.pow_succ']
def Cw(lo:Int)(n:Nat):(rD lo n).length=n:=by unfold rD;simp
def QiM(n:Nat)(h:n<=3):(10:Int)<=10*10^n/\(10:Int)*10^n<=10^30:=by
 have:n=0\/n=1\/n=2\/n=3:=by omega
 rcases this with z|z|z|z<;>subst z<;>decide
def UO{x y z:D}{i:Int}(h:i=0\/i=1\/i=2):D.ix (.lst [x,y,z]) (.int i)=some (if i=0 then x else if i=1 then y else z):=by rcases h with h|h|h<;>subst h<;>rfl
def QaE(x:Int)(h:x<=3):x<=10^39:=by
 have:(3:Int)<=10^39:=by decide
 omega
def QaF(x:Int)(h:x<=10^30):x<=10^39:=by
 have:(10:Int)^30<=10^39:=by decide
 omega
def Qhc(c n:Int)(hn:0<=n):∃p:Int,Om [.int c,.int n]=Q0 p/\1<=p/\p<=10^39:=by
 obtain⟨m4,e4,l4,u4⟩:=TV (n/97) (show(0:Int)<4 by decide);obtain⟨m3,e3,l3,u3⟩:=TV (n/16) (show(0:Int)<3 by decide);obtain⟨m5,e5,l5,u5⟩:=TV (n/16) (show(0:Int)<5 by decide);obtain⟨m8,e8,l8,u8⟩:=TV (n/97) (show(0:Int)<8 by decide);obtain⟨q3,f3,g3,h3⟩:=TV (n/997) (show(0:Int)<3 by decide);obtain⟨mc,ec,lc,uc⟩:=TV c (show(0:Int)<10^39 by decide);have jT:c%1000000000000000000000000000000000000000=mc:=ec;have gU:D.pow (.int 10) (.int 39)=Q0 (10^39):=CY (by decide);have jn:D.pow (.int 10) (.int 30)=Q0 (10^30):=CY (by decide);have jt:D.mod (.int c) (.int (10^39))=Q0 mc:=by rw[<-ec];exact Xl (by decide)
 have z3:q3=0\/q3=1\/q3=2:=by omega
 have rg:(if m4.natAbs<4611686018427387904 then some (rD 0 m4.toNat)else none)=some (rD 0 m4.toNat):=if_pos (by omega);obtain⟨c',el⟩:=QiL 10 (Q0 c) (Q0 n) none (rD 0 m4.toNat);rw[Cw]at el;have tl:=QiM m4.toNat (by omega);obtain⟨T,eT⟩:∃T:Int,10*10^m4.toNat=T:=⟨_,rfl⟩;rw[eT]at el tl;have fin:∀T:Int,10<=T->T<=10^30->∃p:Int,(if q3=0 then D.int (1+m3)else if q3=1 then D.int (T-1-m5)else D.int (1+mc))=.int p/\1<=p/\p<=10^39:=by
  intro T t0 t1;split;·exact⟨_,rfl,by omega,QaE _ (by omega)⟩
  ·split;·exact⟨_,rfl,by omega,QaF _ (by omega)⟩
   ·exact⟨_,rfl,by omega,by omega⟩
 unfold Om Lb;by_cases h8:m8=7
 ·obtain⟨p,ep,b0,b1⟩:=fin (10^30) (by decide) (by decide);refine⟨p,?_,b0,b1⟩;simp[Jk,JM,ZD,lI,QV,sD,sQ,QD,QI,V2,Q6,ZV,Zg,QE,V1,YD,gS,JQ,Z9,eV,eC,Q5,QB,JT,Qn,Qa,Zb,Zy,QN,QF,eK,lN,lC,Zn,JX,JJ,Yi,D.len,D.lt,D.le,D.gt,D.ge,D.add,D.sub,D.eqO,D.neO,D.cmp,D.cmpN,D.inst,ZX,D.isT,D.intB,D.min2,D.max2,D.neg,D.addI,Qj,Yv,Yn,Yw,Jf,Jq,V3,V4,V6,V5,Yl,Yk,Yj,Yg,Ys,Y3,YW,YV,J6,JF,ZP,ZO,ZZ,ZI,D.rng,D.its,D.itsT,J9,Ym,JC,YX,Zz,Zp,Y5,<-eT,gU,jn,jt,Wh,Y8,e4,e3,e5,e8,f3,h8,Jb,VE,rg,el,UO z3,jT];simpa using ep
 ·obtain⟨p,ep,b0,b1⟩:=fin T tl.1 tl.2;refine⟨p,?_,b0,b1⟩;simp[Jk,JM,ZD,lI,QV,sD,sQ,QD,QI,V2,Q6,ZV,Zg,QE,V1,YD,gS,JQ,Z9,eV,eC,Q5,QB,JT,Qn,Qa,Zb,Zy,QN,QF,eK,lN,lC,Zn,JX,JJ,Yi,D.len,D.lt,D.le,D.gt,D.ge,D.add,D.sub,D.eqO,D.neO,D.cmp,D.cmpN,D.inst,ZX,D.isT,D.intB,D.min2,D.max2,D.neg,D.addI,Qj,Yv,Yn,Yw,Jf,Jq,V3,V4,V6,V5,Yl,Yk,Yj,Yg,Ys,Y3,YW,YV,J6,JF,ZP,ZO,ZZ,ZI,D.rng,D.its,D.itsT,J9,Ym,JC,YX,Zz,Zp,Y5,gU,jn,jt,Wh,Y8,e4,e3,e5,e8,f3,h8,Jb,VE,rg,el,UO z3,jT];simpa using ep
noncomputable def someS:Str:=Str.ofString "!\"#$&'()*+,-./0123456789:;<=>?@ABCDEFGHIJKLMNOPQRSTUVWXYZ[\\]^_`"++Str.ofString "abcdefghijklmnopqrstuvwxyz{}~|"
def He:someS.length=93:=by decide+kernel
def Qim:(Str.ofString "!\"#$&'()*+,-./0123456789:;<=>?@ABCDEFGHIJKLMNOPQRSTUVWXYZ[\\]^_`").length=63:=by decide+kernel
def Qin:(Str.ofString "abcdefghijklmnopqrstuvwxyz{}~|").length=30:=by decide+kernel
noncomputable def X2(x:Str)(i:Int):Str:=⟨#[x.cps.toList.getD i.toNat 0]⟩
def CH(x:Str)(i:Int):(X2 x i).length=1:=rfl
def DK{x:Str}{i:Int}(h:0<=i)(h':i<x.length)(hl:x.length<=lI):D.ix (.str x) (.int i)=QQ (X2 x i):=by
 have q0:x.length=x.cps.size:=rfl;have q:i.toNat<x.cps.size:=by omega
 show(if x.length<=lI then(JN x.length i).bind λk=>(x.cps[k]?).map λc=>D.str ⟨#[c]⟩else none)=_;rw[if_pos hl,JN,if_pos h,if_pos h'];show(x.cps[i.toNat]?).map _=_;rw[Ir q];show some (D.str ⟨#[x.cps[i.toNat]]⟩)=_;unfold X2;rw[Yb,Array.getElem?_toList,Ir q];rfl
def Yq(x y:Str):(x++y).length=x.length+y.length:=Array.size_append
def LJ{x y:Str}(h:x.length+y.length<=lI):D.add (.str x) (.str y)=QQ (x++y):=if_pos h
def Xu(n g:Int)(k:Nat):Str:=if g=1/\(n/3+k)%4=0 then " "else X2 someS ((n/7+k*(1+n%13)+k*k)%(92+g))
def A3(n g:Int)(k:Nat):(Xu n g k).length=1:=by
 unfold Xu;split;·decide+kernel
 ·rfl
def Wk(n g:Int)(s:Nat):Str:=(List.range s).foldl (λx k=>x++Xu n g k) ""
theorem Et(n g:Int):∀(ks:List Nat)(x:Str),(ks.foldl (λx k=>x++Xu n g k) x).length=x.length+ks.length|[],x=>rfl|k::ks,x=>by show(ks.foldl (λx k=>x++Xu n g k) (x++Xu n g k)).length=_;rw[Et n g ks,Yq,A3,JV];omega
def MT(n g:Int)(s:Nat):(Wk n g s).length=s:=by unfold Wk;rw[Et,length_range];show 0+s=s;omega
def Qid(n g:Int):Wk n g 0=Str.ofString "":=by unfold Wk;rw[List.range_zero,List.foldl_nil]
def Hc(n g:Int)(s:Nat)(hn:0<=n)(hg:g=0\/g=1)(hs:s<=1000):UE [.int n,.int s,.int g]=QQ (Wk n g s):=by
 have rg:D.rng (.int s)=some (rD 0 s):=by
  show(if(s:Int).natAbs<4611686018427387904 then some (rD 0 (s:Int).toNat)else none)=_;rw[if_pos (by omega)];rfl
 have a0:D.add (.str (Str.ofString "!\"#$&'()*+,-./0123456789:;<=>?@ABCDEFGHIJKLMNOPQRSTUVWXYZ[\\]^_`")) (.str (Str.ofString "abcdefghijklmnopqrstuvwxyz{}~|"))=QQ someS:=LJ (by rw[Qim,Qin];decide);unfold UE Ld;refine JS rfl ?_;refine st (e1:=[Q0 n,Q0 s,Q0 g,QQ (Str.ofString "!\"#$&'()*+,-./0123456789:;<=>?@ABCDEFGHIJKLMNOPQRSTUVWXYZ[\\]^_`"),none,none,none,none]) (by simp[sD,sQ,QD,QI,Q6,QE,gS,eV,eC,Q5,QB,JT,Qn,Qa,QN,QF,eK,lN,lC,D.lt,D.sub,D.eqO,D.cmp,Qj,Jf,Jq,J6,JF,J9,JC,Jk]) ?_;refine st (e1:=[Q0 n,Q0 s,Q0 g,QQ someS,none,none,none,none]) (by simp[sD,sQ,QD,QI,Q6,QE,gS,eV,eC,Q5,QB,JT,Qn,Qa,QN,QF,eK,lN,lC,D.lt,D.sub,D.eqO,D.cmp,Qj,Jf,Jq,J6,JF,J9,JC,Jk,a0]) ?_;refine st (e1:=[Q0 n,Q0 s,Q0 g,QQ someS,QQ (Str.ofString ""),none,none,none]) (by simp[sD,sQ,QD,QI,Q6,QE,gS,eV,eC,Q5,QB,JT,Qn,Qa,QN,QF,eK,lN,lC,D.lt,D.sub,D.eqO,D.cmp,Qj,Jf,Jq,J6,JF,J9,JC,Jk]) ?_;refine Hg s (λi e=>∃a b c,e=[Q0 n,Q0 s,Q0 g,QQ someS,QQ (Wk n g i),a,b,c]) (by simp[VE,eV,rg]) ⟨none,none,none,by rw[Qid]⟩ ?_ ?_
 ·rintro i hi e⟨a,b,c,rfl⟩;obtain⟨j,ej⟩:∃j:Int,(i:Int)=j:=⟨_,rfl⟩;have i0:(0:Int)<=j/\j<1000:=by omega
  have e1:D.mul (.int j) (.int (1+n%13))=Q0 (j*(1+n%13)):=Sb (by omega);have e2:D.mul (.int j) (.int j)=Q0 (j*j):=Sb (by omega);have e3:D.mod (.int (n/7+j*(1+n%13)+j*j)) (.int (92+g))=Q0 ((n/7+j*(1+n%13)+j*j)%(92+g)):=Xl (by omega);have e4:D.ix (.str someS) (.int ((n/7+j*(1+n%13)+j*j)%(92+g)))=QQ (X2 someS ((n/7+j*(1+n%13)+j*j)%(92+g))):=by have a0:=XM (n/7+j*(1+n%13)+j*j) (show(92+g)≠0 by omega);have a1:=Xq (n/7+j*(1+n%13)+j*j) (show 0<92+g by omega);exact DK a0 (by rw[He];omega) (by rw[He];decide)
  have e5:D.add (.str (Wk n g i)) (.str (Xu n g i))=QQ (Wk n g (i+1)):=by
   rw[LJ (by rw[MT,A3];unfold lI;omega)];unfold Wk;rw[List.range_succ,Tt];rfl
  have e6:D.len (.str someS)=Q0 93:=by
   show(if someS.length<=lI then some (D.int someS.length)else none)=_;rw[He];rfl
  have e7:(93:Int)-1+g=92+g:=by omega
  have ai:∀x y:Int,D.add (.int x) (.int y)=Q0 (x+y):=λ_ _=>rfl;refine⟨[Q0 n,Q0 s,Q0 g,QQ someS,QQ (Wk n g (i+1)),Q0 j,Q0 (n/7+j*(1+n%13)+j*j),QQ (Xu n g i)],.inl ?_,_,_,_,rfl⟩;rw[ej,Int.zero_add];refine Jg rfl ?_;refine st (e1:=[Q0 n,Q0 s,Q0 g,QQ someS,QQ (Wk n g i),Q0 j,Q0 (n/7+j*(1+n%13)+j*j),c]) (by simp[sD,sQ,QD,QI,Q6,QE,gS,eV,eC,Q5,QB,JT,Qn,Qa,QN,QF,eK,lN,lC,D.lt,D.sub,D.eqO,D.cmp,Qj,Jf,Jq,J6,JF,J9,JC,Jk,Wh,Y8,ai,e1,e2]) ?_;refine st (e1:=[Q0 n,Q0 s,Q0 g,QQ someS,QQ (Wk n g i),Q0 j,Q0 (n/7+j*(1+n%13)+j*j),QQ (X2 someS ((n/7+j*(1+n%13)+j*j)%(92+g)))]) (by simp[sD,sQ,QD,QI,Q6,QE,gS,eV,eC,Q5,QB,JT,Qn,Qa,QN,QF,eK,lN,lC,D.lt,D.sub,D.eqO,D.cmp,Qj,Jf,Jq,J6,JF,J9,JC,Jk,e6,ai,e7,e3,e4]) ?_;refine st (e1:=[Q0 n,Q0 s,Q0 g,QQ someS,QQ (Wk n g i),Q0 j,Q0 (n/7+j*(1+n%13)+j*j),QQ (Xu n g i)]) ?_ (by simp[sD,sQ,QD,QI,Q6,QE,gS,eV,eC,Q5,QB,JT,Qn,Qa,QN,QF,eK,lN,lC,D.lt,D.sub,D.eqO,D.cmp,Qj,Jf,Jq,J6,JF,J9,JC,Jk,e5]);unfold Xu;rw[ej];rcases hg with z|z<;>by_cases hc:(n/3+j)%4=0<;>simp[sD,sQ,QD,QI,Q6,QE,gS,eV,eC,Q5,QB,JT,Qn,Qa,QN,QF,eK,lN,lC,D.lt,D.sub,D.eqO,D.cmp,Qj,Jf,Jq,J6,JF,J9,JC,Jk,Wh,Y8,ai,z,hc]
 ·rintro e⟨a,b,c,rfl⟩;simp[QI,eV]
def Fw(x:Str)(lo hi:Option Int):(Zw x lo hi).length<=x.length:=by show(J2 x.cps.toList lo hi).toArray.size<=x.cps.size;rw[Jp];unfold J2;rw[Yy,US];have:x.cps.toList.length=x.cps.size:=Py;omega
def Fv(x:Str)(j:Int)(h:0<=j):((Zw x none (some j)).length:Int)=min j x.length:=by obtain⟨k,rfl⟩:=Int.eq_ofNat_of_zero_le h;show((J2 x.cps.toList none (some (k:Int))).toArray.size:Int)=_;rw[Jp];unfold J2 ZK;have:x.cps.toList.length=x.length:=Py;rw[Yy,US,this];simp only[];rw[if_neg (Int.not_lt.mpr h),Int.toNat_natCast,sub_zero,sub_zero,Nat.min_assoc,min_self];omega
def OU{x:Str}(h:x.length<=lI)(lo hi:Option Int):ZD (.str x) lo hi=QQ (Zw x lo hi):=if_pos h
def Qio{x:Str}(h:x.length<=lI):D.strip (.str x)=QQ (Txt.strip x):=if_pos h
def IL(x:Str)(n:Int):(Y0 x n).length=n.toNat*x.length:=by show(List.replicate n.toNat x.cps.toList).flatten.toArray.size=_;rw[Jp,List.length_flatten,List.map_replicate,List.sum_replicate_nat];rfl
def NN{x:Str}{n:Int}(h:-1073741824<n/\n<1073741824/\x.length*n.toNat<=lI):D.mulA (.str x) (.int n)=QQ (Y0 x n):=if_pos h
def T8(k:Nat)(l:Str):Prop:=l=""\/l=Y7 k
def Mh(k:Nat):At->Prop|.brk=>True|.fin=>False|.bk (.chapter t l)=>(1<=t.length/\t.length<=41)/\T8 k l|.bk (.heading t n l)=>(1<=t.length/\t.length<=41)/\(0<=n/\n<=29)/\T8 k l|.bk (.table rs l)=>(1<=rs.length/\rs.length<=30)/\(∀r∈rs,r.length<=40)/\T8 k l|.bk (.plates n l)=>(1<=n/\n<=10^39)/\T8 k l|.bk (.para _)=>False|.it (.mark l)=>l=Y7 k|.it (.key w)=>1<=w.length/\w.length<=80|.it (.ref l a b)=>l=""/\a.length<=2/\b.length<=2|.it (.word w ns)=>(1<=w.length/\w.length<=40)/\ns.length<=30/\∀r∈ns,r.length<=40
def Qem(k:Nat)(p:Prop)[Decidable p]:T8 k (if p then Str.ofString ""else Y7 k):=by
 by_cases h:p;·rw[if_pos h];exact .inl rfl
 ·rw[if_neg h];exact .inr rfl
def QcW(z:Int){j:Int}(h:0<j):∃x:Nat,z%j=(x:Int)/\(x:Int)<j:=⟨(z%j).toNat,by have:=XM z (show j≠0 by omega);omega,by have:=Xq z h;have:=XM z (show j≠0 by omega);omega⟩
def QhP(n:Int)(h:0<=n/\n<=1000):D.rng (.int n)=some (rD 0 n.toNat):=if_pos (by omega)
def MN(m:Nat)(h:m<=100000):D.rng (.int m)=some ((List.range m).map λi:Nat=>D.int (0+(i:Int))):=by show(if(m:Int).natAbs<4611686018427387904 then some (rD 0 (m:Int).toNat)else none)=_;rw[if_pos (by omega)];rfl
def add_int(x y:Int):D.add (.int x) (.int y)=Q0 (x+y):=rfl
def Dc{a:Nat}(h:a<=1000000):1+a<=lI:=Zk (Nat.add_le_add_left h 1) (by decide)
def lB{a:Nat}(h:a<=1000000):a<=lI:=Zk h (by decide)
def FN(c:Int)(k:Nat)(hk:k<58):∃a,Uk [.int c,.int k]=some a.d/\Mh k a:=by
 obtain⟨kk,ek⟩:∃kk:Int,(k:Int)=kk:=⟨_,rfl⟩;obtain⟨n,en⟩:∃n:Int,Zd c (kk+20)=n:=⟨_,rfl⟩;have n0:0<=n:=en▸Dp _ _;have n1:n<2147483629:=en▸QeJ _ _;have hm:We [.int c,.int (kk+20)]=Q0 n:=en▸Tg c (kk+20) (by omega) (by omega);obtain⟨kd,iH,jw,jv⟩:=TV n (show(0:Int)<17 by decide);clear en n1;obtain⟨sz,eU,sz0,sz1⟩:∃sz:Nat,1+n/17%(if decide (n/187%9=4)then(40:Int)else 11)=(sz:Int)/\1<=sz/\sz<=40:=by
  clear hm iH jw jv ek hk;cases decide (n/187%9=4);·exact⟨(1+n/17%11).toNat,by simp;omega,by omega,by omega⟩
  ·exact⟨(1+n/17%40).toNat,by simp;omega,by omega,by omega⟩
 obtain⟨mn,iG,mn0,mn1⟩:∃mn:Int,1+n/97%(if decide (n/1009%11=5)then(30:Int)else 4)=mn/\1<=mn/\mn<=30:=by
  clear hm iH jw jv ek hk;cases decide (n/1009%11=5);·exact⟨(1+n/97%4),by simp,by omega,by omega⟩
  ·exact⟨(1+n/97%30),by simp,by omega,by omega⟩
 have kh:D.mod (.int (n/17)) (.int (if decide (n/187%9=4)then(40:Int)else 11))=Q0 (n/17%(if decide (n/187%9=4)then(40:Int)else 11)):=Xl (by split<;>omega);have kg:D.mod (.int (n/97)) (.int (if decide (n/1009%11=5)then(30:Int)else 4))=Q0 (n/97%(if decide (n/1009%11=5)then(30:Int)else 4)):=Xl (by split<;>omega);obtain⟨tx,jR,tl⟩:∃tx,UE [.int (n/17),.int sz,.int 1]=QQ tx/\tx.length=sz:=⟨_,Hc (n/17) 1 sz (Int.ediv_nonneg n0 (by decide)) (.inr rfl) (by omega),MT _ _ _⟩;obtain⟨wd,jQ,wl⟩:∃tx,UE [.int (n/19),.int sz,.int 0]=QQ tx/\tx.length=sz:=⟨_,Hc (n/19) 0 sz (Int.ediv_nonneg n0 (by decide)) (.inl rfl) (by omega),MT _ _ _⟩;have ju:SG [.int kk]=QQ (Y7 k):=ek▸Qd9 k hk;obtain⟨nm,jS,gC⟩:∃nm,(if n/1009%2=0 then Str.ofString ""else Y7 k)=nm/\T8 k nm:=⟨_,rfl,Qem _ _⟩;rw[ek];unfold Uk LR;refine exD (dd:=At.d) rfl ?_;refine VQ (e1:=[Q0 c,Q0 kk,Q0 n,none,none,none,none,none,none,none]) (by simp[sD,sQ,QD,QI,Q6,QE,gS,eV,eC,Q5,QB,JT,Qn,Qa,QN,QF,eK,lN,lC,D.lt,D.sub,D.eqO,D.cmp,Qj,Jf,Jq,J6,JF,J9,JC,Jk,hm,add_int]) ?_;refine VQ (e1:=[Q0 c,Q0 kk,Q0 n,Q0 kd,none,none,none,none,none,none]) (by simp[sD,sQ,QD,QI,Q6,QE,gS,eV,eC,Q5,QB,JT,Qn,Qa,QN,QF,eK,lN,lC,D.lt,D.sub,D.eqO,D.cmp,Qj,Jf,Jq,J6,JF,J9,JC,Jk,Y8,iH]) ?_;refine VQ (e1:=[Q0 c,Q0 kk,Q0 n,Q0 kd,Q0 sz,none,none,none,none,none]) (by by_cases z:n/187%9=4<;>simp[z]at eU<;>simp[Jk,JM,ZD,lI,QV,sD,sQ,QD,QI,V2,Q6,ZV,Zg,QE,V1,YD,gS,JQ,Z9,eV,eC,Q5,QB,JT,Qn,Qa,Zb,Zy,QN,QF,eK,lN,lC,Zn,JX,JJ,Yi,D.len,D.lt,D.le,D.gt,D.ge,D.add,D.sub,D.ix,D.eqO,D.neO,D.cmp,D.cmpN,D.inst,ZX,D.isT,D.intB,D.min2,D.max2,D.neg,D.addI,Qj,Yv,Yn,Yw,Jf,Jq,V3,V4,V6,V5,Yl,Yk,Yj,Yg,Ys,Y3,YW,YV,J6,JF,ZP,ZO,ZZ,ZI,D.rng,D.its,D.itsT,J9,Ym,JC,YX,Zz,Zp,Y5,Wh,Y8,z,JN,eU]) ?_;refine VQ (e1:=[Q0 c,Q0 kk,Q0 n,Q0 kd,Q0 sz,Q0 mn,none,none,none,none]) (by by_cases z:n/1009%11=5<;>simp[z]at iG<;>simp[Jk,JM,ZD,lI,QV,sD,sQ,QD,QI,V2,Q6,ZV,Zg,QE,V1,YD,gS,JQ,Z9,eV,eC,Q5,QB,JT,Qn,Qa,Zb,Zy,QN,QF,eK,lN,lC,Zn,JX,JJ,Yi,D.len,D.lt,D.le,D.gt,D.ge,D.add,D.sub,D.ix,D.eqO,D.neO,D.cmp,D.cmpN,D.inst,ZX,D.isT,D.intB,D.min2,D.max2,D.neg,D.addI,Qj,Yv,Yn,Yw,Jf,Jq,V3,V4,V6,V5,Yl,Yk,Yj,Yg,Ys,Y3,YW,YV,J6,JF,ZP,ZO,ZZ,ZI,D.rng,D.its,D.itsT,J9,Ym,JC,YX,Zz,Zp,Y5,Wh,Y8,z,JN,iG]) ?_;refine VQ (e1:=[Q0 c,Q0 kk,Q0 n,Q0 kd,Q0 sz,Q0 mn,QQ tx,none,none,none]) (by simp[sD,sQ,QD,QI,Q6,QE,gS,eV,eC,Q5,QB,JT,Qn,Qa,QN,QF,eK,lN,lC,D.lt,D.sub,D.eqO,D.cmp,Qj,Jf,Jq,J6,JF,J9,JC,Jk,Wh,jR]) ?_;refine VQ (e1:=[Q0 c,Q0 kk,Q0 n,Q0 kd,Q0 sz,Q0 mn,QQ tx,QQ wd,none,none]) (by simp[sD,sQ,QD,QI,Q6,QE,gS,eV,eC,Q5,QB,JT,Qn,Qa,QN,QF,eK,lN,lC,D.lt,D.sub,D.eqO,D.cmp,Qj,Jf,Jq,J6,JF,J9,JC,Jk,Wh,jQ]) ?_;refine VQ (e1:=[Q0 c,Q0 kk,Q0 n,Q0 kd,Q0 sz,Q0 mn,QQ tx,QQ wd,QQ (Y7 k),none]) (by simp[sD,sQ,QD,QI,Q6,QE,gS,eV,eC,Q5,QB,JT,Qn,Qa,QN,QF,eK,lN,lC,D.lt,D.sub,D.eqO,D.cmp,Qj,Jf,Jq,J6,JF,J9,JC,Jk,ju]) ?_;refine VQ (e1:=[Q0 c,Q0 kk,Q0 n,Q0 kd,Q0 sz,Q0 mn,QQ tx,QQ wd,QQ (Y7 k),QQ (Y7 k)]) (by simp[sD,sQ,QD,QI,Q6,QE,gS,eV,eC,Q5,QB,JT,Qn,Qa,QN,QF,eK,lN,lC,D.lt,D.sub,D.eqO,D.cmp,Qj,Jf,Jq,J6,JF,J9,JC,Jk]) ?_;refine VQ (e1:=[Q0 c,Q0 kk,Q0 n,Q0 kd,Q0 sz,Q0 mn,QQ tx,QQ wd,QQ (Y7 k),QQ nm]) (by by_cases z:n/1009%2=0<;>simp[sD,sQ,QD,QI,Q6,QE,gS,eV,eC,Q5,QB,JT,Qn,Qa,QN,QF,eK,lN,lC,D.lt,D.sub,D.eqO,D.cmp,Qj,Jf,Jq,J6,JF,J9,JC,Jk,Wh,Y8,z,<-jS]) ?_;clear hm jR jQ ju kh kg jS eU iG;have hS:tx.length<=lI:=lB (by omega);have hW:wd.length<=lI:=lB (by omega);have sT:=Qio hS;have sL:(Txt.strip tx).length<=40:=Zk (PyProof.Rows.len_strip tx) (by omega);have o0:D.ix (.str wd) (.int 0)=QQ (X2 wd 0):=DK (by decide) (by omega) hW;have aT:D.add (.str (X2 wd 0)) (.str (Txt.strip tx))=QQ (X2 wd 0++Txt.strip tx):=LJ (by rw[CH];exact lB (by omega));have lT:(X2 wd 0++Txt.strip tx).length=1+(Txt.strip tx).length:=by rw[Yq,CH]
 by_cases z:kd=0;·exact⟨.bk (.chapter (X2 wd 0++Txt.strip tx) nm),Y2 (JR (Q1 rfl rfl (TZ z)) (ret (Md rfl (Q1 (Q1 rfl rfl o0) (JK rfl sT) aT) rfl))),⟨by omega,gC⟩⟩
 refine VQ (QY (Q1 rfl rfl (TY z)) rfl) ?_;by_cases z:kd=1;·exact⟨.bk (.heading (X2 wd 0++Txt.strip tx) (mn-1) nm),Y2 (JR (Q1 rfl rfl (TZ z)) (ret (Hs rfl (Q1 (Q1 rfl rfl o0) (JK rfl sT) aT) rfl rfl))),⟨by omega,by omega,gC⟩⟩
 refine VQ (QY (Q1 rfl rfl (TY z)) rfl) ?_;obtain⟨m,em⟩:∃m:Nat,mn=m:=⟨mn.toNat,by omega⟩;by_cases z:kd=2
 ·refine⟨.bk (.table ((List.range m).map λi:Nat=>Zw tx none (some (if(sz:Int)-(0+(i:Int))>0 then(sz:Int)-(0+(i:Int))else 0))) nm),Y2 (JR (Q1 rfl rfl (TZ z)) (ret (Md rfl ?_ rfl))),⟨by simp;omega,?_,gC⟩⟩
  ·rw[Va (g:=gS 0) (n:=1) (caps:=[6,4]) (λi:Nat=>D.int (0+(i:Int))) (List.range m) (λe=>∃v,e=[v,QQ tx,Q0 sz]) (λ_=>true) (λi:Nat=>.str (Zw tx none (some (if(sz:Int)-(0+(i:Int))>0 then(sz:Int)-(0+(i:Int))else 0)))) (by show D.rng (.int mn)=_;rw[em];exact MN m (by omega)) (lB (by simp;omega)) ⟨none,rfl⟩ (by rintro i hi e⟨v,rfl⟩;exact⟨[Q0 (0+(i:Int)),QQ tx,Q0 sz],rfl,⟨_,rfl⟩,rfl,λ_=>XZ rfl rfl (Uc (Q1 rfl (Q1 rfl rfl rfl) rfl)) (OU hS _ _)⟩)];rw[XH];unfold QR;rw[map_map];rfl
  ·intro r hr;obtain⟨i,_,rfl⟩:=q_19.mp hr;exact Zk (Fw _ _ _) (by omega)
 refine VQ (QY (Q1 rfl rfl (TY z)) rfl) ?_;by_cases z:kd=3;·obtain⟨p,ep,p0,p1⟩:=Qhc c n n0;exact⟨.bk (.plates p nm),Y2 (JR (Q1 rfl rfl (TZ z)) (ret (Md rfl (Zv rfl rfl ep) rfl))),⟨⟨p0,p1⟩,gC⟩⟩
 refine VQ (QY (Q1 rfl rfl (TY z)) rfl) ?_;by_cases z:kd=4;·exact⟨.brk,Y2 (JR (Q1 rfl rfl (TZ z)) (ret rfl)),trivial⟩
 refine VQ (QY (Q1 rfl rfl (TY z)) rfl) ?_;by_cases z:kd<7;·exact⟨.it (.mark (Y7 k)),Y2 (JR (Q1 rfl rfl (Dd z)) (ret rfl)),rfl⟩
 refine VQ (QY (Q1 rfl rfl (II z)) rfl) ?_;by_cases z:kd=7
 ·have q0:0<=n/97%80/\n/97%80<80:=by omega
  have mw:D.mulA (.str wd) (.int 9)=QQ (Y0 wd 9):=NN ⟨by decide,by decide,lB (by show wd.length*9<=_;omega)⟩;have ml:(Y0 wd 9).length=9*wd.length:=IL wd 9;have ch:=Fv (Y0 wd 9) (1+n/97%80) (by omega);have mc:=OU (x:=Y0 wd 9) (lB (by omega)) none (some (1+n/97%80));exact⟨.it (.key (Zw (Y0 wd 9) none (some (1+n/97%80)))),Y2 (JR (Q1 rfl rfl (TZ z)) (ret (AW rfl (XZ (Q1 rfl rfl mw) rfl (Uc (Q1 rfl (Q1 (Q1 rfl rfl (Wh n (by decide))) rfl (Y8 _ (by decide))) rfl)) mc)))),⟨by omega,by omega⟩⟩
 refine VQ (QY (Q1 rfl rfl (TY z)) rfl) ?_;by_cases z:kd<12
 ·obtain⟨m,em,lm⟩:=QcW (n/291) (show(0:Int)<3 by decide);obtain⟨w2,e2,l2⟩:∃tx,UE [.int (n/23),.int m,.int 0]=QQ tx/\tx.length=m:=⟨_,Hc (n/23) 0 m (by omega) (.inl rfl) (by omega),MT _ _ _⟩;have q0:0<=n/97%3/\n/97%3<3:=by omega
  have ch:=Fv wd (n/97%3) (by omega);have mc:=OU hW none (some (n/97%3));exact⟨.it (.ref "" (Zw wd none (some (n/97%3))) w2),Y2 (JR (Q1 rfl rfl (Dd z)) (ret (Hs rfl rfl (XZ rfl rfl (Uc (Q1 (Q1 rfl rfl (Wh n (by decide))) rfl (Y8 _ (by decide)))) mc) (YE (Q1 rfl rfl (Wh n (by decide))) (Q1 (Q1 rfl rfl (Wh n (by decide))) rfl ((Y8 _ (by decide)).trans (by rw[em]))) rfl e2)))),⟨rfl,by omega,by omega⟩⟩
 refine VQ (QY (Q1 rfl rfl (II z)) rfl) ?_;by_cases z:kd=12
 ·refine⟨.it (.word wd ((List.range m).map λi:Nat=>Zw tx (some (0+(i:Int))) none)),Y2 (JR (Q1 rfl rfl (TZ z)) (ret (Md rfl rfl ?_))),⟨by omega,by simp;omega,?_⟩⟩
  ·rw[Va (g:=gS 0) (n:=1) (caps:=[6]) (λi:Nat=>D.int (0+(i:Int))) (List.range m) (λe=>∃v,e=[v,QQ tx]) (λ_=>true) (λi:Nat=>.str (Zw tx (some (0+(i:Int))) none)) (by show D.rng (.int mn)=_;rw[em];exact MN m (by omega)) (lB (by simp;omega)) ⟨none,rfl⟩ (by rintro i hi e⟨v,rfl⟩;exact⟨[Q0 (0+(i:Int)),QQ tx],rfl,⟨_,rfl⟩,rfl,λ_=>XZ rfl (Uc rfl) rfl (OU hS _ _)⟩)];rw[XH];unfold QR;rw[map_map];rfl
  ·intro r hr;obtain⟨i,_,rfl⟩:=q_19.mp hr;exact Zk (Fw _ _ _) (by omega)
 refine VQ (QY (Q1 rfl rfl (TY z)) rfl) ?_;exact⟨.it (.word wd []),ret rfl,⟨by omega,by simp,λr hr=>by cases hr⟩⟩
theorem TQ{α:Type}{f:α->D}{n:Nat}(h:∀a,(f a).dep<=n):∀xs:List α,D.depL (xs.map f)<=n|[]=>by rw[map_nil,ZZ];exact zero_le _|x::xs=>by rw[ZT,ZI];exact Nat.max_le.mpr ⟨h x,TQ h xs⟩
def EA(xs:List Str):(QR xs).dep<=1:=by unfold QR;rw[ZO];exact Nat.succ_le_succ (TQ (λa=>by rw[JF];exact zero_le _) xs)
def E9(i:It):i.d.dep<=2:=by cases i with|word w ns=>have:=EA ns;simp only[It.d,ZP,ZI,ZZ,JF];omega|_=>simp[ZP,ZI,ZZ,JF]
def Qcz(is:List It):(D.lst (is.map It.d)).dep<=3:=by rw[ZO];exact Nat.succ_le_succ (TQ E9 is)
def Qcy(b:Bk):b.d.dep<=4:=by cases b with|para is=>have:=Qcz is;simp only[Bk.d,ZP,ZI,ZZ,JF];omega|table rs l=>have:=EA rs;simp only[Bk.d,ZP,ZI,ZZ,JF];omega|_=>simp[ZP,ZI,ZZ,JF,J6]
def EX(x:D)(xs:List D):D.eqL (x::xs) []=some false:=by rw[D.eqL];all_goals simp
def QcZ{α:Type}{f:α->D}{n:Nat}(h:∀a,(f a).dep<=n)(hn:n<=39)(xs:List α):D.eqO (.lst (xs.map f)) (.lst [])=QS xs.isEmpty:=by unfold D.eqO;rw[if_pos (by rw[ZO];have:=TQ h xs;omega),Zz];cases xs with|nil=>rw[map_nil,Zp];rfl|cons x xs=>rw[ZT,EX];rfl
def C3{α:Type}{f:α->D}{n:Nat}(h:∀a,(f a).dep<=n)(hn:n<=39)(xs:List α):D.neO (.lst (xs.map f)) (.lst [])=QS (!xs.isEmpty):=by unfold D.neO;rw[if_pos (by rw[ZO];have:=TQ h xs;omega),Zz];cases xs with|nil=>rw[map_nil,Zp];rfl|cons x xs=>rw[ZT,EX];rfl
def TB{α:Type}{f:α->D}{xs:List α}(x:α)(h:xs.length<lI):D.app (.lst (xs.map f)) (f x)=QA ((xs++[x]).map f):=by show(if(xs.map f).length<lI then some (D.lst (xs.map f++[f x]))else none)=_;rw[if_pos (by rw[Qo];exact h),YQ];rfl
def QdR(l:List D)(x:D):D.ix (.lst (l++[x])) (.int (-1))=some x:=by
 show(JN (l++[x]).length (-1)).bind (λk=>(l++[x])[k]?)=_;have:JN (l++[x]).length (-1)=some l.length:=by
  unfold JN;rw[if_neg (by decide),if_pos (by simp only[Qe,JV,WT];omega),Qe];congr 1;show((-1:Int)+((l.length+1:Nat):Int)).toNat=_;omega
 rw[this];show(l++[x])[l.length]?=_;simp
theorem Rf{α:Type}(f:α->D):∀(xs:List α)(n:Nat),Wc n (xs.map f)=(xs.zipIdx n).map λp=>D.tup [.int p.2,f p.1]|[],n=>rfl|x::xs,n=>by show D.tup [.int n,f x]::Wc (n+1) (xs.map f)=_;rw[Rf f xs (n+1),List.zipIdx_cons,ZT]
def WM{a:Nat}(h:a<=1000000):a<lI:=lt_of_le_of_lt h (by decide)
noncomputable def ZS:At->List Str|.it (.mark l)=>[l]|.bk (.chapter _ l)=>if l=""then[]else[l]|.bk (.heading _ _ l)=>if l=""then[]else[l]|.bk (.table _ l)=>if l=""then[]else[l]|.bk (.plates _ l)=>if l=""then[]else[l]|_=>[]
def Qed(a:At):(ZS a).length<=1:=by unfold ZS;split<;>first|(split<;>simp)|simp
def YI(as:List At):List Str:=as.flatMap ZS
def DS(as:List At):(YI as).length<=as.length:=by induction as with|nil=>exact Qz _|cons a as ih=>show((a::as).flatMap ZS).length<=_;rw[Y1,Qe,JV];have:=Qed a;have:(as.flatMap ZS).length<=as.length:=ih;omega
def Qeg(as:List At)(i:Nat)(hi:i<as.length):YI (as.take (i+1))=YI (as.take i)++ZS as[i]:=by unfold YI;rw[T1 hi,Yc];simp
def pt(ls:List Str)(cs:List Int)(i:Nat):At->At|.it (.ref l a b)=>if ls=[]then .it (.word "lost" [])else .it (.ref (ls.getD (Zd (cs.getD i 0) (i+90)%ls.length).toNat "") a b)|a=>a
def Ze(cs:List Int)(as:List At):List At:=as.mapIdx λi a=>pt (YI as) cs i a
noncomputable def XS:At->Prop|.bk (.para _)=>False|.fin=>False|_=>True
def Wz{α:Type}{f:α->D}(xs:List α)(i:Int)(d:α)(h:0<=i)(h':i<xs.length):D.ix (.lst (xs.map f)) (.int i)=some (f (xs.getD i.toNat d)):=by show(JN (xs.map f).length i).bind (λk=>(xs.map f)[k]?)=_;unfold JN;rw[if_pos h,if_pos (by rw[Qo];exact h')];show(xs.map f)[i.toNat]?=_;rw[Yz,Yb,Qf (by omega)];rfl
def Qay{xs:List Str}(x:Str)(h:xs.length<lI):D.app (QR xs) (.str x)=some (QR (xs++[x])):=TB (f:=D.str) x h
def Us(xs:List Str):D.len (QR xs)=Q0 xs.length:=by show some (D.int (xs.map D.str).length)=_;rw[Qo]
def Qc0(xs:List Str):D.eqO (QR xs) (.lst [])=QS xs.isEmpty:=QcZ (f:=D.str) (n:=0) (λa=>by rw[JF];exact Qz _) (by decide) xs
def QdU(xs:List Str)(i:Int)(h:0<=i)(h':i<xs.length):D.ix (QR xs) (.int i)=QQ (xs.getD i.toNat ""):=Wz (f:=D.str) xs i "" h h'
def Qhf(as:List At)(cs:List Int)(hl:as.length=cs.length)(h58:as.length<=100)(hs:∀a∈as,XS a):Oo [.lst (as.map At.d),.lst (cs.map .int)]=QA ((Ze cs as).map At.d):=by
 unfold Oo Lc;refine JS rfl ?_;refine st (e1:=[QA (as.map At.d),QA (cs.map .int),some (QR []),none,none,none,none]) (by simp[sD,sQ,QD,QI,Q6,QE,gS,eV,eC,Q5,QB,JT,Qn,Qa,QN,QF,eK,lN,lC,D.lt,D.sub,D.eqO,D.cmp,Qj,Jf,Jq,J6,JF,J9,JC,Jk,QR]) ?_;refine XQ At.d as (λi e=>∃v,e=[QA (as.map At.d),QA (cs.map .int),some (QR (YI (as.take i))),v,none,none,none]) rfl ⟨none,rfl⟩ ?_ ?_
 ·rintro i hi e⟨v,rfl⟩;have hb:(YI (as.take i)).length<lI:=WM (Zk (DS _) (by rw[Yy];omega));have ha:=hs as[i] (YB hi);rw[Qeg as i hi];have ap:=λx=>Qay x hb;generalize as[i]=a at*;generalize YI (as.take i)=ls at*;refine⟨_,.inl ?_,some a.d,rfl⟩;refine Jg rfl ?_;have jo:∀x y:Str,D.neO (.str x) (.str y)=QS (decide (x≠y)):=λx y=>by by_cases h:x=y<;>simp[D.neO,JF,JC,D.cmpN,h]
  have gN:∀(d:D)(t l:Str),D.ix d (.int 0)=QQ t->D.ix d (.int (-1))=QQ l->t≠"mark"->D.notInO (.str t) (.lst [.str "break",.str "word",.str "key",.str "ref"])=QS true->QD (QO (Q2 3 0) (QC "mark")) (sP 2 (Q2 3 1)) (QD (Qn (Q5 D.notInO (Q2 3 0) (QF (ZB (QC "break") (QC "word") (QC "key") (QC "ref")))) (Yd (ZG (eV 3) (QB D.neg (Q4 1))) (QC ""))) (sP 2 (ZG (eV 3) (QB D.neg (Q4 1)))) (QE)) [QA (as.map At.d),QA (cs.map .int),some (QR ls),some d,none,none,none]=some (.nx [QA (as.map At.d),QA (cs.map .int),some (QR (ls++if l=""then[]else[l])),some d,none,none,none]):=by
   intro d t l h0 h1 hm h4;refine QY (Q1 (Q1 rfl rfl h0) rfl (by rw[Qb,JU hm])) ?_;by_cases z:l="";·rw[if_pos z,Yx];exact QY (Ye (Q1 (Q1 rfl rfl h0) rfl h4) (Q1 (Q1 rfl (JK rfl rfl) h1) rfl (by rw[jo,JU (λq=>q z)]))) rfl
   ·rw[if_neg z];exact JR (Ye (Q1 (Q1 rfl rfl h0) rfl h4) (Q1 (Q1 rfl (JK rfl rfl) h1) rfl (by rw[jo,Z6 z]))) (WY rfl (Q1 rfl (JK rfl rfl) h1) (ap l))
  have gn:∀(d:D)(t:Str),D.ix d (.int 0)=QQ t->t≠"mark"->D.notInO (.str t) (.lst [.str "break",.str "word",.str "key",.str "ref"])=QS false->QD (QO (Q2 3 0) (QC "mark")) (sP 2 (Q2 3 1)) (QD (Qn (Q5 D.notInO (Q2 3 0) (QF (ZB (QC "break") (QC "word") (QC "key") (QC "ref")))) (Yd (ZG (eV 3) (QB D.neg (Q4 1))) (QC ""))) (sP 2 (ZG (eV 3) (QB D.neg (Q4 1)))) (QE)) [QA (as.map At.d),QA (cs.map .int),some (QR ls),some d,none,none,none]=some (.nx [QA (as.map At.d),QA (cs.map .int),some (QR (ls++[])),some d,none,none,none]):=by intro d t h0 hm h4;rw[Yx];exact QY (Q1 (Q1 rfl rfl h0) rfl (by rw[Qb,JU hm])) (QY (VM (Q1 (Q1 rfl rfl h0) rfl h4)) rfl)
  cases a with
  |bk b=>cases b with
   |para is=>exact ha.elim|chapter t l=>exact gN _ "chapter" l rfl rfl (by simp) (by rfl)|heading t n l=>exact gN _ "heading" l rfl rfl (by simp) (by rfl)|table rs l=>exact gN _ "table" l rfl rfl (by simp) (by rfl)|plates n l=>exact gN _ "plates" l rfl rfl (by simp) (by rfl)
  |it x=>cases x with
   |mark l=>exact JR (Q1 (Q1 (x:=(It.mark l).d) rfl rfl rfl) rfl (by rw[Qb];simp)) (WY rfl (Q1 (x:=(It.mark l).d) rfl rfl rfl) (ap l))|word w ns=>exact gn _ "word" rfl (by simp) (by rfl)|key w=>exact gn _ "key" rfl (by simp) (by rfl)|ref l a b=>exact gn _ "ref" rfl (by simp) (by rfl)
  |brk=>exact gn _ "break" rfl (by simp) (by rfl)|fin=>exact ha.elim
 ·rintro e⟨v,rfl⟩;rw[VV];have hb:(YI as).length<=as.length:=DS as;have iP:∀i(hi:i<as.length)(hp:i<(Ze cs as).length),(Ze cs as)[i]=pt (YI as) cs i as[i]:=by intro i hi hp;simp only[Ze,List.getElem_mapIdx]
  have iN:(Ze cs as).length=as.length:=by unfold Ze;simp
  generalize Ze cs as=ps at*;generalize YI as=ls at*;refine st (e1:=[QA (as.map At.d),QA (cs.map .int),some (QR ls),v,some (.lst []),none,none]) (by simp[sD,sQ,QD,QI,Q6,QE,gS,eV,eC,Q5,QB,JT,Qn,Qa,QN,QF,eK,lN,lC,D.lt,D.sub,D.eqO,D.cmp,Qj,Jf,Jq,J6,JF,J9,JC,Jk]) ?_;refine XQ (λp:At×Nat=>D.tup [.int p.2,p.1.d]) as.zipIdx (λi e=>∃v w x,e=[QA (as.map At.d),QA (cs.map .int),some (QR ls),v,QA ((ps.take i).map At.d),w,x]) (by show some (Wc 0 (as.map At.d))=_;rw[Rf]) ⟨v,none,none,rfl⟩ ?_ ?_
  ·rintro i hi e⟨v,w,x,rfl⟩;have hi':i<as.length:=by simpa using hi
   have jE:i<ps.length:=by omega
   have ei:as.zipIdx[i]=(as[i],i):=by simp
   rw[ei,T1 jE,iP i hi' jE];have ap:∀x:At,D.app (.lst ((ps.take i).map At.d)) x.d=QA ((ps.take i++[x]).map At.d):=λx=>TB x (WM (by rw[Yy];omega));have mx:∃m:Int,Zd (cs.getD i 0) ((i:Int)+90)=m/\We [.int (cs.getD i 0),.int ((i:Int)+90)]=Q0 m/\0<=m:=⟨_,rfl,Tg _ _ (by omega) (by omega),Dp _ _⟩;have cx:D.ix (.lst (cs.map .int)) (.int i)=Q0 (cs.getD i 0):=Wz (f:=D.int) cs i 0 (by omega) (by omega);have ha:=hs as[i] (YB hi');obtain⟨m,em,mm,m0⟩:=mx;have hp:∀l a b,pt ls cs i (.it (.ref l a b))=if ls=[]then .it (.word "lost" [])else .it (.ref (ls.getD (m%ls.length).toNat "") a b):=by intro l a b;rw[<-em];rfl
   have i90:(i:Int)+90=(i:Int)+90:=rfl;generalize hq:pt ls cs i as[i]=q;generalize as[i]=a at*;generalize cs.getD i 0=c at*;generalize ps.take i=qs at*;obtain⟨j,ej⟩:∃j:Int,(i:Int)=j:=⟨_,rfl⟩;rw[ej]at mm cx;simp only[];rw[ej];have oth:∀(d z:D)(t:Str),D.ix d (.int 0)=QQ t->t≠"ref"->D.app (.lst (qs.map At.d)) d=some z->QD (Qn (QO (Q2 3 0) (QC "ref")) (QO (eV 2) (QF (lN)))) (sP 4 (QN (JI (QC "word") (QC "lost") (QF (lN))))) (QD (QO (Q2 3 0) (QC "ref")) (sQ (Q6 (ZG (eV 2) (Jn (eK We (Qc (ZG (eV 1) (eV 5)) (QJ (eV 5) (Q4 90)))) (QB D.len (eV 2)))) (gS 6)) (sP 4 (QN (ZB (QC "ref") (eV 6) (Q2 3 2) (Q2 3 3))))) (sP 4 (eV 3))) [QA (as.map At.d),QA (cs.map .int),some (QR ls),some d,QA (qs.map At.d),Q0 j,x]=some (.nx [QA (as.map At.d),QA (cs.map .int),some (QR ls),some d,some z,Q0 j,x]):=by
    intro d z t h0 hm hz;exact QY (VM (Q1 (Q1 rfl rfl h0) rfl (by rw[Qb,JU hm]))) (QY (Q1 (Q1 rfl rfl h0) rfl (by rw[Qb,JU hm])) (WY rfl rfl hz))
   cases a with
   |it y=>cases y with
    |ref l a b=>
     have es:D.eqO (.str (Str.ofString "ref")) (.str (Str.ofString "ref"))=QS true:=by rw[Qb];simp
     have t0:D.ix (It.ref l a b).d (.int 0)=QQ "ref":=rfl;have eq:=Qc0 ls;rw[hp]at hq;cases ls with
     |nil=>rw[if_pos rfl]at hq;subst hq;exact⟨_,.inl (Jg rfl (JR (Ye (Q1 (Q1 rfl rfl t0) rfl es) (Q1 rfl rfl eq)) (WY rfl rfl (ap (.it (.word "lost" [])))))),some (It.ref l a b).d,Q0 j,x,rfl⟩|cons l0 ls=>
      rw[if_neg (by simp)]at hq;subst hq;have hn:(0:Int)<((l0::ls).length:Int):=by simp only[JV];omega
      have md:D.mod (.int m) (.int ((l0::ls).length:Int))=Q0 (m%((l0::ls).length:Int)):=Xl hn;have gX:=QdU (l0::ls) (m%((l0::ls).length:Int)) (XM _ (by omega)) (Xq _ hn);have ln:=Us (l0::ls);have mh:=ap (.it (.ref ((l0::ls).getD (m%((l0::ls).length:Int)).toNat "") a b));generalize(l0::ls).getD (m%((l0::ls).length:Int)).toNat ""=lx at*;generalize m%((l0::ls).length:Int)=mi at*;generalize((l0::ls).length:Int)=ll at*;have ie:(l0::ls).isEmpty=false:=rfl;rw[ie]at eq;generalize QR (l0::ls)=LS at*;refine⟨_,.inl ?_,some (It.ref l a b).d,Q0 j,QQ lx,rfl⟩;refine Jg rfl ?_;refine QY (Ye (Q1 (Q1 rfl rfl t0) rfl es) (Q1 rfl rfl eq)) (JR (Q1 (Q1 rfl rfl t0) rfl es) ?_);refine st (e1:=[QA (as.map At.d),QA (cs.map .int),some LS,some (It.ref l a b).d,QA (qs.map At.d),Q0 j,QQ lx]) (J0 (Q1 rfl (Q1 (Zv (Q1 rfl rfl cx) (Q1 rfl rfl rfl) mm) (JK rfl ln) md) gX) rfl) ?_;exact WY rfl (Hs rfl rfl (Q1 (x:=(It.ref l a b).d) rfl rfl rfl) (Q1 (x:=(It.ref l a b).d) rfl rfl rfl)) mh
    |word w ns=>subst hq;exact⟨_,.inl (Jg rfl (oth _ _ "word" rfl (by simp) (ap (.it (.word w ns))))),some (It.word w ns).d,Q0 j,x,rfl⟩|mark l=>subst hq;exact⟨_,.inl (Jg rfl (oth _ _ "mark" rfl (by simp) (ap (.it (.mark l))))),some (It.mark l).d,Q0 j,x,rfl⟩|key l=>subst hq;exact⟨_,.inl (Jg rfl (oth _ _ "key" rfl (by simp) (ap (.it (.key l))))),some (It.key l).d,Q0 j,x,rfl⟩
   |bk b=>have ia:q=.bk b:=hq.symm;subst ia;refine⟨_,.inl (Jg rfl ?_),some b.d,Q0 j,x,rfl⟩;cases b with|para is=>exact ha.elim|chapter t l=>exact oth _ _ "chapter" rfl (by simp) (ap (.bk (.chapter t l)))|heading t k l=>exact oth _ _ "heading" rfl (by simp) (ap (.bk (.heading t k l)))|table t l=>exact oth _ _ "table" rfl (by simp) (ap (.bk (.table t l)))|plates t l=>exact oth _ _ "plates" rfl (by simp) (ap (.bk (.plates t l)))
   |brk=>have ia:q=.brk:=hq.symm;subst ia;exact⟨_,.inl (Jg rfl (oth _ _ "break" rfl (by simp) (ap .brk))),some At.brk.d,Q0 j,x,rfl⟩|fin=>exact ha.elim
  ·rintro e⟨v,w,x,rfl⟩;have:as.zipIdx.length=ps.length:=by simp[iN]
   rw[this,VV];exact ret rfl
noncomputable def isMK:It->Bool|.mark _=>true|.key _=>true|_=>false
def Qt(row:List It):List It:=match row.getLast? with|some x=>if isMK x then row++[.word "end" []]else row|none=>row
def ZE:List Bk×List It->At->List Bk×List It|(bs,row),.it i=>(bs,row++[i])|(bs,row),.bk b=>((if Qt row=[]then bs else bs++[.para (Qt row)])++[b],[])|(bs,row),.brk=>(bs++[.para (Qt row)],[])|(bs,row),.fin=>(if Qt row=[]then bs else bs++[.para (Qt row)],[])
def Vq(as:List At):List Bk×List It:=as.foldl ZE ([],[])
def QaZ(row:List It):(Qt row).length<=row.length+1:=by
 unfold Qt;split
 ·split;·simp
  ·omega
 ·omega
def D2(as:List At):∀s:List Bk×List It,(as.foldl ZE s).1.length<=s.1.length+2*as.length/\(as.foldl ZE s).2.length<=s.2.length+as.length:=by induction as with|nil=>intro s;simp|cons a as ih=>
  intro s;obtain⟨h1,h2⟩:=ih (ZE s a);rw[YA,JV];have:(ZE s a).1.length<=s.1.length+2/\(ZE s a).2.length<=s.2.length+1:=by
   obtain⟨bs,row⟩:=s;cases a with
   |it i=>simp[ZE]|bk b=>simp only[ZE];split<;>simp|brk=>simp[ZE]|fin=>simp only[ZE];split<;>simp
  omega
def Qdr(as:List At)(i:Nat)(hi:i<as.length):Vq (as.take (i+1))=ZE (Vq (as.take i)) as[i]:=by unfold Vq;rw[T1 hi,Tt];rfl
def Cy(row:List It):row=[]\/∃r x,row=r++[x]:=by
 rcases List.eq_nil_or_concat row with h|⟨r,x,h⟩;·exact .inl h
 ·exact .inr ⟨r,x,by rw[h,List.concat_eq_append]⟩
def C0(is:List It):D.neO (.lst (is.map It.d)) (.lst [])=QS (!is.isEmpty):=C3 E9 (by decide) is
def FJ{is:List It}(x:It)(h:is.length<lI):D.app (.lst (is.map It.d)) x.d=QA ((is++[x]).map It.d):=TB x h
def FI{is:List Bk}(x:Bk)(h:is.length<lI):D.app (Q9 is) x.d=some (Q9 (is++[x])):=TB (f:=Bk.d) x h
def Kc(A:Option D)(bs:Option D)(row:List It)(h:row.length<lI)(d:D):(QD (Qn (Yd (eV 2) (QF lN)) (Q5 D.inO (WA (ZG (eV 2) (QB D.neg (Q4 1))) 0) (QF (Qc (QC "mark") (QC "key"))))) (sP 2 (QN (JI (QC "word") (QC "end") (QF lN)))) QE) [A,bs,QA (row.map It.d),some d]=some (.nx [A,bs,QA ((Qt row).map It.d),some d]):=by
 have ne:=C0 row;have ap:=FJ (.word "end" []) h;simp only[It.d,QR,map_nil]at ap;rcases Cy row with z|⟨r,x,z⟩
 ·subst z;simp only[map_nil]at ne;simp[QD,Qn,Q5,eV,QF,lN,ne,Qj,QE,Qt]
 ·have il:D.ix (.lst (row.map It.d)) (.int (-1))=some x.d:=by rw[z,YQ];exact QdR _ _
  have ie:row.isEmpty=false:=by rw[z];simp
  have cl:Qt row=if isMK x then row++[.word "end" []]else row:=by unfold Qt;rw[z];simp
  rw[ie]at ne;rw[cl];have i0:∃t:Str,D.ix x.d (.int 0)=QQ t/\D.inO (.str t) (.lst [.str (Str.ofString "mark"),.str (Str.ofString "key")])=QS (isMK x):=by cases x<;>exact⟨_,rfl,by simp[D.inO,Zq,inD,JC,isMK]⟩
  obtain⟨t,i0,i1⟩:=i0;generalize row++[It.word "end" []]=iK at*;generalize It.d x=X at*;cases q:isMK x with
  |true=>
   rw[q]at i1;rw[if_pos rfl];generalize iK.map It.d=R2 at*;generalize row.map It.d=R at*;simp[QD,Qn,Q5,eV,QF,lN,lC,eC,QB,D.neg,ne,il,i0,i1,Qj,sP,QN,ap]|false=>rw[q]at i1;rw[if_neg (by decide)];generalize row.map It.d=R at*;simp[QD,Qn,Q5,eV,QF,lN,lC,eC,QB,D.neg,ne,il,i0,i1,Qj,QE]
def Ie(A:D)(bs:List Bk)(row:List It)(h:bs.length<lI)(d:D)(t:Str)(ht:D.ix d (.int 0)=QQ t):(QD (Qa (Yd (eV 2) (QF lN)) (QO (Q2 3 0) (QC "break"))) (sP 1 (QN (Qc (QC "para") (eV 2)))) QE) [some A,some (Q9 bs),QA (row.map It.d),some d]=some (.nx [some A,some (Q9 (if row=[]/\t≠"break"then bs else bs++[.para row])),QA (row.map It.d),some d]):=by
 have ne:=C0 row;have ap:=FI (.para row) h;simp only[Bk.d]at ap;have eb:D.eqO (.str t) (.str (Str.ofString "break"))=QS (decide (t=Str.ofString "break")):=by simp[D.eqO,JF,JC,D.cmp]
 cases q:row.isEmpty with
 |true=>
  have z:row=[]:=List.isEmpty_iff.mp q;rw[q]at ne;subst z;simp only[map_nil]at ne ap;by_cases w:t=Str.ofString "break"
  ·rw[if_neg (by simp[w])];rw[w]at eb ht;generalize Q9 bs=B at*;generalize Q9 (bs++_)=B2 at*;simp[QD,Qa,Q5,eV,QF,lN,lC,eC,ne,ht,eb,Qj,sP,QN,ap]
  ·rw[if_pos ⟨rfl,w⟩];simp[QD,Qa,Q5,eV,QF,lN,lC,eC,ne,ht,eb,w,Qj,QE]|false=>
  have z:row≠[]:=λz=>by rw[z]at q;cases q
  rw[q]at ne;rw[if_neg (by simp[z])];generalize Q9 bs=B at*;generalize Q9 (bs++_)=B2 at*;generalize row.map It.d=R at*;simp[QD,Qa,Q5,eV,QF,lN,lC,eC,ne,Qj,sP,QN,ap]
def Qdp(as:List At)(mC:as.length<=100)(hs:∀a∈as,XS a):Ta [.lst (as.map At.d)]=some (Q9 (Vq (as++[.fin])).1):=by
 have key:∀xs:List At,xs.length<=101->(∀a∈xs,XS a\/a=.fin)->D.add (.lst (as.map At.d)) (.lst [At.fin.d])=some (.lst (xs.map At.d))->Ta [.lst (as.map At.d)]=some (Q9 (Vq xs).1):=by
  intro xs hx ha fW;unfold Ta LX;refine JS rfl ?_;refine st (e1:=[some (.lst (as.map At.d)),some (Q9 []),none,none]) (by simp[sD,sQ,QD,QI,Q6,QE,gS,eV,eC,Q5,QB,JT,Qn,Qa,QN,QF,eK,lN,lC,D.lt,D.sub,D.eqO,D.cmp,Qj,Jf,Jq,J6,JF,J9,JC,Jk,Q9]) ?_;refine st (e1:=[some (.lst (as.map At.d)),some (Q9 []),some (.lst []),none]) (by simp[sD,sQ,QD,QI,Q6,QE,gS,eV,eC,Q5,QB,JT,Qn,Qa,QN,QF,eK,lN,lC,D.lt,D.sub,D.eqO,D.cmp,Qj,Jf,Jq,J6,JF,J9,JC,Jk]) ?_;refine XQ At.d xs (λi e=>∃v,e=[some (.lst (as.map At.d)),some (Q9 (Vq (xs.take i)).1),some (.lst ((Vq (xs.take i)).2.map It.d)),v]) ?_ ⟨none,rfl⟩ ?_ ?_
  ·simp only[At.d]at fW;simp[J1,Q5,eV,QF,QN,lC,lN,eC,fW,D.its]
  ·rintro i hi e⟨v,rfl⟩;rw[Qdr xs i hi];have hl:=D2 (xs.take i) ([],[]);have hb:(Vq (xs.take i)).1.length<lI:=WM (by have:=hl.1;unfold Vq;simp at this;omega);have hr:(Vq (xs.take i)).2.length<lI:=WM (by have:=hl.2;unfold Vq;simp at this;omega);have gA:(Vq (xs.take i)).1.length+1<lI:=WM (by have:=hl.1;unfold Vq;simp at this;omega);have hAt:=ha xs[i] (YB hi);generalize xs[i]=a at*;generalize Vq (xs.take i)=s at*;obtain⟨bs,row⟩:=s;generalize D.lst (as.map At.d)=AS at*;simp only[]at hb hr gA⊢;cases a with
   |it x=>
    have ap:=FJ x hr;refine⟨[some AS,some (Q9 bs),some (.lst ((row++[x]).map It.d)),some x.d],.inr ?_,some x.d,rfl⟩;refine Jg (e1:=[some AS,some (Q9 bs),some (.lst (row.map It.d)),some x.d]) rfl ?_;have i0:∃t:Str,D.ix x.d (.int 0)=some (.str t)/\D.inO (.str t) (.lst [.str (Str.ofString "mark"),.str (Str.ofString "key"),.str (Str.ofString "ref"),.str (Str.ofString "word")])=some (.bl true):=by cases x<;>exact⟨_,rfl,by simp[D.inO,Zq,inD,JC]⟩
    obtain⟨t,i0,i1⟩:=i0;refine stC ?_;generalize It.d x=X at*;generalize(row++[x]).map It.d=R2 at*;generalize row.map It.d=R at*;simp[QD,Q5,eV,QF,lN,lC,eC,i0,i1,Qj,sQ,sP,ap,Jf,YD]|bk b=>
    have i0:∃t:Str,D.ix b.d (.int 0)=some (.str t)/\D.inO (.str t) (.lst [.str (Str.ofString "mark"),.str (Str.ofString "key"),.str (Str.ofString "ref"),.str (Str.ofString "word")])=some (.bl false)/\D.notInO (.str t) (.lst [.str (Str.ofString "break"),.str (Str.ofString "end")])=some (.bl true)/\t≠Str.ofString "break":=by cases b<;>exact⟨_,rfl,by simp[D.inO,Zq,inD,JC],by simp[D.notInO,Zq,inD,JC],by simp⟩
    obtain⟨t,i0,i1,i2,i3⟩:=i0;have pa:=Ie AS bs (Qt row) hb b.d t i0;have gs:ZE (bs,row) (.bk b)=((if Qt row=[]/\t≠Str.ofString "break"then bs else bs++[.para (Qt row)])++[b],[]):=by
     show((if Qt row=[]then bs else bs++[.para (Qt row)])++[b],[])=_;by_cases w:Qt row=[];·rw[if_pos w,if_pos ⟨w,i3⟩]
     ·rw[if_neg w,if_neg (by simp[w])]
    rw[gs];have cS:(if Qt row=[]/\t≠Str.ofString "break"then bs else bs++[.para (Qt row)]).length<lI:=by
     split;·exact hb
     ·rw[Qe];exact gA
    generalize(if Qt row=[]/\t≠Str.ofString "break"then bs else bs++[.para (Qt row)])=d7 at*;have ap:=FI b cS;refine⟨[some AS,some (Q9 (d7++[b])),some (.lst []),some b.d],.inl ?_,some b.d,rfl⟩;refine Jg (e1:=[some AS,some (Q9 bs),some (.lst (row.map It.d)),some b.d]) rfl ?_;refine st (e1:=[some AS,some (Q9 bs),some (.lst (row.map It.d)),some b.d]) ?_ ?_;·generalize Bk.d b=X at*;simp[QD,Q5,eV,QF,lN,lC,eC,i0,i1,Qj,QE]
    refine st (Kc (some AS) (some (Q9 bs)) row hr b.d) ?_;refine st pa ?_;refine st (e1:=[some AS,some (Q9 d7),some (.lst []),some b.d]) rfl ?_;generalize Bk.d b=X at*;generalize Q9 d7=B at*;generalize Q9 (d7++_)=B2 at*;simp[QD,Q5,eV,QF,lN,lC,eC,i0,i2,Qj,sP,ap]|brk=>have pa:=Ie AS bs (Qt row) hb At.brk.d (Str.ofString "break") rfl;rw[if_neg (by simp)]at pa;refine⟨[some AS,some (Q9 (bs++[.para (Qt row)])),some (.lst []),some At.brk.d],.inl ?_,some At.brk.d,rfl⟩;refine Jg (e1:=[some AS,some (Q9 bs),some (.lst (row.map It.d)),some At.brk.d]) rfl ?_;refine st (e1:=[some AS,some (Q9 bs),some (.lst (row.map It.d)),some At.brk.d]) (by simp[QD,Q5,eV,QF,lN,lC,eC,D.ix,JN,Qj,QE,D.inO,Zq,inD,JC]) ?_;refine st (Kc (some AS) (some (Q9 bs)) row hr At.brk.d) ?_;refine st pa ?_;refine st (e1:=[some AS,some (Q9 (bs++[.para (Qt row)])),some (.lst []),some At.brk.d]) rfl ?_;simp[QD,Q5,eV,QF,lN,lC,eC,D.ix,JN,Qj,QE,D.notInO,Zq,inD,JC]|fin=>
    have pa:=Ie AS bs (Qt row) hb At.fin.d (Str.ofString "end") rfl;have gs:ZE (bs,row) .fin=((if Qt row=[]/\Str.ofString "end"≠Str.ofString "break"then bs else bs++[.para (Qt row)]),[]):=by
     show(if Qt row=[]then bs else bs++[.para (Qt row)],[])=_;by_cases w:Qt row=[];·rw[if_pos w,if_pos ⟨w,by simp⟩]
     ·rw[if_neg w,if_neg (by simp[w])]
    rw[gs];generalize(if Qt row=[]/\Str.ofString "end"≠Str.ofString "break"then bs else bs++[.para (Qt row)])=d7 at*;refine⟨[some AS,some (Q9 d7),some (.lst []),some At.fin.d],.inl ?_,some At.fin.d,rfl⟩;refine Jg (e1:=[some AS,some (Q9 bs),some (.lst (row.map It.d)),some At.fin.d]) rfl ?_;refine st (e1:=[some AS,some (Q9 bs),some (.lst (row.map It.d)),some At.fin.d]) (by simp[QD,Q5,eV,QF,lN,lC,eC,D.ix,JN,Qj,QE,D.inO,Zq,inD,JC]) ?_;refine st (Kc (some AS) (some (Q9 bs)) row hr At.fin.d) ?_;refine st pa ?_;refine st (e1:=[some AS,some (Q9 d7),some (.lst []),some At.fin.d]) rfl ?_;simp[QD,Q5,eV,QF,lN,lC,eC,D.ix,JN,Qj,QE,D.notInO,Zq,inD,JC]
  ·rintro e⟨v,rfl⟩;rw[VV];exact ret rfl
 refine key (as++[.fin]) (by simp;omega) (λa h=>?_) ?_
 ·rcases q_7.mp h with z|z;·exact .inl (hs a z)
  ·exact .inr (by simpa using z)
 ·show(if(as.map At.d).length+1<=lI then _ else _)=_;rw[if_pos (Zk (by rw[Qo];omega) (show 101<=lI by decide)),YQ];rfl
noncomputable def ZR:It->Bool|.ref _ _ _=>true|_=>false
noncomputable def Y6:It->Bool|.word _ _=>true|_=>false
noncomputable def Uq:Bk->Bool|.para _=>true|_=>false
noncomputable def O8:It->Str|.word _ _=>"word"|.ref _ _ _=>"ref"|.mark _=>"mark"|.key _=>"key"
noncomputable def Ua:Bk->Str|.chapter _ _=>"chapter"|.heading _ _ _=>"heading"|.para _=>"para"|.table _ _=>"table"|.plates _ _=>"plates"
def SV(i:It):D.ix i.d (.int 0)=QQ (O8 i):=by cases i<;>rfl
def NJ(i:Bk):D.ix i.d (.int 0)=QQ (Ua i):=by cases i<;>rfl
def MZ(i:It):decide (O8 i=Str.ofString "ref")=ZR i:=by cases i<;>simp[O8,ZR]
def Hq(i:It):decide (O8 i=Str.ofString "word")=Y6 i:=by cases i<;>simp[O8,Y6]
def QiJ(i:Bk):decide (Ua i=Str.ofString "para")=Uq i:=by cases i<;>simp[Ua,Uq]
noncomputable def DP:It->Str|.ref l _ _=>l|_=>""
def Qu(is:List It):List Str:=(is.filter ZR).map DP
noncomputable def iO:Bk->List It|.para is=>is|_=>[]
def rO(bs:List Bk):List Str:=bs.flatMap λb=>Qu (iO b)
def NI(b:Bk):Wg [b.d]=QA ((iO b).map It.d):=by unfold Wg Ly;cases b<;>simp[Jk,JM,ZD,lI,QV,sD,sQ,QD,QI,V2,Q6,ZV,Zg,QE,V1,YD,gS,JQ,Z9,eV,eC,Q5,QB,JT,Qn,Qa,Zb,Zy,QN,QF,eK,lN,lC,Zn,JX,JJ,Yi,D.len,D.lt,D.le,D.gt,D.ge,D.add,D.sub,D.ix,D.eqO,D.neO,D.cmp,D.cmpN,D.inst,ZX,D.isT,D.intB,D.min2,D.max2,D.neg,D.addI,Qj,Yv,Yn,Yw,Jf,Jq,V3,V4,V6,V5,Yl,Yk,Yj,Yg,Ys,Y3,YW,YV,J6,JF,ZP,ZO,ZZ,ZI,D.rng,D.its,D.itsT,J9,Ym,JC,YX,Zz,Zp,Y5,JN,iO]
def QhJ{it:ZY}{e:QG}(is:List It)(hit:it e=some (is.map It.d))(hl:is.length<=lI):JL 1 [] it (gS 0) (QO (Q2 0 0) (QC "ref")) (Q2 0 1) e=some (QR (Qu is)):=by
 have:=Va (g:=gS 0) (n:=1) (caps:=[]) (c:=QO (Q2 0 0) (QC "ref")) (el:=Q2 0 1) It.d is (λe=>∃v,e=[v]) ZR (λi=>.str (DP i)) hit hl ⟨none,rfl⟩ (by
  rintro i _ e⟨v,rfl⟩;refine⟨[some i.d],rfl,⟨_,rfl⟩,?_,λh=>?_⟩
  ·have h1:=SV i;have h2:=MZ i;generalize It.d i=X at*;simp[Q5,eV,eC,h1,Qb,h2]
  ·cases i with
   |ref l a b=>rfl|_=>cases h);rw[this];unfold QR Qu;rw[map_map];rfl
def fT{α β:Type}(f:α->List β)(xs:List α)(i:Nat)(hi:i<xs.length):(xs.take (i+1)).flatMap f=(xs.take i).flatMap f++f xs[i]:=by rw[T1 hi,Yc];simp
def N8{α β:Type}(f:α->List β)(xs:List α)(i:Nat):((xs.take i).flatMap f).length<=(xs.flatMap f).length:=by
 conv=>rhs;rw[<-O4 i xs,Yc,Qe]
 omega
def Qc6{α:Type}{f:α->D}{xs ys:List α}(h:xs.length+ys.length<=lI):D.ext (.lst (xs.map f)) (.lst (ys.map f))=QA ((xs++ys).map f):=by show(if(xs.map f).length+(ys.map f).length<=lI then some (D.lst (xs.map f++ys.map f))else none)=_;rw[if_pos (by rw[Qo,Qo];exact h),YQ]
def U0{α:Type}{f:α->D}{xs ys:List α}(h:xs.length+ys.length<=lI):D.add (.lst (xs.map f)) (.lst (ys.map f))=QA ((xs++ys).map f):=by show(if(xs.map f).length+(ys.map f).length<=lI then some (D.lst (xs.map f++ys.map f))else none)=_;rw[if_pos (by rw[Qo,Qo];exact h),YQ]
def V9(bs:List Bk):Prop:=bs.length<=100000/\(bs.flatMap iO).length<=100000
def QhK(is:List It):(Qu is).length<=is.length:=by unfold Qu;rw[Qo];exact Sr _ _
def HB(bs:List Bk):(rO bs).length<=(bs.flatMap iO).length:=by induction bs with|nil=>exact Qz _|cons b bs ih=>have:=QhK (iO b);have ih':(bs.flatMap λb=>Qu (iO b)).length<=(bs.flatMap iO).length:=ih;show((b::bs).flatMap λb=>Qu (iO b)).length<=_;rw[Y1,Y1,Qe,Qe];omega
def UN{bs:List Bk}(h:V9 bs)(b:Bk)(hb:b∈bs):(iO b).length<=100000:=by refine Zk ?_ h.2;obtain⟨s,t,rfl⟩:=List.append_of_mem hb;rw[Yc,Y1];simp only[Qe];omega
def MM(bs:List Bk)(h:V9 bs):Vp [Q9 bs]=some (QR (rO bs)):=by
 have hr:=HB bs;unfold Vp KL;refine JS rfl ?_;refine st (e1:=[some (Q9 bs),some (QR []),none]) rfl ?_;refine XQ Bk.d bs (λi e=>∃v,e=[some (Q9 bs),some (QR (rO (bs.take i))),v]) rfl ⟨none,rfl⟩ ?_ ?_
 ·rintro i hi e⟨v,rfl⟩;have t1:rO (bs.take (i+1))=rO (bs.take i)++Qu (iO bs[i]):=fT _ bs i hi;have t2:=N8 (λb=>Qu (iO b)) bs (i+1);have t3:(rO (bs.take (i+1))).length<=(rO bs).length:=t2;rw[t1,Qe]at t3;rw[t1];refine⟨[some (Q9 bs),some (QR (rO (bs.take i)++Qu (iO bs[i]))),some bs[i].d],.inl ?_,_,rfl⟩;refine Jg (e1:=[some (Q9 bs),some (QR (rO (bs.take i))),some bs[i].d]) rfl ?_;have hc:=QhJ (it:=J1 (eK Wg (QU (eV 2)))) (e:=[some (Q9 bs),some (QR (rO (bs.take i))),some bs[i].d]) (iO bs[i]) (by show((Wg [bs[i].d]).bind λd=>D.its d)=_;rw[NI];rfl) (lB (Zk (UN h bs[i] (YB hi)) (by decide)));have hx:D.ext (QR (rO (bs.take i))) (QR (Qu (iO bs[i])))=some (QR (rO (bs.take i)++Qu (iO bs[i]))):=Qc6 (f:=D.str) (lB (by have:=h.2;omega));generalize QR (rO (bs.take i)++Qu (iO bs[i]))=Z at*;generalize QR (Qu (iO bs[i]))=Y at*;generalize QR (rO (bs.take i))=X at*;simp only[HE,hc];simp[eV,hx]
 ·rintro e⟨v,rfl⟩;rw[VV];exact ret rfl
noncomputable def WI:It->Prop|.word w ns=>(1<=w.length/\w.length<=40)/\ns.length<=30/\∀r∈ns,r.length<=40|.ref _ a b=>a.length<=2/\b.length<=2|.mark _=>True|.key w=>1<=w.length/\w.length<=80
def VZ:Bk->Prop|.chapter t _=>1<=t.length/\t.length<=41|.heading t n _=>(1<=t.length/\t.length<=41)/\0<=n/\n<=29|.table rs _=>(1<=rs.length/\rs.length<=30)/\∀r∈rs,r.length<=40|.plates n _=>1<=n/\n<=10^39|.para is=>∀i∈is,WI i
def Yp{x:Str}(h:x.length<=1000000):D.len (.str x)=Q0 x.length:=if_pos (lB h)
theorem IC:∀xs:List Int,intsOf (xs.map .int)=some xs|[]=>rfl|x::xs=>by show(intsOf (xs.map .int)).map (x::·)=_;rw[IC xs];rfl
def QeE(w:Int)(xs:List Int):D.maxL (.lst ((w::xs).map .int))=Q0 (Jx w xs):=by show(match intsOf ((w::xs).map .int)with|some (m::ns)=>some (D.int (Jx m ns))|_=>none)=_;rw[IC]
noncomputable def W7(rs:List Str):List Int:=rs.map λr=>(r.length:Int)
def DZ{it:ZY}{e:QG}(rs:List Str)(hit:it e=some (rs.map .str))(hl:rs.length<=1000000)(hr:∀r∈rs,r.length<=1000000):JL 1 [] it (gS 0) (Jt true) (QB D.len (eV 0)) e=QA ((W7 rs).map .int):=by rw[Va (g:=gS 0) (n:=1) (caps:=[]) (c:=Jt true) (el:=QB D.len (eV 0)) D.str rs (λe=>∃v,e=[v]) (λ_=>true) (λr=>.int r.length) hit (lB hl) ⟨none,rfl⟩ (by rintro r jA e⟨v,rfl⟩;refine⟨[QQ r],rfl,⟨_,rfl⟩,rfl,λ_=>?_⟩;simp[QB,eV,Yp (hr r jA)])];rw[XH];unfold W7;rw[map_map];rfl
def PD{a:Q7}{e:QG}{i:Nat}{w:Int}(xs:List Int)(hv:eV i e=Q0 w)(ha:a e=QA (xs.map .int))(hl:xs.length<=1000000):QB D.maxL (QJ (QF (QU (eV i))) a) e=Q0 (Jx w xs):=by have h1:D.add (.lst [.int w]) (.lst (xs.map .int))=QA ((w::xs).map .int):=U0 (f:=D.int) (xs:=[w]) (ys:=xs) (Dc hl);have h2:=QeE w xs;generalize(w::xs).map D.int=Z at*;simp only[QB,Q5,QF,lC,lN,hv,ha,ZU,WV,h1,h2]
noncomputable def T6:It->Int|.word w _=>w.length|_=>0
noncomputable def T2(af:Int):It->Int|.ref _ a b=>a.length+af+b.length|_=>0
noncomputable def CG:It->List Str|.word _ ns=>ns|_=>[]
def Vv(is:List It):List (List Str):=(is.filter Y6).map CG
def YN(af w:Int):Bk->Int|.chapter t _=>if(t.length:Int)+2+af>w then(t.length:Int)+2+af else w|.heading t _ _=>if(t.length:Int)+2+af>w then(t.length:Int)+2+af else w|.table rs _=>Jx w (W7 rs)|.plates _ _=>w|.para is=>(Vv is).foldl (λw ns=>Jx w (W7 ns)) (Jx (Jx w ((is.filter ZR).map (T2 af))) ((is.filter Y6).map T6))
def YM(h:Int):Bk->Int|.heading _ k _=>if k+1>h then k+1 else h|.table rs _=>if(rs.length:Int)>h then(rs.length:Int)else h|.para is=>Jx h ((Vv is).map λns=>1+(ns.length:Int))|_=>h
def Qi7{it:ZY}{e:QG}(is:List It)(hit:it e=some (is.map It.d))(hl:is.length<=1000000)(hi:∀i∈is,WI i):JL 1 [] it (gS 0) (QO (Q2 0 0) (QC "word")) (QB D.len (Q2 0 1)) e=QA (((is.filter Y6).map T6).map .int):=by
 rw[Va (g:=gS 0) (n:=1) (caps:=[]) (c:=QO (Q2 0 0) (QC "word")) (el:=QB D.len (Q2 0 1)) It.d is (λe=>∃v,e=[v]) Y6 (λi=>.int (T6 i)) hit (lB hl) ⟨none,rfl⟩ (by
  rintro i hm e⟨v,rfl⟩;refine⟨[some i.d],rfl,⟨_,rfl⟩,?_,λh=>?_⟩
  ·have h1:=SV i;have h2:=Hq i;generalize It.d i=X at*;simp[Q5,eV,eC,h1,Qb,h2]
  ·cases i with
   |word w ns=>have hb:=(hi _ hm).1.2;have ln:=Yp (x:=w) (by omega);simp[QB,Q5,eV,eC,D.ix,JN,ln,T6]|_=>cases h)];rw[map_map];rfl
def QhI{it:ZY}{e:QG}(af:Int)(is:List It)(hc:XY 1 [1] e=[none,Q0 af])(hit:it e=some (is.map It.d))(hl:is.length<=1000000)(hi:∀i∈is,WI i):JL 1 [1] it (gS 0) (QO (Q2 0 0) (QC "ref")) (QJ (QJ (QB D.len (Q2 0 2)) (eV 1)) (QB D.len (Q2 0 3))) e=QA (((is.filter ZR).map (T2 af)).map .int):=by
 rw[Va (g:=gS 0) (n:=1) (caps:=[1]) (c:=QO (Q2 0 0) (QC "ref")) (el:=QJ (QJ (QB D.len (Q2 0 2)) (eV 1)) (QB D.len (Q2 0 3))) It.d is (λe=>∃v,e=[v,Q0 af]) ZR (λi=>.int (T2 af i)) hit (lB hl) ⟨none,hc⟩ (by
  rintro i hm e⟨v,rfl⟩;refine⟨[some i.d,Q0 af],rfl,⟨_,rfl⟩,?_,λh=>?_⟩;·have h1:=SV i;have h2:=MZ i;generalize It.d i=X at*;simp[Q5,eV,eC,h1,Qb,h2]
  ·cases i with
   |ref l a b=>have hb:=hi _ hm;have l1:=Yp (x:=a) (by have:=hb.1;omega);have l2:=Yp (x:=b) (by have:=hb.2;omega);simp[QB,Q5,eV,eC,D.ix,JN,l1,l2,T2,add_int]|_=>cases h)];rw[map_map];rfl
def Qe7{it:ZY}{e:QG}(is:List It)(hit:it e=some (is.map It.d))(hl:is.length<=1000000):JL 1 [] it (gS 0) (QO (Q2 0 0) (QC "word")) (Q2 0 2) e=QA ((Vv is).map QR):=by
 rw[Va (g:=gS 0) (n:=1) (caps:=[]) (c:=QO (Q2 0 0) (QC "word")) (el:=Q2 0 2) It.d is (λe=>∃v,e=[v]) Y6 (λi=>QR (CG i)) hit (lB hl) ⟨none,rfl⟩ (by
  rintro i hm e⟨v,rfl⟩;refine⟨[some i.d],rfl,⟨_,rfl⟩,?_,λh=>?_⟩
  ·have h1:=SV i;have h2:=Hq i;generalize It.d i=X at*;simp[Q5,eV,eC,h1,Qb,h2]
  ·cases i with|word w ns=>rfl|_=>cases h)];unfold Vv;rw[map_map];rfl
def Qgh{it:ZY}{e:QG}(bU:List (List Str))(hit:it e=some (bU.map QR))(hl:bU.length<=1000000):JL 1 [] it (gS 0) (Jt true) (QJ (Q4 1) (QB D.len (eV 0))) e=QA ((bU.map λns=>1+(ns.length:Int)).map .int):=by rw[Va (g:=gS 0) (n:=1) (caps:=[]) (c:=Jt true) (el:=QJ (Q4 1) (QB D.len (eV 0))) QR bU (λe=>∃v,e=[v]) (λ_=>true) (λns=>.int (1+(ns.length:Int))) hit (lB hl) ⟨none,rfl⟩ (by rintro r jA e⟨v,rfl⟩;refine⟨[some (QR r)],rfl,⟨_,rfl⟩,rfl,λ_=>?_⟩;have ln:=Us r;generalize QR r=N at*;simp[QB,eV,Q5,eC,ln,add_int])];rw[XH,map_map];rfl
def Ia{is:List It}(hi:∀i∈is,WI i):∀ns∈Vv is,ns.length<=30/\∀r∈ns,r.length<=40:=by intro ns h;unfold Vv at h;obtain⟨i,h1,rfl⟩:=q_19.mp h;obtain⟨h2,h3⟩:=q_47.mp h1;cases i with|word w ns=>exact⟨(hi _ h2).2.1,(hi _ h2).2.2⟩|_=>cases h3
def Qe8(B R H b nt:Option D)(bU:List (List Str))(hn:∀ns∈bU,ns.length<=30/\∀r∈ns,r.length<=40)(w:Int)(v:Option D)(hl:nt=QA (bU.map QR)):∃v',Jb (J1 (eV 5)) (gS 6) (Q6 (QB D.maxL (QJ (QF (QU (eV 2))) (JL 1 [] (J1 (eV 6)) (gS 0) (Jt true) (QB D.len (eV 0))))) (gS 2)) [B,R,Q0 w,H,b,nt,v]=some (.nx [B,R,Q0 (bU.foldl (λw ns=>Jx w (W7 ns)) w),H,b,nt,v']):=by obtain⟨e',h1,v',h2⟩:=Eh (it:=J1 (eV 5)) (g:=gS 6) (b:=Q6 (QB D.maxL (QJ (QF (QU (eV 2))) (JL 1 [] (J1 (eV 6)) (gS 0) (Jt true) (QB D.len (eV 0))))) (gS 2)) (e:=[B,R,Q0 w,H,b,nt,v]) QR bU (λ(w:Int)e=>∃v,e=[B,R,Q0 w,H,b,nt,v]) (λw ns=>Jx w (W7 ns)) w (by rw[hl];rfl) ⟨v,rfl⟩ (by rintro ns hm w e⟨v,rfl⟩;refine⟨[B,R,Q0 (Jx w (W7 ns)),H,b,nt,some (QR ns)],.inl ?_,_,rfl⟩;refine Jg (e1:=[B,R,Q0 w,H,b,nt,some (QR ns)]) rfl ?_;have hc:=DZ (it:=J1 (eV 6)) (e:=[B,R,Q0 w,H,b,nt,some (QR ns)]) ns rfl (by have:=(hn ns hm).1;omega) (λr hr=>by have:=(hn ns hm).2 r hr;omega);have hx:=PD (i:=2) (e:=[B,R,Q0 w,H,b,nt,some (QR ns)]) (W7 ns) rfl hc (by unfold W7;rw[Qo];have:=(hn ns hm).1;omega);unfold Q6;rw[hx];rfl);exact⟨v',h2▸h1⟩
def Qe9(is:List It):(Vv is).length<=is.length:=by unfold Vv;rw[Qo];exact Sr _ _
def IM:QH:=sQ (QD (Qa (QO (Q2 4 0) (QC "chapter")) (QO (Q2 4 0) (QC "heading"))) (Q6 (Q5 D.max2 (eV 2) (QJ (QJ (QB D.len (Q2 4 1)) (Q4 2)) (eV 1))) (gS 2)) QE) (sQ (QD (QO (Q2 4 0) (QC "heading")) (Q6 (Q5 D.max2 (eV 3) (QJ (Q2 4 2) (Q4 1))) (gS 3)) QE) (sQ (QD (QO (Q2 4 0) (QC "table")) (sQ (Q6 (Q5 D.max2 (eV 3) (QB D.len (Q2 4 1))) (gS 3)) (Q6 (QB D.maxL (QJ (QF (QU (eV 2))) (JL 1 [] (J1 (Q2 4 1)) (gS 0) (Jt true) (QB D.len (eV 0))))) (gS 2))) QE) (QD (QO (Q2 4 0) (QC "para")) (sQ (Q6 (QB D.maxL (QJ (QF (QU (eV 2))) (JL 1 [1] (J1 (Q2 4 1)) (gS 0) (QO (Q2 0 0) (QC "ref")) (QJ (QJ (QB D.len (Q2 0 2)) (eV 1)) (QB D.len (Q2 0 3)))))) (gS 2)) (sQ (Q6 (QB D.maxL (QJ (QF (QU (eV 2))) (JL 1 [] (J1 (Q2 4 1)) (gS 0) (QO (Q2 0 0) (QC "word")) (QB D.len (Q2 0 1))))) (gS 2)) (sQ (Q6 (JL 1 [] (J1 (Q2 4 1)) (gS 0) (QO (Q2 0 0) (QC "word")) (Q2 0 2)) (gS 5)) (sQ (Q6 (QB D.maxL (QJ (QF (QU (eV 3))) (JL 1 [] (J1 (eV 5)) (gS 0) (Jt true) (QJ (Q4 1) (QB D.len (eV 0)))))) (gS 3)) (Jb (J1 (eV 5)) (gS 6) (Q6 (QB D.maxL (QJ (QF (QU (eV 2))) (JL 1 [] (J1 (eV 6)) (gS 0) (Jt true) (QB D.len (eV 0))))) (gS 2))))))) QE)))
def QeQ(B:D)(af w h:Int)(b:Bk)(hb:VZ b)(hl:(iO b).length<=100000)(u v:Option D):∃u' v',IM [some B,Q0 af,Q0 w,Q0 h,some b.d,u,v]=some (.nx [some B,Q0 af,Q0 (YN af w b),Q0 (YM h b),some b.d,u',v']):=by
 have tg:∀(e:QG),eV 4 e=some b.d->∀t:Str,QO (Q2 4 0) (eC (.str t)) e=QS (decide (Ua b=t)):=by
  intro e he t;have i0:=NJ b;generalize Bk.d b=X at*;simp only[Q5,eC,he,ZU,i0,Qb]
 unfold IM;cases b with
 |chapter t l=>have ln:=Yp (x:=t) (by have:=hb.2;omega);refine⟨u,v,?_⟩;refine st (e1:=[some B,Q0 af,Q0 (YN af w (.chapter t l)),Q0 h,some (Bk.chapter t l).d,u,v]) (by simp[QD,Qa,Q5,eV,eC,D.ix,JN,Qb,Qj,Q6,gS,QB,ln,add_int,D.max2,YN]) ?_;simp[sQ,Jf,QD,Qa,Q5,eV,eC,D.ix,JN,Qb,Qj,QE,YM]|heading t k l=>
  have ln:=Yp (x:=t) (by have:=hb.1.2;omega);refine⟨u,v,?_⟩;refine st (e1:=[some B,Q0 af,Q0 (YN af w (.heading t k l)),Q0 h,some (Bk.heading t k l).d,u,v]) (by simp[QD,Qa,Q5,eV,eC,D.ix,JN,Qb,Qj,Q6,gS,QB,ln,add_int,D.max2,YN]) ?_;simp[sQ,Jf,QD,Qa,Q5,eV,eC,D.ix,JN,Qb,Qj,QE,Q6,gS,D.max2,add_int,YM]|plates n l=>
  refine⟨u,v,?_⟩;simp[sQ,Jf,QD,Qa,Q5,eV,eC,D.ix,JN,Qb,Qj,QE,YM,YN]|table rs l=>
  refine⟨u,v,?_⟩;refine st (e1:=[some B,Q0 af,Q0 w,Q0 h,some (Bk.table rs l).d,u,v]) (by simp[QD,Qa,Q5,eV,eC,D.ix,JN,Qb,Qj,QE]) ?_;refine st (e1:=[some B,Q0 af,Q0 w,Q0 h,some (Bk.table rs l).d,u,v]) (by simp[QD,Qa,Q5,eV,eC,D.ix,JN,Qb,Qj,QE]) ?_;refine st (e1:=[some B,Q0 af,Q0 (YN af w (.table rs l)),Q0 (YM h (.table rs l)),some (Bk.table rs l).d,u,v]) ?_ (by simp[QD,Q5,eV,eC,D.ix,JN,Qb,Qj,QE]);refine JR (by rw[tg _ rfl];simp[Ua]) ?_;refine st (e1:=[some B,Q0 af,Q0 w,Q0 (YM h (.table rs l)),some (Bk.table rs l).d,u,v]) ?_ ?_
  ·have ln:=Us rs;simp only[Bk.d];generalize QR rs=N at*;simp[Q6,Q5,eV,eC,QB,D.ix,JN,ln,D.max2,gS,YM]
  ·refine J0 (PD (W7 rs) rfl (DZ rs rfl (by have:=hb.1.2;omega) (λr hr=>by have:=hb.2 r hr;omega)) (by unfold W7;rw[Qo];have:=hb.1.2;omega)) rfl|para is=>
  have cT:is.length<=100000:=hl;have hi:∀i∈is,WI i:=hb;obtain⟨W1,e1⟩:∃W1,Jx w ((is.filter ZR).map (T2 af))=W1:=⟨_,rfl⟩;obtain⟨W2,e2⟩:∃W2,Jx W1 ((is.filter Y6).map T6)=W2:=⟨_,rfl⟩;obtain⟨v',hv⟩:=Qe8 (some B) (Q0 af) (Q0 (YM h (.para is))) (some (Bk.para is).d) (QA ((Vv is).map QR)) (Vv is) (Ia hi) W2 v rfl;have l1:((is.filter ZR).map (T2 af)).length<=1000000:=by rw[Qo];have:=Sr ZR is;omega
  have l2:((is.filter Y6).map T6).length<=1000000:=by rw[Qo];have:=Sr Y6 is;omega
  have l3:=Qe9 is;refine⟨QA ((Vv is).map QR),v',?_⟩;refine st (e1:=[some B,Q0 af,Q0 w,Q0 h,some (Bk.para is).d,u,v]) (by simp[QD,Qa,Q5,eV,eC,D.ix,JN,Qb,Qj,QE]) ?_;refine st (e1:=[some B,Q0 af,Q0 w,Q0 h,some (Bk.para is).d,u,v]) (by simp[QD,Qa,Q5,eV,eC,D.ix,JN,Qb,Qj,QE]) ?_;refine st (e1:=[some B,Q0 af,Q0 w,Q0 h,some (Bk.para is).d,u,v]) (by simp[QD,Qa,Q5,eV,eC,D.ix,JN,Qb,Qj,QE]) ?_;refine JR (by rw[tg _ rfl];simp[Ua]) ?_;refine st (e1:=[some B,Q0 af,Q0 W1,Q0 h,some (Bk.para is).d,u,v]) (by rw[<-e1];exact J0 (PD _ rfl (QhI af is rfl rfl (by omega) hi) l1) rfl) ?_;refine st (e1:=[some B,Q0 af,Q0 W2,Q0 h,some (Bk.para is).d,u,v]) (by rw[<-e2];exact J0 (PD _ rfl (Qi7 is rfl (by omega) hi) l2) rfl) ?_;refine st (e1:=[some B,Q0 af,Q0 W2,Q0 h,some (Bk.para is).d,QA ((Vv is).map QR),v]) (J0 (Qe7 is rfl (by omega)) rfl) ?_;refine st (e1:=[some B,Q0 af,Q0 W2,Q0 (YM h (.para is)),some (Bk.para is).d,QA ((Vv is).map QR),v]) (J0 (PD _ rfl (Qgh (Vv is) rfl (by omega)) (by rw[Qo];omega)) rfl) ?_;have fin:YN af w (.para is)=(Vv is).foldl (λw ns=>Jx w (W7 ns)) W2:=by rw[<-e2,<-e1];rfl
  rw[fin];exact hv
def IT(af:Int)(bs:List Bk):Int×Int:=bs.foldl (λs b=>(YN af s.1 b,YM s.2 b)) (4,2)
def Qe0(bs:List Bk)(af:Int)(hf:V9 bs)(hb:∀b∈bs,VZ b):Rj [Q9 bs,.int af]=some (.tup [.int (IT af bs).1,.int (IT af bs).2]):=by
 unfold Rj La;refine JS rfl ?_;refine st rfl ?_;refine st rfl ?_;refine A6 (b:=IM) Bk.d bs (λ(s:Int×Int)e=>∃a u v,e=[some (Q9 bs),Q0 af,Q0 s.1,Q0 s.2,a,u,v]) (λs b=>(YN af s.1 b,YM s.2 b)) (4,2) rfl ⟨none,none,none,rfl⟩ ?_ ?_
 ·rintro b hm s e⟨a,u,v,rfl⟩;obtain⟨u',v',h⟩:=QeQ (Q9 bs) af s.1 s.2 b (hb b hm) (UN hf b hm) u v;exact⟨_,.inl (Jg rfl h),_,_,_,rfl⟩
 ·rintro e⟨a,u,v,rfl⟩;exact ret rfl
def Qfa(s:String):(Str.ofString s).length=s.toList.length:=by show(cpsOfBytes 0 0 s.toByteArray.data.toList).toArray.size=_;rw[cpsOfBytes_string];simp
noncomputable def Z4(n:Nat):Nat:=(Nat.toDigits 10 n).length
def Hl(n:Nat):(Str.ofString (toString (n:Int))).length=Z4 n:=by rw[Qfa];show(Nat.repr n).toList.length=_;rw[Nat.toList_repr];rfl
def SE(n:Nat):1<=Z4 n:=Nat.length_toDigits_pos
def EE(n:Nat):n<10^Z4 n:=(O5 (by decide) (SE n)).mp (Qz _)
def EF(n:Nat)(h:n<10^60):Z4 n<=60:=(O5 (by decide) (by decide)).mpr h
def Qx(i:It):Bool:=Y6 i||ZR i
def ZM(li:Bool):Bk->Int|.chapter _ _=>2+if li then 2 else 0|.heading _ _ _=>2+if li then 2 else 0|.table _ _=>2|.plates n _=>2+n|.para is=>2+2*((is.filter Qx).length:Int)
def most(li:Bool)(bs:List Bk):Int:=bs.foldl (λs b=>s+ZM li b) 3
def Qh7{it:ZY}{e:QG}(is:List It)(hit:it e=some (is.map It.d))(hl:is.length<=1000000):JL 1 [] it (gS 0) (Qa (QO (Q2 0 0) (QC "word")) (QO (Q2 0 0) (QC "ref"))) (eV 0) e=QA ((is.filter Qx).map It.d):=by rw[Va (g:=gS 0) (n:=1) (caps:=[]) (c:=Qa (QO (Q2 0 0) (QC "word")) (QO (Q2 0 0) (QC "ref"))) (el:=eV 0) It.d is (λe=>∃v,e=[v]) Qx It.d hit (lB hl) ⟨none,rfl⟩ (by rintro i hm e⟨v,rfl⟩;refine⟨[some i.d],rfl,⟨_,rfl⟩,?_,λh=>rfl⟩;have h1:=SV i;have h2:=Hq i;have h3:=MZ i;unfold Qx;generalize It.d i=X at*;cases q:Y6 i<;>rw[q]at h2<;>simp[Qa,Q5,eV,eC,h1,Qb,h2,h3,Qj])]
def Dv(m:Int):D.mulA (.int 2) (.int m)=Q0 (2*m):=(Jk 2 m).trans (Sb (by decide))
def QeK(bs:List Bk)(li:Bool)(hf:V9 bs):Ri [Q9 bs,.bl li]=Q0 (most li bs):=by
 unfold Ri LZ;refine JS rfl ?_;refine st (e1:=[some (Q9 bs),QS li,Q0 3,none]) rfl ?_;refine A6 Bk.d bs (λ(s:Int)e=>∃a,e=[some (Q9 bs),QS li,Q0 s,a]) (λs b=>s+ZM li b) 3 rfl ⟨none,rfl⟩ ?_ ?_
 ·rintro b hm s e⟨a,rfl⟩;refine⟨[some (Q9 bs),QS li,Q0 (s+ZM li b),some b.d],.inl (Jg rfl ?_),_,rfl⟩;have hl:=UN hf b hm;generalize Q9 bs=B at*;refine st (e1:=[some B,QS li,Q0 (s+2),some b.d]) rfl ?_;have cd:∀(d:D)(t:Str),D.ix d (.int 0)=QQ t->Qn (eV 1) (Qa (QO (Q2 3 0) (QC "chapter")) (QO (Q2 3 0) (QC "heading"))) [some B,QS li,Q0 (s+2),some d]=QS (li&&(decide (t="chapter")||decide (t="heading"))):=by intro d t h;cases li with|false=>exact VM rfl|true=>
    refine Ye rfl ?_;by_cases z:t=Str.ofString "chapter"
    ·rw[Z6 z];exact orT (Q1 (Q1 rfl rfl h) rfl (by rw[Qb,Z6 z]))
    ·rw[JU z,Bool.false_or,Bool.true_and];exact Sf (Q1 (Q1 rfl rfl h) rfl (by rw[Qb,JU z])) (Q1 (Q1 rfl rfl h) rfl (Qb _ _))
  have tit:∀(d:D)(t:Str)(m:Int),D.ix d (.int 0)=QQ t->(decide (t="chapter")||decide (t="heading"))=true->t≠"plates"->t≠"para"->s+m=s+2+(if li then 2 else 0)->sQ (QD (Qn (eV 1) (Qa (QO (Q2 3 0) (QC "chapter")) (QO (Q2 3 0) (QC "heading")))) (Q6 (QJ (eV 2) (Q4 2)) (gS 2)) (QE)) (sQ (QD (QO (Q2 3 0) (QC "plates")) (Q6 (QJ (eV 2) (Q2 3 1)) (gS 2)) (QE)) (QD (QO (Q2 3 0) (QC "para")) (Q6 (QJ (eV 2) (YC (Q4 2) (QB D.len (JL 1 [] (J1 (Q2 3 1)) (gS 0) (Qa (QO (Q2 0 0) (QC "word")) (QO (Q2 0 0) (QC "ref"))) (eV 0))))) (gS 2)) (QE))) [some B,QS li,Q0 (s+2),some d]=some (.nx [some B,QS li,Q0 (s+m),some d]):=by intro d t m h ht h1 h2 hm;have c:=cd d t h;rw[ht,Bool.and_true]at c;rw[hm];refine st (e1:=[some B,QS li,Q0 (s+2+(if li then 2 else 0)),some d]) ?_ (st (QY (Q1 (Q1 rfl rfl h) rfl (by rw[Qb,JU h1])) rfl) (QY (Q1 (Q1 rfl rfl h) rfl (by rw[Qb,JU h2])) rfl));cases li with|true=>exact JR c rfl|false=>
    refine(QY c rfl).trans ?_;rw[if_neg (by decide),add_zero];rfl
  have non:∀(d:D)(t:Str),D.ix d (.int 0)=QQ t->(decide (t="chapter")||decide (t="heading"))=false->Qn (eV 1) (Qa (QO (Q2 3 0) (QC "chapter")) (QO (Q2 3 0) (QC "heading"))) [some B,QS li,Q0 (s+2),some d]=QS false:=by intro d t h ht;have c:=cd d t h;rw[ht,Bool.and_false]at c;exact c
  cases b with
  |para is=>
   have cT:is.length<=1000000:=Zk (show is.length<=100000 from hl) (by decide);refine st (QY (non _ "para" rfl (by simp)) rfl) ?_;refine st (QY (Q1 (x:=.str "para") (Q1 (x:=(Bk.para is).d) rfl rfl rfl) rfl (by rw[Qb];simp)) rfl) ?_;refine JR (Q1 (x:=.str "para") (Q1 (x:=(Bk.para is).d) rfl rfl rfl) rfl (by rw[Qb];simp)) ?_;have hc:=Qh7 (it:=J1 (Q2 3 1)) (e:=[some B,QS li,Q0 (s+2),some (Bk.para is).d]) is rfl cT;have ln:D.len (.lst ((is.filter Qx).map It.d))=some (.int (is.filter Qx).length):=by show some (D.int ((is.filter Qx).map It.d).length)=_;rw[Qo]
   have fin:s+ZM li (.para is)=s+2+2*((is.filter Qx).length:Int):=by show s+(2+2*((is.filter Qx).length:Int))=_;omega
   rw[fin];generalize((is.filter Qx).length:Int)=m at*;refine J0 ?_ rfl;simp only[Q5,QB,hc,ZU,ln,eC,Dv,eV,X4,WU,X5,add_int]|chapter t l=>exact tit _ "chapter" _ rfl (by simp) (by simp) (by simp) (by show s+(2+(if li then 2 else 0))=_;omega)|heading t k l=>exact tit _ "heading" _ rfl (by simp) (by simp) (by simp) (by show s+(2+(if li then 2 else 0))=_;omega)|table rs l=>exact st (QY (non _ "table" rfl (by simp)) rfl) (st (QY (Q1 (x:=.str "table") (Q1 (x:=(Bk.table rs l).d) rfl rfl rfl) rfl (by rw[Qb];simp)) rfl) (QY (Q1 (x:=.str "table") (Q1 (x:=(Bk.table rs l).d) rfl rfl rfl) rfl (by rw[Qb];simp)) rfl))|plates n l=>
   have fin:s+ZM li (.plates n l)=s+2+n:=by show s+(2+n)=_;omega
   rw[fin];exact st (QY (non _ "plates" rfl (by simp)) rfl) (st (e1:=[some B,QS li,Q0 (s+2+n),some (Bk.plates n l).d]) (JR (Q1 (x:=.str "plates") (Q1 (x:=(Bk.plates n l).d) rfl rfl rfl) rfl (by rw[Qb];simp)) (J0 (Q1 rfl (Q1 (x:=(Bk.plates n l).d) rfl rfl rfl) rfl) rfl)) (QY (Q1 (x:=.str "plates") (Q1 (x:=(Bk.plates n l).d) rfl rfl rfl) rfl (by rw[Qb];simp)) rfl))
 ·rintro e⟨a,rfl⟩;exact ret rfl
def Ww(ns:List Int):Int:=1+Zd (cell ns 4) 19%6
def Zo(ns:List Int)(w h:Int)(li:Bool):List Bk:=if li=true\/cell ns 4%3≠1 then[]else[.plates (10^(Ww ns).toNat-2) "",.table (List.replicate (h-1).toNat "") "",.para [.word (Y0 "w" (if w-1-Ww ns>1 then w-1-Ww ns else 1)) [],.mark "z",.ref "z" "" ""]]
def SF(ns:List Int):1<=Ww ns/\Ww ns<=6:=by unfold Ww;omega
def EN(ns:List Int)(w h:Int)(o li:Bool)(hw:4<=w/\w<=1000)(hh:2<=h/\h<=1000):Rh [.lst (ns.map .int),.tup [.int w,.int h,.bl o,.bl li]]=some (Q9 (Zo ns w h li)):=by
 have c4:VR [.lst (ns.map .int),.int 4]=Q0 (cell ns 4):=S9 ns 4;have km:=Tg (cell ns 4) 19 (by decide) (by decide);unfold Rh LW Zo;by_cases z:li=true\/cell ns 4%3≠1
 ·rw[if_pos z];refine JS rfl ?_;refine Y2 ?_;rcases z with z|z;·subst z;simp[QD,Qa,Q5,eV,eC,D.ix,JN,Qj,QI,QF,lN,Q9,sD]
  ·cases li<;>simp[QD,Qa,Q5,eV,eC,D.ix,JN,Qj,QI,QF,lN,lC,eK,c4,Y8,D.neO,J6,D.cmpN,J9,z,Q9,sD]
 ·rw[if_neg z];have z1:li=false:=by cases li<;>simp_all
  have z2:cell ns 4%3=1:=by simp_all
  subst z1;obtain⟨eb0,eb1⟩:=SF ns;have en:1+Zd (cell ns 4) 19%6=Ww ns:=rfl;generalize Ww ns=N at*;refine JS rfl ?_;refine st (e1:=[QA (ns.map .int),some (.tup [.int w,.int h,.bl o,.bl false]),none,none,none,none]) (by simp[QD,Qa,Q5,eV,eC,D.ix,JN,Qj,QI,QF,lN,lC,eK,c4,Y8,D.neO,J6,D.cmpN,J9,z2,sD,QE]) ?_;refine st (e1:=[QA (ns.map .int),some (.tup [.int w,.int h,.bl o,.bl false]),Q0 N,none,none,none]) (by simp[Q6,Q5,eV,eC,lN,lC,eK,c4,km,Y8,add_int,en,gS]) ?_;refine st (e1:=[QA (ns.map .int),some (.tup [.int w,.int h,.bl o,.bl false]),Q0 N,Q0 1,none,none]) rfl ?_;obtain⟨v,el⟩:=QiK 1 (QA (ns.map .int)) (some (.tup [.int w,.int h,.bl o,.bl false])) (Q0 N) none none (rD 0 N.toNat);rw[Cw,Int.one_mul]at el;have gU:(10:Int)^N.toNat<=10^6:=by
   have:N=1\/N=2\/N=3\/N=4\/N=5\/N=6:=by omega
   rcases this with q|q|q|q|q|q<;>subst q<;>decide
  refine st (e1:=[QA (ns.map .int),some (.tup [.int w,.int h,.bl o,.bl false]),Q0 N,Q0 (10^N.toNat),v,none]) (by unfold Jb VE;simp only[eV,X4,WU,X5,ZU,QhP N (by omega)];exact el) ?_;generalize(10:Int)^N.toNat=T at*;have mx:D.max2 (.int 1) (.int (w-1-N))=Q0 (if w-1-N>1 then w-1-N else 1):=rfl;obtain⟨M,eM,M0,M1⟩:∃M:Int,(if w-1-N>1 then w-1-N else 1)=M/\1<=M/\M<=1000:=⟨_,rfl,by split<;>omega,by split<;>omega⟩;rw[eM]at mx⊢;have wl:(Str.ofString "w").length=1:=by decide+kernel
  have mw:D.mulA (.str (Str.ofString "w")) (.int M)=QQ (Y0 (Str.ofString "w") M):=NN ⟨by omega,by omega,lB (by rw[wl];omega)⟩;generalize Y0 (Str.ofString "w") M=WW at*;refine st (e1:=[QA (ns.map .int),some (.tup [.int w,.int h,.bl o,.bl false]),Q0 N,Q0 T,v,QA ([It.word WW [],.mark "z",.ref "z" "" ""].map It.d)]) (by simp[Q6,QF,lC,lN,QN,eC,Q5,eV,D.ix,JN,D.sub,mx,mw,gS,QR]) ?_;have hc:JL 1 [] (VE (V0 (Q2 1 1) (Q4 1))) (gS 0) (Jt true) (QC "") [QA (ns.map .int),some (.tup [.int w,.int h,.bl o,.bl false]),Q0 N,Q0 T,v,QA ([It.word WW [],.mark "z",.ref "z" "" ""].map It.d)]=some (QR (List.replicate (h-1).toNat "")):=by
   obtain⟨m,em⟩:∃m:Nat,h-1=m:=⟨(h-1).toNat,by omega⟩;rw[Va (λi:Nat=>D.int (0+(i:Int))) (List.range m) (λe=>∃v,e=[v]) (λ_=>true) (λ_=>.str "") (by show D.rng (.int (h-1))=_;rw[em];exact MN m (by omega)) (lB (by simp;omega)) ⟨none,rfl⟩ (by
    rintro i hi e⟨v,rfl⟩;exact⟨[Q0 (0+(i:Int))],rfl,⟨_,rfl⟩,rfl,λ_=>rfl⟩)];rw[XH,em];unfold QR;simp[List.map_const']
  have ds:D.sub (.int T) (.int 2)=Q0 (T-2):=rfl;refine ret ?_;simp only[QF,lC,QN,lN,hc,Q5,eC,eV,X4,WU,X5,ZU,WV,ds];rfl
noncomputable def Wm(c:Int)(k:Nat):At:=if h:k<58 then Classical.choose (FN c k h)else .brk
def LQ(c:Int)(k:Nat)(h:k<58):Uk [.int c,.int k]=some (Wm c k).d/\Mh k (Wm c k):=by unfold Wm;rw[dif_pos h];exact Classical.choose_spec (FN c k h)
def YG(ns:List Int):List Int:=J2 ns none (some 63)++[7]
def Qa7(ns:List Int):(J2 ns none (some 63)).length<=63:=by unfold J2 ZK;rw[Yy];simp only[];rw[if_neg (by decide)];omega
def XF:Nat:=35
def Y4(ns:List Int):List Int:=(List.range (Zd (cell ns 5) 29%XF).toNat).map λk:Nat=>(YG ns).getD ((k:Int)%((YG ns).length:Int)).toNat 0
def Qbh(ns:List Int):(Y4 ns).length<XF:=by unfold Y4;rw[Qo,length_range];have h1:=Xq (Zd (cell ns 5) 29) (show(0:Int)<XF by decide);have h2:=XM (Zd (cell ns 5) 29) (show(XF:Int)≠0 by decide);omega
def EK:XF<=58:=by decide
noncomputable def ZN(cs:List Int):List At:=cs.zipIdx.map λp=>Wm p.1 p.2
def OW(cs:List Int):(ZN cs).length=cs.length:=by unfold ZN;simp
noncomputable def U7(cs:List Int):List Bk:=(Vq (Ze cs (ZN cs)++[.fin])).1
def XR:At->Prop|.bk (.para _)=>False|.bk b=>VZ b|.it i=>WI i|.brk=>True|.fin=>False
def QaB{k:Nat}:∀{a:At},Mh k a->XR a|.brk,h=>trivial|.bk (.chapter t l),h=>h.1|.bk (.heading t n l),h=>⟨h.1,h.2.1⟩|.bk (.table rs l),h=>⟨h.1,h.2.1⟩|.bk (.plates n l),h=>h.1|.it (.mark l),h=>trivial|.it (.key w),h=>h|.it (.ref l a b),h=>h.2|.it (.word w ns),h=>h|.bk (.para _),h=>h.elim|.fin,h=>h.elim
def S5:∀{a:At},XR a->XS a|.brk,h=>trivial|.bk (.chapter t l),h=>trivial|.bk (.heading t n l),h=>trivial|.bk (.table rs l),h=>trivial|.bk (.plates n l),h=>trivial|.it _,h=>trivial|.bk (.para _),h=>h.elim|.fin,h=>h.elim
def QeA:WI (.word (Str.ofString "lost") []):=⟨by decide+kernel,by simp,by simp⟩
def QcX:WI (.word (Str.ofString "end") []):=⟨by decide+kernel,by simp,by simp⟩
def Qhm(ls:List Str)(cs:List Int)(i:Nat)(a:At)(h:XR a):XR (pt ls cs i a):=by
 unfold pt;split
 ·split;·exact QeA
  ·exact h
 ·exact h
def Dm{α:Type}{xs:List α}{p:α×Nat}(h:p∈xs.zipIdx):p.2<xs.length:=by obtain⟨x,i⟩:=p;exact(List.mem_zipIdx' h).1
def Kk(cs:List Int)(h:cs.length<=58):∀a∈ZN cs,XR a:=by intro a ha;obtain⟨p,hp,rfl⟩:=q_19.mp ha;exact QaB (LQ p.1 p.2 (by have:=Dm hp;omega)).2
def CV(cs:List Int)(as:List At)(h:∀a∈as,XR a):∀a∈Ze cs as,XR a:=by intro a ha;unfold Ze at ha;obtain⟨i,hi,rfl⟩:=List.mem_mapIdx.mp ha;exact Qhm _ _ _ _ (h _ (YB hi))
def CW(cs:List Int)(as:List At):(Ze cs as).length=as.length:=by unfold Ze;simp
def QaY{row:List It}(h:∀i∈row,WI i):∀i∈Qt row,WI i:=by
 intro i hi;unfold Qt at hi;split at hi
 ·split at hi
  ·rcases q_7.mp hi with z|z;·exact h i z
   ·rw[q_2.mp z];exact QcX
  ·exact h i hi
 ·exact h i hi
def GB(s:List Bk×List It):Prop:=(∀b∈s.1,VZ b)/\(∀i∈s.2,WI i)
def Qdl{s:List Bk×List It}{a:At}(hs:GB s)(ha:XR a\/a=.fin):GB (ZE s a):=by
 obtain⟨bs,row⟩:=s;have hp:VZ (.para (Qt row)):=QaY hs.2;have h1:∀b∈bs++[.para (Qt row)],VZ b:=by
  intro b hb;rcases q_7.mp hb with z|z;·exact hs.1 b z
  ·rw[q_2.mp z];exact hp
 have h2:∀b∈(if Qt row=[]then bs else bs++[.para (Qt row)]),VZ b:=by
  intro b hb;split at hb;·exact hs.1 b hb
  ·exact h1 b hb
 cases a with
 |it i=>
  refine⟨hs.1,λj hj=>?_⟩;rcases q_7.mp hj with z|z;·exact hs.2 j z
  ·rw[q_2.mp z];rcases ha with q|q;·exact q
   ·cases q|bk b=>
  refine⟨λj hj=>?_,λj hj=>by cases hj⟩;rcases q_7.mp hj with z|z;·exact h2 j z
  ·rw[q_2.mp z];rcases ha with q|q;·cases b<;>first|exact q|exact q.elim
   ·cases q|brk=>exact⟨h1,λj hj=>by cases hj⟩|fin=>exact⟨h2,λj hj=>by cases hj⟩
def Qdh(as:List At):∀s,GB s->(∀a∈as,XR a\/a=.fin)->GB (as.foldl ZE s):=by induction as with|nil=>intro s h _;exact h|cons a as ih=>intro s h ha;exact ih _ (Qdl h (ha a Ja)) λx hx=>ha x (JO _ hx)
def tot(s:List Bk×List It):Nat:=(s.1.flatMap iO).length+s.2.length
def Qdm(s:List Bk×List It)(a:At)(ha:XS a\/a=.fin):tot (ZE s a)<=tot s+1:=by
 obtain⟨bs,row⟩:=s;have hc:=QaZ row;have h1:((bs++[Bk.para (Qt row)]).flatMap iO).length=(bs.flatMap iO).length+(Qt row).length:=by rw[Yc,Qe];simp[iO]
 have h2:((if Qt row=[]then bs else bs++[Bk.para (Qt row)]).flatMap iO).length<=(bs.flatMap iO).length+(Qt row).length:=by
  split;·omega
  ·rw[h1];omega
 unfold tot;cases a with
 |it i=>simp only[ZE,Qe,JV,WT];omega|bk b=>
  have hb:iO b=[]:=by
   rcases ha with q|q;·cases b<;>first|rfl|exact q.elim
   ·cases q
  simp only[ZE,Yc,Qe,WT,Y1,List.flatMap_nil,hb,Yx];omega|brk=>simp only[ZE,h1,WT];omega|fin=>simp only[ZE,WT];omega
def Qdi(as:List At):∀s,(∀a∈as,XS a\/a=.fin)->tot (as.foldl ZE s)<=tot s+as.length:=by induction as with|nil=>intro s _;exact Qz _|cons a as ih=>intro s ha;have h1:=Qdm s a (ha a Ja);have h2:=ih (ZE s a) λx hx=>ha x (JO _ hx);rw[YA,JV];omega
def RX(cs:List Int)(h:cs.length<58):∀a∈Ze cs (ZN cs)++[At.fin],XR a\/a=.fin:=by
 intro a ha;rcases q_7.mp ha with z|z;·exact .inl (CV cs _ (Kk cs (by omega)) a z)
 ·exact .inr (q_2.mp z)
def Qbd(cs:List Int)(h:cs.length<58):∀b∈U7 cs,VZ b:=(Qdh _ ([],[]) (by simp[GB]) (RX cs h)).1
def Qbf(cs:List Int)(h:cs.length<58):(U7 cs).length<=116/\((U7 cs).flatMap iO).length<=58:=by
 have h1:=(D2 (Ze cs (ZN cs)++[At.fin]) ([],[])).1;have h2:=Qdi (Ze cs (ZN cs)++[At.fin]) ([],[]) (λa ha=>by
  rcases RX cs h a ha with z|z;·exact .inl (S5 z)
  ·exact .inr z);have hl:(Ze cs (ZN cs)++[At.fin]).length<=58:=by rw[Qe,CW,OW];simp;omega
 unfold tot at h2;unfold U7 Vq;simp at h1 h2 hl⊢;omega
def Qbe(cs:List Int)(h:cs.length<58):Ta [.lst ((Ze cs (ZN cs)).map At.d)]=some (Q9 (U7 cs)):=Qdp _ (by rw[CW,OW];omega) λa ha=>S5 (CV cs _ (Kk cs (by omega)) a ha)
def PF{m M:Int}{xs:List Int}(h:m<=M)(hx:∀x∈xs,x<=M):Jx m xs<=M:=by
 rcases(PJ xs m).1 with z|z;·rw[z];exact h
 ·exact hx _ z
def Sa(m:Int)(xs:List Int):m<=Jx m xs:=(PJ xs m).2.1
def PH{m x:Int}{xs:List Int}(h:x∈xs):x<=Jx m xs:=(PJ xs m).2.2 x h
def N9(bU:List (List Str)):∀w,w<=bU.foldl (λw ns=>Jx w (W7 ns)) w:=by induction bU with|nil=>intro w;exact Ji _|cons ns bU ih=>intro w;exact Zf (Sa w _) (ih _)
def Qdf{M:Int}(bU:List (List Str))(h:∀ns∈bU,∀r∈ns,(r.length:Int)<=M):∀w,w<=M->bU.foldl (λw ns=>Jx w (W7 ns)) w<=M:=by induction bU with|nil=>intro w hw;exact hw|cons ns bU ih=>intro w hw;refine ih (λx hx=>h x (JO _ hx)) _ (PF hw λx hx=>?_);obtain⟨r,hr,rfl⟩:=q_19.mp hx;exact h ns Ja r hr
def Qdg(bU:List (List Str)):∀w,∀ns∈bU,∀r∈ns,(r.length:Int)<=bU.foldl (λw ns=>Jx w (W7 ns)) w:=by induction bU with|nil=>intro w ns h;cases h|cons n0 bU ih=>
  intro w ns h r hr;rcases q_5.mp h with z|z
  ·subst z;exact Zf (PH (m:=w) (q_19.mpr ⟨r,hr,rfl⟩)) (N9 bU _)
  ·exact ih _ ns z r hr
def Di{is:List It}{w:Str}{ns:List Str}(h:It.word w ns∈is):ns∈Vv is:=q_19.mpr ⟨_,q_47.mpr ⟨h,rfl⟩,rfl⟩
def QeY{af w M:Int}{b:Bk}(hb:VZ b)(h0:0<=af)(hM:43+af<=M)(hw:w<=M):YN af w b<=M:=by cases b with|chapter t l=>have:=hb.2;simp only[YN];split<;>omega|heading t k l=>have:=hb.1.2;simp only[YN];split<;>omega|plates n l=>exact hw|table rs l=>refine PF hw λx hx=>?_;obtain⟨r,hr,rfl⟩:=q_19.mp hx;have:=hb.2 r hr;omega|para is=>
  have hi:∀i∈is,WI i:=hb;refine Qdf _ (λns hn r hr=>?_) _ (PF (PF hw λx hx=>?_) λx hx=>?_);·have:=(Ia hi ns hn).2 r hr;omega
  ·obtain⟨i,hr,rfl⟩:=q_19.mp hx;have h1:=hi i (q_47.mp hr).1;cases i with
   |ref l a b=>have:=h1.1;have:=h1.2;simp only[T2];omega|_=>simp only[T2];omega
  ·obtain⟨i,hr,rfl⟩:=q_19.mp hx;have h1:=hi i (q_47.mp hr).1;cases i with|word w ns=>have:=h1.1.2;simp only[T6];omega|_=>simp only[T6];omega
def QeW{h M:Int}{b:Bk}(hb:VZ b)(hM:31<=M)(hh:h<=M):YM h b<=M:=by cases b with|heading t k l=>have:=hb.2;simp only[YM];split<;>omega|table rs l=>have:=hb.1;simp only[YM];split<;>omega|para is=>refine PF hh λx hx=>?_;obtain⟨ns,hn,rfl⟩:=q_19.mp hx;have:=(Ia (show∀i∈is,WI i from hb) ns hn).1;omega|_=>exact hh
def QeX(af w:Int)(b:Bk):w<=YN af w b:=by cases b with|chapter t l=>simp only[YN];split<;>omega|heading t k l=>simp only[YN];split<;>omega|plates n l=>exact Ji _|table rs l=>exact Sa _ _|para is=>exact Zf (Zf (Sa _ _) (Sa _ _)) (N9 _ _)
def QeV(h:Int)(b:Bk):h<=YM h b:=by cases b with|heading t k l=>simp only[YM];split<;>omega|table rs l=>simp only[YM];split<;>omega|para is=>exact Sa _ _|_=>exact Ji _
noncomputable def Xy(af w h:Int):It->Prop|.word x ns=>(x.length:Int)<=w/\1+(ns.length:Int)<=h/\∀r∈ns,(r.length:Int)<=w|.ref _ a b=>(a.length:Int)+af+b.length<=w|_=>True
def WE(af w h:Int):Bk->Prop|.chapter t _=>(t.length:Int)+2+af<=w|.heading t k _=>(t.length:Int)+2+af<=w/\k+1<=h|.table rs _=>(rs.length:Int)<=h/\∀r∈rs,(r.length:Int)<=w|.para is=>∀i∈is,Xy af w h i|.plates _ _=>True
def Qdd{af w h w' h':Int}{i:It}(hw:w<=w')(hh:h<=h')(f:Xy af w h i):Xy af w' h' i:=by cases i with|word x ns=>exact⟨Zf f.1 hw,Zf f.2.1 hh,λr hr=>Zf (f.2.2 r hr) hw⟩|ref l a b=>exact Zf f hw|_=>trivial
def Eo{af w h w' h':Int}{b:Bk}(hw:w<=w')(hh:h<=h')(f:WE af w h b):WE af w' h' b:=by cases b with|chapter t l=>exact Zf f hw|heading t k l=>exact⟨Zf f.1 hw,Zf f.2 hh⟩|table rs l=>exact⟨Zf f.1 hh,λr hr=>Zf (f.2 r hr) hw⟩|para is=>exact λi hi=>Qdd hw hh (f i hi)|plates n l=>trivial
def QeZ(af w h:Int)(b:Bk):WE af (YN af w b) (YM h b) b:=by cases b with
 |chapter t l=>show _<=YN _ _ _;simp only[YN];split<;>omega|heading t k l=>
  refine⟨?_,?_⟩;·simp only[YN];split<;>omega
  ·simp only[YM];split<;>omega|plates n l=>trivial|table rs l=>
  refine⟨?_,λr hr=>PH (q_19.mpr ⟨r,hr,rfl⟩)⟩;simp only[YM];split<;>omega|para is=>
  intro i hi;cases i with
  |word x ns=>
   refine⟨Zf (PH (q_19.mpr ⟨It.word x ns,q_47.mpr ⟨hi,rfl⟩,rfl⟩)) (N9 _ _),?_,λr hr=>?_⟩;·exact PH (q_19.mpr ⟨ns,Di hi,rfl⟩)
   ·exact Qdg _ _ ns (Di hi) r hr|ref l a b=>exact Zf (Zf (PH (q_19.mpr ⟨It.ref l a b,q_47.mpr ⟨hi,rfl⟩,rfl⟩)) (Sa _ _)) (N9 _ _)|_=>trivial
theorem C5(af M H:Int)(h0:0<=af)(hM:43+af<=M)(hH:31<=H):∀(bs:List Bk)(s:Int×Int),(∀b∈bs,VZ b)->s.1<=M->s.2<=H->let r:=bs.foldl (λs b=>(YN af s.1 b,YM s.2 b)) s
  s.1<=r.1/\r.1<=M/\s.2<=r.2/\r.2<=H/\∀b∈bs,WE af r.1 r.2 b
 |[],s,_,h1,h2=>⟨Ji _,h1,Ji _,h2,λ_ h=>by cases h⟩|b::bs,s,hb,h1,h2=>by
  obtain⟨a1,a2,a3,a4,a5⟩:=C5 af M H h0 hM hH bs (YN af s.1 b,YM s.2 b) (λx hx=>hb x (JO _ hx)) (QeY (hb b Ja) h0 hM h1) (QeW (hb b Ja) hH h2);refine⟨Zf (QeX _ _ _) a1,a2,Zf (QeV _ _) a3,a4,λx hx=>?_⟩;rcases q_5.mp hx with z|z;·subst z;exact Eo a1 a3 (QeZ af s.1 s.2 x)
  ·exact a5 x z
def QaH{li:Bool}{b:Bk}(hb:VZ b)(hl:(iO b).length<=1000):2<=ZM li b/\ZM li b<=10^39+3000:=by
 have:(3000:Int)<=10^39:=by decide
 cases b with
 |chapter t l=>simp only[ZM];split<;>omega|heading t k l=>simp only[ZM];split<;>omega|table rs l=>simp only[ZM];omega|plates n l=>have h1:=hb.1;have h2:=hb.2;simp only[ZM];omega|para is=>have h1:=Sr Qx is;have h2:is.length<=1000:=hl;simp only[ZM];omega
theorem Ds(li:Bool):∀(bs:List Bk)(s:Int),(∀b∈bs,VZ b/\(iO b).length<=1000)->s<=bs.foldl (λs b=>s+ZM li b) s/\bs.foldl (λs b=>s+ZM li b) s<=s+bs.length*(10^39+3000)
 |[],s,_=>by simp|b::bs,s,h=>by
  have h1:=QaH (li:=li) (h b Ja).1 (h b Ja).2;have h2:=Ds li bs (s+ZM li b) (λx hx=>h x (JO _ hx));rw[YA,JV];refine⟨by omega,Zf h2.2 ?_⟩;have:((bs.length+1:Nat):Int)*(10^39+3000)=bs.length*(10^39+3000)+(10^39+3000):=by rw[show((bs.length+1:Nat):Int)=(bs.length:Int)+1 from by omega,Int.add_mul,Int.one_mul]
  omega
def Fu{α β:Type}(f:α->β)(xs:List α)(lo hi:Option Int):J2 (xs.map f) lo hi=(J2 xs lo hi).map f:=by unfold J2;rw[Qo,List.map_take,map_drop]
def JE(ns:List Int):Bool:=decide (cell ns 3%2=1)
def dO(ns:List Int):Bool:=decide (cell ns 2%2=1)
def Z0(ns:List Int):List Bk:=Zo ns 4 2 (JE ns)
noncomputable def Z2(ns:List Int):List Bk:=U7 (Y4 ns)
noncomputable def Z8(ns:List Int):Int:=most (JE ns) (Z0 ns++Z2 ns)
noncomputable def dR(ns:List Int):Int:=Z4 (Z8 ns).toNat
noncomputable def Jv(ns:List Int):Int×Int:=IT (dR ns) (Z2 ns++Z0 ns)
noncomputable def WZ(ns:List Int):Int:=if(Z0 ns).isEmpty then(Jv ns).1 else if dR ns+2>(Jv ns).1 then dR ns+2 else(Jv ns).1
noncomputable def dW(ns:List Int):Int:=if 4+Zd (cell ns 0) 1%30>WZ ns then 4+Zd (cell ns 0) 1%30 else WZ ns
noncomputable def dH(ns:List Int):Int:=if cell ns 1%5=1 then if 2+Zd (cell ns 1) 4%59>(Jv ns).2 then 2+Zd (cell ns 1) 4%59 else(Jv ns).2 else if 2+Zd (cell ns 1) 2%5>(Jv ns).2 then 2+Zd (cell ns 1) 2%5 else(Jv ns).2
noncomputable def QK(ns:List Int):List Bk:=Zo ns (dW ns) (dH ns) (JE ns)++Z2 ns
def UD:(Str.ofString "").length=0:=by decide+kernel
def Mf(n:Int):(Y0 (Str.ofString "w") n).length=n.toNat:=by rw[IL,show(Str.ofString "w").length=1 from by decide+kernel];omega
def TU(ns:List Int)(w h:Int)(li:Bool):(Zo ns w h li).length<=3/\((Zo ns w h li).flatMap iO).length<=3:=by
 unfold Zo;split;·simp
 ·simp[iO]
def AL{n:Int}(h:1<=n/\n<=6):(10:Int)<=10^n.toNat/\(10:Int)^n.toNat<=10^6:=by
 have:n=1\/n=2\/n=3\/n=4\/n=5\/n=6:=by omega
 rcases this with q|q|q|q|q|q<;>subst q<;>decide
def Kl(ns:List Int):∀b∈Z0 ns,VZ b:=by
 intro b hb;unfold Z0 Zo at hb;have h6:=AL (SF ns);have hN:=SF ns;split at hb;·cases hb
 ·simp only[q_5,WX,or_false]at hb;rcases hb with z|z|z
  ·subst z;have:(10:Int)^6<=10^39:=by decide
   exact⟨by omega,by omega⟩
  ·subst z;refine⟨by simp,λr hr=>?_⟩;rw[List.eq_of_mem_replicate hr,UD];omega
  ·subst z;intro i hi;simp only[q_5,WX,or_false]at hi;rcases hi with z|z|z<;>subst z
   ·refine⟨?_,by simp,by simp⟩;rw[Mf];split<;>omega
   ·trivial
   ·exact⟨by rw[UD];omega,by rw[UD];omega⟩
def Kt{xs ys:List Bk}{a b:Nat}(h1:xs.length<=a/\(xs.flatMap iO).length<=a)(h2:ys.length<=b/\(ys.flatMap iO).length<=b)(h:a+b<=100000):V9 (xs++ys):=by
 refine⟨?_,?_⟩;·rw[Qe];omega
 ·rw[Yc,Qe];omega
def TK(ns:List Int):(Y4 ns).length<58:=Vh (Qbh ns) EK
def SA(ns:List Int):(Z2 ns).length<=116/\((Z2 ns).flatMap iO).length<=116:=by have:=Qbf (Y4 ns) (TK ns);exact⟨this.1,by have:=this.2;unfold Z2;omega⟩
def RU(ns:List Int):∀b∈Z2 ns,VZ b:=Qbd _ (TK ns)
def RV(ns:List Int):3<=Z8 ns/\Z8 ns<10^42:=by
 have h:=Ds (JE ns) (Z0 ns++Z2 ns) 3 (λb hb=>by
  have h1:VZ b:=by
   rcases q_7.mp hb with z|z;·exact Kl ns b z
   ·exact RU ns b z
  refine⟨h1,?_⟩;have hf:((Z0 ns++Z2 ns).flatMap iO).length<=119:=by
   rw[Yc,Qe];have h1:=(TU ns 4 2 (JE ns)).2;have h2:=(SA ns).2;unfold Z0;omega
  obtain⟨s,t,e⟩:=List.append_of_mem hb;rw[e,Yc,Y1]at hf;simp only[Qe]at hf;omega);have hl:((Z0 ns++Z2 ns).length:Int)<=119:=by
  rw[Qe];have h1:=(TU ns 4 2 (JE ns)).1;have h2:=(SA ns).1;unfold Z0;omega
 refine⟨h.1,?_⟩;have h2:Z8 ns<=3+((Z0 ns++Z2 ns).length:Int)*(10^39+3000):=h.2;have h3:((Z0 ns++Z2 ns).length:Int)*(10^39+3000)<=119*(10^39+3000):=Int.mul_le_mul_of_nonneg_right hl (by decide);have h4:(3:Int)+119*(10^39+3000)<10^42:=by decide
 omega
def TL(ns:List Int):1<=dR ns/\dR ns<=42:=by
 have h:=RV ns;have h1:=SE (Z8 ns).toNat;have h2:Z4 (Z8 ns).toNat<=42:=(O5 (by decide) (by decide)).mpr (by
  have:((10^42:Nat):Int)=10^42:=by decide
  omega);unfold dR;omega
def RW(ns:List Int):4<=(Jv ns).1/\(Jv ns).1<=85/\2<=(Jv ns).2/\(Jv ns).2<=31/\∀b∈Z2 ns++Z0 ns,WE (dR ns) (Jv ns).1 (Jv ns).2 b:=by
 have hr:=TL ns;exact C5 (dR ns) 85 31 (by omega) (by omega) (by decide) (Z2 ns++Z0 ns) (4,2) (λb hb=>by
  rcases q_7.mp hb with z|z;·exact RU ns b z
  ·exact Kl ns b z) (by decide) (by decide)
def E2(ns:List Int):(Jv ns).1<=WZ ns/\WZ ns<=85:=by
 have h1:=RW ns;have h2:=TL ns;unfold WZ;split;·omega
 ·split<;>omega
def Ug(ns:List Int):WZ ns<=dW ns/\4<=dW ns/\dW ns<=90:=by have h1:=RW ns;have h2:=E2 ns;unfold dW;split<;>omega
def XC(ns:List Int):(Jv ns).2<=dH ns/\2<=dH ns/\dH ns<=60:=by
 have h1:=RW ns;unfold dH;split;·split<;>omega
 ·split<;>omega
def LI{xs ys:List Bk}(h:xs.length+ys.length<=lI):D.add (Q9 xs) (Q9 ys)=some (Q9 (xs++ys)):=U0 (f:=Bk.d) h
def QeS(xs:List Bk):D.neO (Q9 xs) (.lst [])=QS (!xs.isEmpty):=C3 Qcy (by decide) xs
def QaW(ns:List Int)(e:QG)(hc:XY 1 [1] e=[none,QA ((YG ns).map .int)])(a:Q7)(ha:a e=Q0 (Zd (cell ns 5) 29%XF)):JL 1 [1] (VE a) (gS 0) (Jt true) (ZG (eV 1) (Jn (eV 0) (QB D.len (eV 1)))) e=QA ((Y4 ns).map .int):=by
 obtain⟨m,em⟩:∃m:Nat,Zd (cell ns 5) 29%XF=m:=⟨(Zd (cell ns 5) 29%XF).toNat,by have:=XM (Zd (cell ns 5) 29) (show(XF:Int)≠0 by decide);omega⟩;have hm:m<=58:=by
  have h1:=Xq (Zd (cell ns 5) 29) (show(0:Int)<XF by decide);have:=EK;omega
 rw[Va (λi:Nat=>D.int (0+(i:Int))) (List.range m) (λe=>∃v,e=[v,QA ((YG ns).map .int)]) (λ_=>true) (λi:Nat=>.int ((YG ns).getD ((i:Int)%((YG ns).length:Int)).toNat 0)) (by unfold VE;rw[ha,em];exact MN m (by omega)) (lB (by simp;omega)) ⟨none,hc⟩ (by
  rintro i hi e⟨v,rfl⟩;refine⟨[Q0 (0+(i:Int)),QA ((YG ns).map .int)],rfl,⟨_,rfl⟩,rfl,λ_=>?_⟩;have hn:(0:Int)<((YG ns).length:Int):=by unfold YG;simp only[Qe,JV,WT];omega
  have ln:D.len (.lst ((YG ns).map .int))=some (.int (YG ns).length):=by
   show some (D.int ((YG ns).map D.int).length)=_;rw[Qo]
  have md:D.mod (.int (i:Int)) (.int ((YG ns).length:Int))=Q0 ((i:Int)%((YG ns).length:Int)):=Xl hn;have gX:=Wz (f:=D.int) (YG ns) ((i:Int)%((YG ns).length:Int)) 0 (XM _ (by omega)) (Xq _ hn);generalize(YG ns).map D.int=EV at*;simp[Q5,eV,QB,ln,md,gX])];rw[XH];unfold Y4;rw[em,map_map];rfl
def QaD(cs:List Int)(A:Int×Nat->At)(hl:cs.length<=58)(e:QG)(h2:eV 2 e=QA (cs.map .int))(hA:∀p∈cs.zipIdx,∀j:Int,j=p.2->Uk [.int p.1,.int j]=some (A p).d):JL 2 [] (Xh (eV 2)) (JQ [gS 0,gS 1]) (Jt true) (eK Uk (Qc (eV 1) (eV 0))) e=QA ((cs.zipIdx.map A).map At.d):=by rw[Va (λp:Int×Nat=>D.tup [.int p.2,.int p.1]) cs.zipIdx (λe=>∃u v,e=[u,v]) (λ_=>true) (λp:Int×Nat=>(A p).d) (by unfold Xh;rw[h2];show some (Wc 0 (cs.map .int))=_;rw[Rf]) (lB (by simp;omega)) ⟨none,none,rfl⟩ (by rintro p hp e⟨u,v,rfl⟩;obtain⟨j,ej⟩:∃j:Int,(p.2:Int)=j:=⟨_,rfl⟩;have h:=hA p hp j ej.symm;rw[ej];refine⟨[Q0 j,Q0 p.1],rfl,⟨_,_,rfl⟩,rfl,λ_=>?_⟩;generalize(A p).d=X at*;simp only[eK,lC,lN,eV,X4,WU,X5,ZU,WV,h])];rw[XH,map_map];rfl
def QaC(ns:List Int)(e:QG)(h2:eV 2 e=QA ((Y4 ns).map .int)):JL 2 [] (Xh (eV 2)) (JQ [gS 0,gS 1]) (Jt true) (eK Uk (Qc (eV 1) (eV 0))) e=QA ((ZN (Y4 ns)).map At.d):=by have hl:=TK ns;exact QaD (Y4 ns) (λp=>Wm p.1 p.2) (by omega) e h2 (λp hp j ej=>by rw[ej];exact(LQ p.1 p.2 (by have:=Dm hp;omega)).1)
def QcF(ns:List Int):Rg [.lst (ns.map .int)]=some (.tup [Q9 (QK ns),.tup [.int (dW ns),.int (dH ns),.bl (dO ns),.bl (JE ns)],.int (dR ns)]):=by
 have cl:=TK ns;have hB:=SA ns;have hE:=TU ns 4 2 (JE ns);have hE2:=TU ns (dW ns) (dH ns) (JE ns);have hm:=RV ns;have hn:=RW ns;have hw:=Ug ns;have hh:=XC ns;have eE:Zo ns 4 2 (JE ns)=Z0 ns:=rfl;rw[eE]at hE;have c0:VR [.lst (ns.map .int),.int 0]=Q0 (cell ns 0):=S9 ns 0;have c1:VR [.lst (ns.map .int),.int 1]=Q0 (cell ns 1):=S9 ns 1;have c2:VR [.lst (ns.map .int),.int 2]=Q0 (cell ns 2):=S9 ns 2;have c3:VR [.lst (ns.map .int),.int 3]=Q0 (cell ns 3):=S9 ns 3;have c5:VR [.lst (ns.map .int),.int 5]=Q0 (cell ns 5):=S9 ns 5;have kj:=Tg (cell ns 5) 29 (by decide) (by decide);have m1:=Tg (cell ns 0) 1 (by decide) (by decide);have m2:=Tg (cell ns 1) 2 (by decide) (by decide);have m4:=Tg (cell ns 1) 4 (by decide) (by decide);have cu:ZD (.lst (ns.map .int)) none (some 63)=QA ((J2 ns none (some 63)).map .int):=by show some (D.lst (J2 (ns.map D.int) none (some 63)))=_;rw[Fu]
 have ev:D.add (.lst ((J2 ns none (some 63)).map .int)) (.lst [.int 7])=QA ((YG ns).map .int):=U0 (f:=D.int) (ys:=[7]) (lB (by have:=Qa7 ns;simp;omega));have pe:=Qhf (ZN (Y4 ns)) (Y4 ns) (OW _) (by rw[OW];omega) (λa ha=>S5 (Kk _ (by omega) a ha));have ge:=Qbe (Y4 ns) cl;have ee:=EN ns 4 2 false (JE ns) (by decide) (by decide);have lZ:=EN ns (dW ns) (dH ns) (dO ns) (JE ns) (by omega) (by omega);have fw:V9 (Z0 ns++Z2 ns):=Kt hE hB (by decide);have lY:V9 (Z2 ns++Z0 ns):=Kt hB hE (by decide);have a1:D.add (Q9 (Z0 ns)) (Q9 (Z2 ns))=some (Q9 (Z0 ns++Z2 ns)):=LI (lB (by omega));have a2:D.add (Q9 (Z2 ns)) (Q9 (Z0 ns))=some (Q9 (Z2 ns++Z0 ns)):=LI (lB (by omega));have a3:D.add (Q9 (Zo ns (dW ns) (dH ns) (JE ns))) (Q9 (Z2 ns))=some (Q9 (QK ns)):=LI (lB (by omega));have mo:Ri [Q9 (Z0 ns++Z2 ns),.bl (JE ns)]=Q0 (Z8 ns):=QeK _ _ fw;have ne:Rj [Q9 (Z2 ns++Z0 ns),.int (dR ns)]=some (.tup [.int (Jv ns).1,.int (Jv ns).2]):=Qe0 _ _ lY (λb hb=>by
  rcases q_7.mp hb with z|z;·exact RU ns b z
  ·exact Kl ns b z);have nb:=QeS (Z0 ns);have gQ:D.strI (.int (Z8 ns))=QQ (Str.ofString (toString (Z8 ns))):=if_pos (by
  have:(10:Nat)^42<2^1900:=by decide+kernel
  have:((10^42:Nat):Int)=10^42:=by decide
  omega);have dt:(Str.ofString (toString (Z8 ns))).length=Z4 (Z8 ns).toNat:=by
  have:Z8 ns=((Z8 ns).toNat:Int):=by omega
  conv=>lhs;rw[this]
  exact Hl _
 have hr:=TL ns;have dS:D.len (.str (Str.ofString (toString (Z8 ns))))=Q0 (dR ns):=by rw[Yp (by rw[dt];have:dR ns=Z4 (Z8 ns).toNat:=rfl;omega),dt];rfl
 have l6:(if(!(Z0 ns).isEmpty)=true then(if dR ns+2>(Jv ns).1 then dR ns+2 else(Jv ns).1)else(Jv ns).1)=WZ ns:=by unfold WZ;cases(Z0 ns).isEmpty<;>rfl
 have ma:D.eqO (.int (cell ns 3%2)) (.int 1)=QS (JE ns):=by simp[D.eqO,J6,J9,D.cmp,JE]
 have l9:D.eqO (.int (cell ns 2%2)) (.int 1)=QS (dO ns):=by simp[D.eqO,J6,J9,D.cmp,dO]
 have iI:D.eqO (.int (cell ns 1%5)) (.int 1)=QS (decide (cell ns 1%5=1)):=by simp[D.eqO,J6,J9,D.cmp]
 unfold Rg LV;refine JS rfl ?_;refine st (e1:=[QA (ns.map .int),QA ((YG ns).map .int),none,none,none,none,none,none,none,none,none,none]) (J0 (by simp only[Q5,JM,eV,sD,ZT,map_nil,List.cons_append,nil_append,X4,X5,ZU,JX,JJ,eC,cu,QF,lC,lN,WV,ev]) rfl) ?_;refine st (e1:=[QA (ns.map .int),QA ((YG ns).map .int),QA ((Y4 ns).map .int),none,none,none,none,none,none,none,none,none]) (J0 (QaW ns _ rfl _ (by simp[Q5,eK,lC,lN,eV,eC,c5,kj,Y8,XF])) rfl) ?_;have ac:=QaC ns [QA (ns.map .int),QA ((YG ns).map .int),QA ((Y4 ns).map .int),none,none,none,none,none,none,none,none,none] rfl;generalize hCE:(Y4 ns).map D.int=CE at*;generalize hEV:(YG ns).map D.int=EV at*;refine st (e1:=[QA (ns.map .int),QA EV,QA CE,some (Q9 (Z2 ns)),none,none,none,none,none,none,none,none]) (J0 (by have lX:Ta [.lst ((Ze (Y4 ns) (ZN (Y4 ns))).map At.d)]=some (Q9 (Z2 ns)):=ge;generalize(Ze (Y4 ns) (ZN (Y4 ns))).map At.d=P at*;generalize(ZN (Y4 ns)).map At.d=A at*;simp only[eK,lC,lN,ac,eV,X4,WU,X5,ZU,WV,pe,lX]) rfl) ?_;refine st (e1:=[QA (ns.map .int),QA EV,QA CE,some (Q9 (Z2 ns)),QS (JE ns),none,none,none,none,none,none,none]) (J0 (by simp[Q5,eK,lC,lN,eV,eC,c3,Y8,ma]) rfl) ?_;rw[eE]at ee;generalize Str.ofString (toString (Z8 ns))=SM at*;generalize Q9 (QK ns)=ALL at*;generalize Q9 (Zo ns (dW ns) (dH ns) (JE ns))=ED at*;generalize Q9 (Z0 ns++Z2 ns)=EB at*;generalize Q9 (Z2 ns++Z0 ns)=BE at*;generalize Q9 (Z0 ns)=E0 at*;generalize Q9 (Z2 ns)=BK at*;refine st (e1:=[QA (ns.map .int),QA EV,QA CE,some BK,QS (JE ns),some E0,none,none,none,none,none,none]) (J0 (by simp[eK,QN,lC,lN,eV,eC,ee]) rfl) ?_;refine st (e1:=[QA (ns.map .int),QA EV,QA CE,some BK,QS (JE ns),some E0,Q0 (dR ns),none,none,none,none,none]) (J0 (by simp[QB,Q5,eK,lC,lN,eV,a1,mo,gQ,dS]) rfl) ?_;refine st (e1:=[QA (ns.map .int),QA EV,QA CE,some BK,QS (JE ns),some E0,Q0 (dR ns),some (.int (Jv ns).1),some (.int (Jv ns).2),none,none,none]) (J0 (d:=.tup [.int (Jv ns).1,.int (Jv ns).2]) (by simp only[Q5,eK,lC,lN,eV,X4,WU,X5,ZU,WV,a2,ne]) rfl) ?_;refine st (e1:=[QA (ns.map .int),QA EV,QA CE,some BK,QS (JE ns),some E0,Q0 (dR ns),Q0 (WZ ns),some (.int (Jv ns).2),none,none,none]) (by rw[<-l6];cases q:(Z0 ns).isEmpty<;>rw[q]at nb<;>simp[QD,Q5,eV,QF,lN,nb,Qj,Q6,gS,eC,add_int,D.max2,QE]) ?_;refine st (e1:=[QA (ns.map .int),QA EV,QA CE,some BK,QS (JE ns),some E0,Q0 (dR ns),Q0 (WZ ns),some (.int (Jv ns).2),Q0 (dW ns),none,none]) (J0 (by unfold dW;simp[Q5,eV,eC,eK,lC,lN,c0,m1,Y8,add_int,D.max2]) rfl) ?_;obtain⟨H0,jU⟩:∃H0:Int,(if 2+Zd (cell ns 1) 2%5>(Jv ns).2 then 2+Zd (cell ns 1) 2%5 else(Jv ns).2)=H0:=⟨_,rfl⟩;refine st (e1:=[QA (ns.map .int),QA EV,QA CE,some BK,QS (JE ns),some E0,Q0 (dR ns),Q0 (WZ ns),some (.int (Jv ns).2),Q0 (dW ns),Q0 H0,none]) (J0 (by rw[<-jU];simp[Q5,eV,eC,eK,lC,lN,c1,m2,Y8,add_int,D.max2]) rfl) ?_;refine st (e1:=[QA (ns.map .int),QA EV,QA CE,some BK,QS (JE ns),some E0,Q0 (dR ns),Q0 (WZ ns),some (.int (Jv ns).2),Q0 (dW ns),Q0 (dH ns),none]) (by
  unfold dH;by_cases z:cell ns 1%5=1
  ·rw[if_pos z];rw[z]at iI;simp[QD,Q5,eV,eC,eK,lC,lN,c1,m4,Y8,iI,z,Qj,Q6,gS,add_int,D.max2]
  ·rw[if_neg z,jU];simp[QD,Q5,eV,eC,eK,lC,lN,c1,Y8,iI,z,Qj,QE]) ?_;refine st (e1:=[QA (ns.map .int),QA EV,QA CE,some BK,QS (JE ns),some E0,Q0 (dR ns),Q0 (WZ ns),some (.int (Jv ns).2),Q0 (dW ns),Q0 (dH ns),some (.tup [.int (dW ns),.int (dH ns),.bl (dO ns),.bl (JE ns)])]) (J0 (by simp[QN,Q5,eV,eC,eK,lC,lN,c2,Y8,l9]) rfl) ?_;refine ret ?_;simp[QN,Q5,eV,eK,lC,lN,lZ,a3]
theorem EY:∀xs:List D,(∀x∈xs,D.eq x x=some true)->D.eqL xs xs=some true|[],_=>Zp|x::xs,h=>by rw[Y5,h x Ja,EY xs λy hy=>h y (JO _ hy)];rfl
def Qc2(x:Int):D.eq (.int x) (.int x)=some true:=by rw[J9];simp
def Qc3{α:Type}{f:α->D}(h:∀a,D.eq (f a) (f a)=some true)(xs:List α):D.eq (.lst (xs.map f)) (.lst (xs.map f))=some true:=by rw[Zz];refine EY _ λx hx=>?_;obtain⟨a,_,rfl⟩:=q_19.mp hx;exact h a
def Xa(ns:List Int):V9 (QK ns):=Kt (TU ns _ _ _) (SA ns) (by decide)
structure Sta where
 p:Int
 l:Int
 u:Int
 f:Int
structure Plc where
 p:Int
 l:Int
 c:Int
noncomputable def Sta.d(s:Sta):D:=.tup [.int s.p,.int s.l,.int s.u,.int s.f]
noncomputable def Plc.d(s:Plc):D:=.tup [.int s.p,.int s.l,.int s.c]
noncomputable def QL(w h:Int)(o li:Bool):D:=.tup [.int w,.int h,.bl o,.bl li]
def ZF(x:Plc×Sta):D:=.tup [x.1.d,x.2.d]
def p0(x:Plc×Sta):D.ix (ZF x) (.int 0)=some x.1.d:=rfl
def p1(x:Plc×Sta):D.ix (ZF x) (.int 1)=some x.2.d:=rfl
noncomputable def JG(w h:Int)(s:Sta)(n r:Int):Plc×Sta:=if(s.u=0\/s.u+1+n<=w)/\s.l+s.f+(1+r)<=h then(⟨s.p,s.l,if s.u=0 then 0 else s.u+1⟩,⟨s.p,s.l,(if s.u=0 then 0 else s.u+1)+n,s.f+r⟩)else if 0<s.u/\s.l+s.f+(2+r)<=h then(⟨s.p,s.l+1,0⟩,⟨s.p,s.l+1,0+n,s.f+r⟩)else(⟨s.p+1,0,0⟩,⟨s.p+1,0,0+n,r⟩)
def Qdy(w h:Int)(o li:Bool)(s:Sta)(n:Int):Ov [QL w h o li,s.d,.int n]=QS (decide (s.u=0\/s.u+1+n<=w)):=by unfold Ov Lq QL Sta.d;by_cases h1:s.u=0<;>by_cases h2:s.u+1+n<=w<;>simp[Jk,JM,ZD,lI,QV,sD,sQ,QD,QI,V2,Q6,ZV,Zg,QE,V1,YD,gS,JQ,Z9,eV,eC,Q5,QB,JT,Qn,Qa,Zb,Zy,QN,QF,eK,lN,lC,Zn,JX,JJ,Yi,D.len,D.lt,D.le,D.gt,D.ge,D.add,D.sub,D.ix,D.eqO,D.neO,D.cmp,D.cmpN,D.inst,ZX,D.isT,D.intB,D.min2,D.max2,D.neg,D.addI,Qj,Yv,Yn,Yw,Jf,Jq,V3,V4,V6,V5,Yl,Yk,Yj,Yg,Ys,Y3,YW,YV,J6,JF,ZP,ZO,ZZ,ZI,D.rng,D.its,D.itsT,J9,Ym,JC,YX,Zz,Zp,Y5,JN,h1,h2]
def IA(w h:Int)(o li:Bool)(s:Sta)(n:Int):SK [QL w h o li,s.d,.int n]=QS (decide (s.l+s.f+n<=h)):=by unfold SK Lp QL Sta.d;simp[Jk,JM,ZD,lI,QV,sD,sQ,QD,QI,V2,Q6,ZV,Zg,QE,V1,YD,gS,JQ,Z9,eV,eC,Q5,QB,JT,Qn,Qa,Zb,Zy,QN,QF,eK,lN,lC,Zn,JX,JJ,Yi,D.len,D.lt,D.le,D.gt,D.ge,D.add,D.sub,D.ix,D.eqO,D.neO,D.cmp,D.cmpN,D.inst,ZX,D.isT,D.intB,D.min2,D.max2,D.neg,D.addI,Qj,Yv,Yn,Yw,Jf,Jq,V3,V4,V6,V5,Yl,Yk,Yj,Yg,Ys,Y3,YW,YV,J6,JF,ZP,ZO,ZZ,ZI,D.rng,D.its,D.itsT,J9,Ym,JC,YX,Zz,Zp,Y5,JN]
def Cf(w h:Int)(o li:Bool)(s:Sta)(n r:Int):Rx [QL w h o li,s.d,.int n,.int r]=some (ZF (JG w h s n r)):=by
 have a1:=Qdy w h o li s n;have a2:=IA w h o li s (1+r);have a3:=IA w h o li s (2+r);have i0:D.ix s.d (.int 0)=Q0 s.p:=rfl;have i1:D.ix s.d (.int 1)=Q0 s.l:=rfl;have i2:D.ix s.d (.int 2)=Q0 s.u:=rfl;have i3:D.ix s.d (.int 3)=Q0 s.f:=rfl;have wa:∀a b c d e:Int,SU [.int a,.int b,.int c,.int d,.int e]=some (ZF (⟨a,b,c⟩,⟨a,b,c+d,e⟩)):=λa b c d e=>by
  unfold SU KY ZF Plc.d Sta.d;simp[Jk,JM,ZD,lI,QV,sD,sQ,QD,QI,V2,Q6,ZV,Zg,QE,V1,YD,gS,JQ,Z9,eV,eC,Q5,QB,JT,Qn,Qa,Zb,Zy,QN,QF,eK,lN,lC,Zn,JX,JJ,Yi,D.len,D.lt,D.le,D.gt,D.ge,D.add,D.sub,D.ix,D.eqO,D.neO,D.cmp,D.cmpN,D.inst,ZX,D.isT,D.intB,D.min2,D.max2,D.neg,D.addI,Qj,Yv,Yn,Yw,Jf,Jq,V3,V4,V6,V5,Yl,Yk,Yj,Yg,Ys,Y3,YW,YV,J6,JF,ZP,ZO,ZZ,ZI,D.rng,D.its,D.itsT,J9,Ym,JC,YX,Zz,Zp,Y5]
 have eu:D.eqO (.int s.u) (.int 0)=QS (decide (s.u=0)):=by simp[D.eqO,J6,J9,D.cmp]
 have gu:D.gt (.int s.u) (.int 0)=QS (decide (0<s.u)):=rfl;unfold Rx KJ JG;generalize Sta.d s=σ at*;generalize QL w h o li=S at*;refine JS rfl ?_;refine st (e1:=[some S,some σ,Q0 n,Q0 r,Q0 s.p,none,none,none,none]) (J0 (Q1 rfl rfl i0) rfl) ?_;refine st (e1:=[some S,some σ,Q0 n,Q0 r,Q0 s.p,Q0 s.l,none,none,none]) (J0 (Q1 rfl rfl i1) rfl) ?_;refine st (e1:=[some S,some σ,Q0 n,Q0 r,Q0 s.p,Q0 s.l,Q0 s.u,none,none]) (J0 (Q1 rfl rfl i2) rfl) ?_;refine st (e1:=[some S,some σ,Q0 n,Q0 r,Q0 s.p,Q0 s.l,Q0 s.u,Q0 (s.f+r),none]) (J0 (Q1 (Q1 rfl rfl i3) rfl rfl) rfl) ?_;by_cases h1:(s.u=0\/s.u+1+n<=w)/\s.l+s.f+(1+r)<=h
 ·rw[if_pos h1];refine Y2 (JR (Ye (YE rfl rfl rfl (by rw[a1,Z6 h1.1])) (YE rfl rfl (Q1 rfl rfl rfl) (by rw[a2,Z6 h1.2]))) ?_);refine st (e1:=[some S,some σ,Q0 n,Q0 r,Q0 s.p,Q0 s.l,Q0 s.u,Q0 (s.f+r),Q0 (if s.u=0 then 0 else s.u+1)]) ?_ ?_
  ·refine J0 ?_ rfl;unfold Zb;rw[show QO (eV 6) (Q4 0) [some S,some σ,Q0 n,Q0 r,Q0 s.p,Q0 s.l,Q0 s.u,Q0 (s.f+r),none]=QS (decide (s.u=0))from Q1 rfl rfl eu,Qj];by_cases z:s.u=0;·rw[Z6 z,if_pos rfl,if_pos z];rfl
   ·rw[JU z,if_neg (by decide),if_neg z];rfl
  ·refine ret ?_;simp only[eK,lC,lN,eV,X4,WU,X5,ZU,WV,wa]
 ·rw[if_neg h1];refine st (e1:=[some S,some σ,Q0 n,Q0 r,Q0 s.p,Q0 s.l,Q0 s.u,Q0 (s.f+r),none]) ?_ ?_
  ·refine QY ?_ rfl;by_cases z:s.u=0\/s.u+1+n<=w;·exact Ye (YE rfl rfl rfl (by rw[a1,Z6 z])) (YE rfl rfl (Q1 rfl rfl rfl) (by rw[a2,JU λq=>h1 ⟨z,q⟩]))
   ·exact VM (YE rfl rfl rfl (by rw[a1,JU z]))
  ·by_cases h2:0<s.u/\s.l+s.f+(2+r)<=h
   ·rw[if_pos h2];refine Y2 (JR (Ye (Q1 rfl rfl (by rw[gu,Z6 h2.1])) (YE rfl rfl (Q1 rfl rfl rfl) (by rw[a3,Z6 h2.2]))) (ret ?_));simp only[eK,Q5,eC,lC,lN,eV,X4,WU,X5,ZU,WV,add_int,wa]
   ·rw[if_neg h2];refine st (e1:=[some S,some σ,Q0 n,Q0 r,Q0 s.p,Q0 s.l,Q0 s.u,Q0 (s.f+r),none]) ?_ ?_
    ·refine QY ?_ rfl;by_cases z:0<s.u;·exact Ye (Q1 rfl rfl (by rw[gu,Z6 z])) (YE rfl rfl (Q1 rfl rfl rfl) (by rw[a3,JU λq=>h2 ⟨z,q⟩]))
     ·exact VM (Q1 rfl rfl (by rw[gu,JU z]))
    ·refine ret ?_;simp only[eK,Q5,eC,lC,lN,eV,X4,WU,X5,ZU,WV,add_int,wa]
noncomputable def endLine(s:Sta):Sta:=if s.u=0 then s else⟨s.p,s.l+1,0,s.f⟩
def EO(s:Sta):Ro [s.d]=some (endLine s).d:=by unfold Ro Lk endLine;by_cases z:s.u=0<;>simp[Jk,JM,ZD,lI,QV,sD,sQ,QD,QI,V2,Q6,ZV,Zg,QE,V1,YD,gS,JQ,Z9,eV,eC,Q5,QB,JT,Qn,Qa,Zb,Zy,QN,QF,eK,lN,lC,Zn,JX,JJ,Yi,D.len,D.lt,D.le,D.gt,D.ge,D.add,D.sub,D.ix,D.eqO,D.neO,D.cmp,D.cmpN,D.inst,ZX,D.isT,D.intB,D.min2,D.max2,D.neg,D.addI,Qj,Yv,Yn,Yw,Jf,Jq,V3,V4,V6,V5,Yl,Yk,Yj,Yg,Ys,Y3,YW,YV,J6,JF,ZP,ZO,ZZ,ZI,D.rng,D.its,D.itsT,J9,Ym,JC,YX,Zz,Zp,Y5,Sta.d,JN,z]
def Ju(p:Int):Sta:=⟨p,0,0,0⟩
def S7(p:Int):UG [.int p]=some (Ju p).d:=by unfold UG Li;simp[Jk,JM,ZD,lI,QV,sD,sQ,QD,QI,V2,Q6,ZV,Zg,QE,V1,YD,gS,JQ,Z9,eV,eC,Q5,QB,JT,Qn,Qa,Zb,Zy,QN,QF,eK,lN,lC,Zn,JX,JJ,Yi,D.len,D.lt,D.le,D.gt,D.ge,D.add,D.sub,D.ix,D.eqO,D.neO,D.cmp,D.cmpN,D.inst,ZX,D.isT,D.intB,D.min2,D.max2,D.neg,D.addI,Qj,Yv,Yn,Yw,Jf,Jq,V3,V4,V6,V5,Yl,Yk,Yj,Yg,Ys,Y3,YW,YV,J6,JF,ZP,ZO,ZZ,ZI,D.rng,D.its,D.itsT,J9,Ym,JC,YX,Zz,Zp,Y5,Sta.d,Ju]
def Jm(h:Int)(s:Sta)(rows keep:Int):Plc×Sta:=let t:=if(endLine s).l+(endLine s).f+(rows+keep)<=h then endLine s else Ju ((endLine s).p+1)
 (⟨t.p,t.l,0⟩,⟨t.p,t.l+rows,0,t.f⟩)
def MG(w h:Int)(o li:Bool)(s:Sta)(rows keep:Int):Tc [QL w h o li,s.d,.int rows,.int keep]=some (ZF (Jm h s rows keep)):=by
 have a1:=EO s;have a2:=IA w h o li (endLine s) (rows+keep);have a3:=S7 ((endLine s).p+1);unfold Tc KH Jm;generalize endLine s=t at*;generalize Sta.d s=σ at*;have i0:D.ix t.d (.int 0)=Q0 t.p:=rfl;generalize QL w h o li=S at*;refine JS rfl ?_;refine st (e1:=[some S,some σ,Q0 rows,Q0 keep,some t.d,none]) (J0 (JD rfl a1) rfl) ?_;obtain⟨t2,e2⟩:∃t2,(if t.l+t.f+(rows+keep)<=h then t else Ju (t.p+1))=t2:=⟨_,rfl⟩;refine st (e1:=[some S,some σ,Q0 rows,Q0 keep,some t2.d,none]) ?_ ?_
 ·by_cases z:t.l+t.f+(rows+keep)<=h
  ·rw[if_pos z]at e2;subst e2;exact QY (Th (b:=true) (YE rfl rfl (Q1 rfl rfl rfl) (by rw[a2,Z6 z]))) rfl
  ·rw[if_neg z]at e2;subst e2;exact JR (Th (b:=false) (YE rfl rfl (Q1 rfl rfl rfl) (by rw[a2,JU z]))) (J0 (JD (Q1 (Q1 rfl rfl i0) rfl rfl) a3) rfl)
 ·simp only[e2];simp[Jk,JM,ZD,lI,QV,sD,sQ,QD,QI,V2,Q6,ZV,Zg,QE,V1,YD,gS,JQ,Z9,eV,eC,Q5,QB,JT,Qn,Qa,Zb,Zy,QN,QF,eK,lN,lC,Zn,JX,JJ,Yi,D.len,D.lt,D.le,D.gt,D.ge,D.add,D.sub,D.ix,D.eqO,D.neO,D.cmp,D.cmpN,D.inst,ZX,D.isT,D.intB,D.min2,D.max2,D.neg,D.addI,Qj,Yv,Yn,Yw,Jf,Jq,V3,V4,V6,V5,Yl,Yk,Yj,Yg,Ys,Y3,YW,YV,J6,JF,ZP,ZO,ZZ,ZI,D.rng,D.its,D.itsT,J9,Ym,JC,YX,Zz,Zp,Y5,Sta.d,Plc.d,ZF,JN]
noncomputable def Jc(s:Sta):Sta:=if s.l=0/\s.u=0/\s.f=0 then s else Ju (s.p+1)
def C8(s:Sta):Rv [s.d]=some (Jc s).d:=by
 have b0:=S7 s.p;have b1:=S7 (s.p+1);unfold Rv K9 Jc;have i0:D.ix s.d (.int 0)=Q0 s.p:=rfl;have eq:D.eqO s.d (Ju s.p).d=QS (decide (s.l=0/\s.u=0/\s.f=0)):=by unfold Sta.d Ju;by_cases h1:s.l=0<;>by_cases h2:s.u=0<;>by_cases h3:s.f=0<;>simp[D.eqO,ZP,ZI,ZZ,J6,YX,Y5,Zp,J9,D.cmp,OJ,h1,h2,h3]
 refine JS rfl ?_;by_cases z:s.l=0/\s.u=0/\s.f=0;·rw[if_pos z];exact Y2 (JR (Q1 (x:=s.d) rfl (JD (Q1 (x:=s.d) rfl rfl i0) b0) (by rw[eq,Z6 z])) (ret rfl))
 ·rw[if_neg z];exact st (QY (Q1 (x:=s.d) rfl (JD (Q1 (x:=s.d) rfl rfl i0) b0) (by rw[eq,JU z])) rfl) (ret (JD (Q1 (Q1 (x:=s.d) rfl rfl i0) rfl rfl) b1))
def ZA(o:Bool)(s:Sta):Sta:=if o=true/\(Jc s).p%2=0 then Ju ((Jc s).p+1)else Jc s
def C6(w h:Int)(o li:Bool)(s:Sta):Ru [QL w h o li,s.d]=some (ZA o s).d:=by
 have a1:=C8 s;have b1:=S7 ((Jc s).p+1);unfold Ru K8 ZA;generalize Jc s=t at*;have i0:D.ix t.d (.int 0)=Q0 t.p:=rfl;have io:D.ix (QL w h o li) (.int 2)=QS o:=rfl;have em:D.eqO (.int (t.p%2)) (.int 0)=QS (decide (t.p%2=0)):=by simp[D.eqO,J6,J9,D.cmp]
 generalize QL w h o li=S at*;refine JS rfl ?_;refine st (J0 (JD rfl a1) rfl) ?_;by_cases z:o=true/\t.p%2=0;·rw[if_pos z];exact Y2 (JR (Ye (Q1 rfl rfl (by rw[io,z.1])) (Q1 (Q1 (Q1 (x:=t.d) rfl rfl i0) rfl (Y8 _ (by decide))) rfl (by rw[em,Z6 z.2]))) (ret (JD (Q1 (Q1 (x:=t.d) rfl rfl i0) rfl rfl) b1)))
 ·rw[if_neg z];refine st (QY ?_ rfl) (ret rfl);cases o with|false=>exact VM (Q1 rfl rfl io)|true=>exact Ye (Q1 rfl rfl io) (Q1 (Q1 (Q1 (x:=t.d) rfl rfl i0) rfl (Y8 _ (by decide))) rfl (by rw[em,JU λq=>z ⟨rfl,q⟩]))
def Io(s:Sta)(n:Int):Plc×Sta:=(⟨(Jc s).p,0,0⟩,Ju ((Jc s).p+n))
def Qhu(s:Sta)(n:Int):N3 [s.d,.int n]=some (ZF (Io s n)):=by have a1:=C8 s;have b1:=S7 ((Jc s).p+n);unfold N3 KI Io;generalize Jc s=t at*;have i0:D.ix t.d (.int 0)=Q0 t.p:=rfl;refine JS rfl ?_;refine st (e1:=[some s.d,Q0 n,Q0 t.p]) (J0 (Q1 (JD rfl a1) rfl i0) rfl) (ret ?_);simp only[QN,lC,lN,eV,eC,eK,Q5,X4,WU,X5,ZU,WV,add_int,b1,ZF,Plc.d]
noncomputable def Yo:Bk->Bool|.chapter _ _=>true|.heading _ _ _=>true|_=>false
def NG(b:Bk):Xf [b.d]=QS (Yo b):=by unfold Xf Lw;cases b<;>simp[Jk,JM,ZD,lI,QV,sD,sQ,QD,QI,V2,Q6,ZV,Zg,QE,V1,YD,gS,JQ,Z9,eV,eC,Q5,QB,JT,Qn,Qa,Zb,Zy,QN,QF,eK,lN,lC,Zn,JX,JJ,Yi,D.len,D.lt,D.le,D.gt,D.ge,D.add,D.sub,D.ix,D.eqO,D.neO,D.cmp,D.cmpN,D.inst,ZX,D.isT,D.intB,D.min2,D.max2,D.neg,D.addI,Qj,Yv,Yn,Yw,Jf,Jq,V3,V4,V6,V5,Yl,Yk,Yj,Yg,Ys,Y3,YW,YV,J6,JF,ZP,ZO,ZZ,ZI,D.rng,D.its,D.itsT,J9,Ym,JC,YX,Zz,Zp,Y5,JN,D.inO,Zq,inD,Yo]
def NF(i:It):Wf [i.d]=QS (Qx i):=by unfold Wf Lu;cases i<;>simp[Jk,JM,ZD,lI,QV,sD,sQ,QD,QI,V2,Q6,ZV,Zg,QE,V1,YD,gS,JQ,Z9,eV,eC,Q5,QB,JT,Qn,Qa,Zb,Zy,QN,QF,eK,lN,lC,Zn,JX,JJ,Yi,D.len,D.lt,D.le,D.gt,D.ge,D.add,D.sub,D.ix,D.eqO,D.neO,D.cmp,D.cmpN,D.inst,ZX,D.isT,D.intB,D.min2,D.max2,D.neg,D.addI,Qj,Yv,Yn,Yw,Jf,Jq,V3,V4,V6,V5,Yl,Yk,Yj,Yg,Ys,Y3,YW,YV,J6,JF,ZP,ZO,ZZ,ZI,D.rng,D.its,D.itsT,J9,Ym,JC,YX,Zz,Zp,Y5,JN,D.inO,Zq,inD,Qx,Y6,ZR]
def QP(xs:List Plc):D:=.lst (xs.map Plc.d)
def FK{xs:List Plc}(x:Plc)(h:xs.length<lI):D.app (QP xs) x.d=some (QP (xs++[x])):=TB (f:=Plc.d) x h
def Jw(w h:Int)(ae:List Int)(s:List Plc×Nat×Sta):It->List Plc×Nat×Sta|.word x ns=>(s.1++[(JG w h s.2.2 x.length ns.length).1],s.2.1,(JG w h s.2.2 x.length ns.length).2)|.ref _ a b=>(s.1++[(JG w h s.2.2 ((a.length:Int)+ae.getD s.2.1 0+b.length) 0).1],s.2.1+1,(JG w h s.2.2 ((a.length:Int)+ae.getD s.2.1 0+b.length) 0).2)|_=>s
def VW(w h:Int)(s:Sta)(ae:List Int)(is:List It):List Plc×Nat×Sta:=is.foldl (Jw w h ae) ([],0,s)
def NA{α σ:Type}(f:σ->α->σ)(s:σ)(xs:List α)(i:Nat)(hi:i<xs.length):(xs.take (i+1)).foldl f s=f ((xs.take i).foldl f s) xs[i]:=by rw[T1 hi,Tt];rfl
def QhL(is:List It)(i:Nat)(hi:i<is.length):(Qu (is.take (i+1))).length=(Qu (is.take i)).length+if ZR is[i]then 1 else 0:=by unfold Qu;rw[T1 hi,List.filter_append,YQ,Qe];congr 1;cases q:ZR is[i]<;>simp[q]
def QhM(is:List It)(i:Nat):(Qu (is.take i)).length<=(Qu is).length:=by unfold Qu;rw[Qo,Qo];exact((take_sublist i is).filter _).length_le
theorem DC(w h:Int)(ae:List Int):∀(is:List It)(s:List Plc×Nat×Sta),(is.foldl (Jw w h ae) s).1.length<=s.1.length+is.length/\(is.foldl (Jw w h ae) s).2.1=s.2.1+(Qu is).length|[],s=>⟨Qz _,rfl⟩|i::is,s=>by obtain⟨h1,h2⟩:=DC w h ae is (Jw w h ae s i);rw[YA,JV];unfold Qu at h2⊢;cases i<;>simp[Jw,filter_cons,ZR]at h1 h2⊢<;>omega
noncomputable def XT:It->Prop|.word x ns=>x.length<=1000/\ns.length<=1000/\∀r∈ns,r.length<=1000|.ref _ a b=>a.length<=1000/\b.length<=1000|_=>True
def Qh9(w h:Int)(o li:Bool)(s:Sta)(ae:List Int)(is:List It)(hl:is.length<=100000)(hr:(Qu is).length<=ae.length)(ht:∀i∈is,XT i):Rz [.lst (is.map It.d),QL w h o li,s.d,.lst (ae.map .int)]=some (.tup [QP (VW w h s ae is).1,(endLine (VW w h s ae is).2.2).d]):=by
 unfold Rz KR;refine JS rfl ?_;refine st (e1:=[some (.lst (is.map It.d)),some (QL w h o li),some s.d,some (.lst (ae.map .int)),some (QP []),none,none,none,none]) rfl ?_;refine st (e1:=[some (.lst (is.map It.d)),some (QL w h o li),some s.d,some (.lst (ae.map .int)),some (QP []),some (.int 0),none,none,none]) rfl ?_;refine XQ It.d is (λi e=>∃a b c,e=[some (.lst (is.map It.d)),some (QL w h o li),some ((is.take i).foldl (Jw w h ae) ([],0,s)).2.2.d,some (.lst (ae.map .int)),some (QP ((is.take i).foldl (Jw w h ae) ([],0,s)).1),some (.int ((is.take i).foldl (Jw w h ae) ([],0,s)).2.1),a,b,c]) rfl ⟨none,none,none,rfl⟩ ?_ ?_
 ·rintro i hi e⟨a,b,c,rfl⟩;rw[NA _ _ _ _ hi];have hb:=(DC w h ae (is.take i) ([],0,s));have bZ:((is.take i).foldl (Jw w h ae) ([],0,s)).1.length<lI:=WM (by have:=hb.1;rw[Yy]at this;simp at this;omega);have h2:=hb.2;have h3:=QhL is i hi;have h4:=QhM is (i+1);have hT:=ht is[i] (YB hi);have bK:=NF is[i];generalize is[i]=x at*;generalize(is.take i).foldl (Jw w h ae) ([],0,s)=z at*;obtain⟨pl,k,t⟩:=z;simp only[]at bZ h2⊢;simp at h2;have ap:=λy=>FK (xs:=pl) y bZ;generalize D.lst (is.map It.d)=IS at*;cases x with
  |word wd ns=>
   refine⟨_,.inl ?_,some (It.word wd ns).d,b,some (ZF (JG w h t wd.length ns.length)),rfl⟩;refine Jg rfl ?_;refine JR (JD rfl bK) ?_;have l1:=Yp (x:=wd) (by have:=hT.1;omega);have l2:=Us ns;have pw:=Cf w h o li t wd.length ns.length;refine st (e1:=[some IS,some (QL w h o li),some t.d,some (.lst (ae.map .int)),some (QP pl),some (.int k),some (It.word wd ns).d,b,some (ZF (JG w h t wd.length ns.length))]) ?_ ?_
   ·refine QY (Q1 (x:=.str "word") (Q1 (x:=(It.word wd ns).d) rfl rfl rfl) rfl (by rw[Qb];simp)) ?_;exact J0 (TH rfl rfl (JK (Q1 (x:=(It.word wd ns).d) rfl rfl rfl) l1) (JK (Q1 (x:=(It.word wd ns).d) rfl rfl rfl) l2) pw) rfl
   ·refine st (e1:=[some IS,some (QL w h o li),some t.d,some (.lst (ae.map .int)),some (QP (pl++[(JG w h t wd.length ns.length).1])),some (.int k),some (It.word wd ns).d,b,some (ZF (JG w h t wd.length ns.length))]) (WY rfl (Q1 (x:=ZF (JG w h t wd.length ns.length)) rfl rfl (p0 _)) (ap _)) ?_;exact J0 (Q1 (x:=ZF (JG w h t wd.length ns.length)) rfl rfl (p1 _)) rfl|ref l x1 x2=>
   have hk:k<ae.length:=by
    have e1:ZR (It.ref l x1 x2)=true:=rfl;rw[e1,if_pos rfl]at h3;omega
   have rx:D.ix (.lst (ae.map .int)) (.int k)=some (.int (ae.getD k 0)):=Wz (f:=D.int) ae k 0 (by omega) (by omega);obtain⟨sz,eU⟩:∃sz:Int,(x1.length:Int)+ae.getD k 0+x2.length=sz:=⟨_,rfl⟩;have pw:=Cf w h o li t sz 0;have e1:Jw w h ae (pl,k,t) (.ref l x1 x2)=(pl++[(JG w h t sz 0).1],k+1,(JG w h t sz 0).2):=by rw[<-eU];rfl
   rw[e1];refine⟨_,.inl ?_,some (It.ref l x1 x2).d,some (.int sz),some (ZF (JG w h t sz 0)),rfl⟩;refine Jg rfl ?_;refine JR (JD rfl bK) ?_;have l1:=Yp (x:=x1) (by have:=hT.1;omega);have l2:=Yp (x:=x2) (by have:=hT.2;omega);refine st (e1:=[some IS,some (QL w h o li),some t.d,some (.lst (ae.map .int)),some (QP pl),some (.int (k+1:Nat)),some (It.ref l x1 x2).d,some (.int sz),some (ZF (JG w h t sz 0))]) ?_ ?_
   ·refine JR (Q1 (x:=.str "ref") (Q1 (x:=(It.ref l x1 x2).d) rfl rfl rfl) rfl (by rw[Qb];simp)) ?_;refine st (e1:=[some IS,some (QL w h o li),some t.d,some (.lst (ae.map .int)),some (QP pl),some (.int k),some (It.ref l x1 x2).d,some (.int sz),c]) (J0 (Q1 (Q1 (JK (Q1 (x:=(It.ref l x1 x2).d) rfl rfl rfl) l1) (Q1 (x:=.lst (ae.map .int)) rfl rfl rx) rfl) (JK (Q1 (x:=(It.ref l x1 x2).d) rfl rfl rfl) l2) (by rw[add_int,eU])) rfl) ?_;refine st (e1:=[some IS,some (QL w h o li),some t.d,some (.lst (ae.map .int)),some (QP pl),some (.int k),some (It.ref l x1 x2).d,some (.int sz),some (ZF (JG w h t sz 0))]) (J0 (TH rfl rfl rfl rfl pw) rfl) ?_;rfl
   ·refine st (e1:=[some IS,some (QL w h o li),some t.d,some (.lst (ae.map .int)),some (QP (pl++[(JG w h t sz 0).1])),some (.int (k+1:Nat)),some (It.ref l x1 x2).d,some (.int sz),some (ZF (JG w h t sz 0))]) (WY rfl (Q1 (x:=ZF (JG w h t sz 0)) rfl rfl (p0 _)) (ap _)) ?_;exact J0 (Q1 (x:=ZF (JG w h t sz 0)) rfl rfl (p1 _)) rfl|mark l=>exact⟨_,.inl (Jg rfl (QY (JD rfl bK) rfl)),some (It.mark l).d,b,c,rfl⟩|key l=>exact⟨_,.inl (Jg rfl (QY (JD rfl bK) rfl)),some (It.key l).d,b,c,rfl⟩
 ·rintro e⟨a,b,c,rfl⟩;rw[VV];refine ret ?_;have:=EO (VW w h s ae is).2.2;simp only[QN,lC,lN,eV,eK,X4,WU,X5,ZU,WV];rw[show(is.foldl (Jw w h ae) ([],0,s)).2.2=(VW w h s ae is).2.2 from rfl,this];rfl
def Zh(h:Int)(s:List Plc×Sta)(b:Bk):List Plc×Sta:=if Yo b then(s.1++[(Jm h s.2 1 0).1],(Jm h s.2 1 0).2)else s
def VA(h:Int)(bs:List Bk):List Plc×Sta:=bs.foldl (Zh h) ([],Ju 1)
def ZW(h:Int)(o li:Bool)(bs:List Bk):List Plc×Sta:=if li=true then((VA h bs).1,if(VA h bs).1.length>0 then ZA o (VA h bs).2 else(VA h bs).2)else([],Ju 1)
theorem Fp(h:Int):∀(bs:List Bk)(s:List Plc×Sta),(bs.foldl (Zh h) s).1.length<=s.1.length+bs.length
 |[],s=>Qz _|b::bs,s=>by
  have:=Fp h bs (Zh h s b);rw[YA,JV];have:(Zh h s b).1.length<=s.1.length+1:=by unfold Zh;split<;>simp
  omega
def DY(xs:List Plc):D.len (QP xs)=Q0 xs.length:=by show some (D.int (xs.map Plc.d).length)=_;rw[Qo]
def Qh8(w h:Int)(o li:Bool)(bs:List Bk)(hl:bs.length<=100000):N5 [Q9 bs,QL w h o li]=some (.tup [QP (ZW h o li bs).1,(ZW h o li bs).2.d]):=by
 have b1:=S7 1;have io:D.ix (QL w h o li) (.int 3)=QS li:=rfl;unfold N5 KQ ZW;refine JS rfl ?_;refine st (e1:=[some (Q9 bs),some (QL w h o li),some (QP []),none,none,none]) rfl ?_;refine st (e1:=[some (Q9 bs),some (QL w h o li),some (QP []),some (Ju 1).d,none,none]) (J0 (JD rfl b1) rfl) ?_;cases li with
 |false=>rw[if_neg (by decide)];exact Y2 (JR (Th (b:=false) (Q1 rfl rfl io)) (ret rfl))|true=>
  rw[if_pos rfl];refine st (QY (Th (b:=true) (Q1 rfl rfl io)) rfl) ?_;refine XQ Bk.d bs (λi e=>∃a b,e=[some (Q9 bs),some (QL w h o true),some (QP ((bs.take i).foldl (Zh h) ([],Ju 1)).1),some ((bs.take i).foldl (Zh h) ([],Ju 1)).2.d,a,b]) rfl ⟨none,none,rfl⟩ ?_ ?_
  ·rintro i hi e⟨a,b,rfl⟩;rw[NA _ _ _ _ hi];have hb:=Fp h (bs.take i) ([],Ju 1);have bZ:((bs.take i).foldl (Zh h) ([],Ju 1)).1.length<lI:=WM (by rw[Yy]at hb;simp at hb;omega);have it:=NG bs[i];generalize bs[i]=x at*;generalize(bs.take i).foldl (Zh h) ([],Ju 1)=z at*;obtain⟨pl,t⟩:=z;simp only[]at bZ⊢;have ap:=λy=>FK (xs:=pl) y bZ;have pb:=MG w h o true t 1 0;unfold Zh;cases q:Yo x with
   |true=>rw[if_pos rfl];rw[q]at it;refine⟨_,.inl ?_,some x.d,some (ZF (Jm h t 1 0)),rfl⟩;refine Jg rfl (JR (JD rfl it) ?_);refine st (e1:=[some (Q9 bs),some (QL w h o true),some (QP pl),some t.d,some x.d,some (ZF (Jm h t 1 0))]) (J0 (TH rfl rfl rfl rfl pb) rfl) ?_;refine st (e1:=[some (Q9 bs),some (QL w h o true),some (QP (pl++[(Jm h t 1 0).1])),some t.d,some x.d,some (ZF (Jm h t 1 0))]) (WY rfl (Q1 (x:=ZF (Jm h t 1 0)) rfl rfl (p0 _)) (ap _)) ?_;exact J0 (Q1 (x:=ZF (Jm h t 1 0)) rfl rfl (p1 _)) rfl|false=>
    rw[if_neg (by decide)];rw[q]at it;exact⟨_,.inl (Jg rfl (QY (JD rfl it) rfl)),some x.d,b,rfl⟩
  ·rintro e⟨a,b,rfl⟩;rw[VV];have nc:=C6 w h o true (VA h bs).2;have ln:=DY (VA h bs).1;have cf:bs.foldl (Zh h) ([],Ju 1)=VA h bs:=rfl;rw[cf];generalize VA h bs=z at*;obtain⟨pl,t⟩:=z;simp only[]at nc ln⊢;refine st (e1:=[some (Q9 bs),some (QL w h o true),some (QP pl),some (if pl.length>0 then ZA o t else t).d,a,b]) ?_ (ret rfl);by_cases z:pl.length>0
   ·rw[if_pos z];exact JR (Q1 (JK (x:=QP pl) rfl ln) rfl (by show some (D.bl (decide ((0:Int)<pl.length)))=_;rw[Z6 (by omega)])) (J0 (Zv rfl rfl nc) rfl)
   ·rw[if_neg z];exact QY (Q1 (JK (x:=QP pl) rfl ln) rfl (by show some (D.bl (decide ((0:Int)<pl.length)))=_;rw[JU (by omega)])) rfl
def ZL(h:Int)(o:Bool)(s:Sta):Bk->Plc×Sta|.plates n _=>Io s n|.table rs _=>Jm h s rs.length 0|.heading _ k _=>Jm h s 1 k|_=>Jm h (ZA o s) 1 0
def Qh4(w h:Int)(o li:Bool)(s:Sta)(b:Bk)(hb:Uq b=false):Ry [b.d,QL w h o li,s.d]=some (ZF (ZL h o s b)):=by unfold Ry KO;cases b with|para is=>cases hb|plates n l=>have pp:=Qhu s n;exact JS rfl (Y2 (JR (Q1 (x:=.str "plates") (Q1 (x:=(Bk.plates n l).d) rfl rfl rfl) rfl (by rw[Qb];simp)) (ret (Zv rfl (Q1 (x:=(Bk.plates n l).d) rfl rfl rfl) pp))))|table rs l=>have pb:=MG w h o li s rs.length 0;refine JS rfl ?_;refine st (QY (Q1 (x:=.str "table") (Q1 (x:=(Bk.table rs l).d) rfl rfl rfl) rfl (by rw[Qb];simp)) rfl) ?_;exact Y2 (JR (Q1 (x:=.str "table") (Q1 (x:=(Bk.table rs l).d) rfl rfl rfl) rfl (by rw[Qb];simp)) (ret (TH rfl rfl (JK (Q1 (x:=(Bk.table rs l).d) rfl rfl rfl) (Us rs)) rfl pb)))|heading t k l=>have pb:=MG w h o li s 1 k;refine JS rfl ?_;refine st (QY (Q1 (x:=.str "heading") (Q1 (x:=(Bk.heading t k l).d) rfl rfl rfl) rfl (by rw[Qb];simp)) rfl) ?_;refine st (QY (Q1 (x:=.str "heading") (Q1 (x:=(Bk.heading t k l).d) rfl rfl rfl) rfl (by rw[Qb];simp)) rfl) ?_;exact Y2 (JR (Q1 (x:=.str "heading") (Q1 (x:=(Bk.heading t k l).d) rfl rfl rfl) rfl (by rw[Qb];simp)) (ret (TH rfl rfl rfl (Q1 (x:=(Bk.heading t k l).d) rfl rfl rfl) pb)))|chapter t l=>have nc:=C6 w h o li s;have pb:=MG w h o li (ZA o s) 1 0;refine JS rfl ?_;refine st (QY (Q1 (x:=.str "chapter") (Q1 (x:=(Bk.chapter t l).d) rfl rfl rfl) rfl (by rw[Qb];simp)) rfl) ?_;refine st (QY (Q1 (x:=.str "chapter") (Q1 (x:=(Bk.chapter t l).d) rfl rfl rfl) rfl (by rw[Qb];simp)) rfl) ?_;refine st (QY (Q1 (x:=.str "chapter") (Q1 (x:=(Bk.chapter t l).d) rfl rfl rfl) rfl (by rw[Qb];simp)) rfl) ?_;exact ret (TH rfl (Zv rfl rfl nc) rfl rfl pb)
def Jh(w h:Int)(o:Bool)(ae:List Int)(s:List (List Plc)×Sta×Nat)(b:Bk):List (List Plc)×Sta×Nat:=match b with|.para is=>(s.1++[(VW w h s.2.1 (ae.drop s.2.2) is).1],endLine (VW w h s.2.1 (ae.drop s.2.2) is).2.2,s.2.2+(Qu is).length)|b=>(s.1++[[(ZL h o s.2.1 b).1]],(ZL h o s.2.1 b).2,s.2.2)
def Sz(w h:Int)(o li:Bool)(ae:List Int)(bs:List Bk):List (List Plc)×Sta×Nat:=bs.foldl (Jh w h o ae) ([(ZW h o li bs).1],(ZW h o li bs).2,0)
theorem FW(w h:Int)(o:Bool)(ae:List Int):∀(bs:List Bk)(s:List (List Plc)×Sta×Nat),(bs.foldl (Jh w h o ae) s).1.length=s.1.length+bs.length/\(bs.foldl (Jh w h o ae) s).2.2=s.2.2+(rO bs).length
 |[],s=>⟨rfl,rfl⟩|b::bs,s=>by
  obtain⟨h1,h2⟩:=FW w h o ae bs (Jh w h o ae s b);rw[YA,JV,h1,h2];have e:(rO (b::bs)).length=(Qu (iO b)).length+(rO bs).length:=by unfold rO;rw[Y1,Qe]
  rw[e];cases b<;>simp[Jh,iO,Qu]<;>omega
def Qs(xs:List (List Plc)):D:=.lst (xs.map QP)
def Qax{xs:List (List Plc)}(x:List Plc)(h:xs.length<lI):D.app (Qs xs) (QP x)=some (Qs (xs++[x])):=TB (f:=QP) x h
def Qa9(xs:List Int)(k:Nat)(h:k<=xs.length):ZD (.lst (xs.map .int)) (some (k:Int)) none=QA ((xs.drop k).map .int):=by show some (D.lst (J2 (xs.map D.int) (some (k:Int)) none))=_;congr 1;unfold J2 ZK;simp only[];rw[if_neg (by omega),Qo,show min (k:Int).toNat xs.length=k from by omega,map_drop,List.take_of_length_le (by rw[US,Qo];omega)]
def Tz(b:Bk):Prop:=∀i∈iO b,XT i
def Ej{bs:List Bk}(hf:V9 bs)(b:Bk)(hb:b∈bs):V9 [b]:=⟨by simp,by have:=UN hf b hb;simpa using this⟩
def Ct(b:Bk):rO [b]=Qu (iO b):=by unfold rO;simp
def A2(w h:Int)(o li:Bool)(ae:List Int)(bs:List Bk)(hf:V9 bs)(hr:(rO bs).length<=ae.length)(ht:∀b∈bs,Tz b):UI [Q9 bs,QL w h o li,.lst (ae.map .int)]=some (Qs (Sz w h o li ae bs).1):=by
 have sc:=Qh8 w h o li bs hf.1;unfold UI KP Sz;generalize ZW h o li bs=c0 at*;obtain⟨pl0,s0⟩:=c0;simp only[]at sc⊢;refine JS rfl ?_;refine st (e1:=[some (Q9 bs),some (QL w h o li),QA (ae.map .int),some (.tup [QP pl0,s0.d]),none,none,none,none]) (J0 (Zv rfl rfl sc) rfl) ?_;refine st (e1:=[some (Q9 bs),some (QL w h o li),QA (ae.map .int),some (.tup [QP pl0,s0.d]),some (Qs [pl0]),none,none,none]) rfl ?_;refine st (e1:=[some (Q9 bs),some (QL w h o li),QA (ae.map .int),some (.tup [QP pl0,s0.d]),some (Qs [pl0]),some s0.d,none,none]) rfl ?_;refine st (e1:=[some (Q9 bs),some (QL w h o li),QA (ae.map .int),some (.tup [QP pl0,s0.d]),some (Qs [pl0]),some s0.d,Q0 0,none]) rfl ?_;refine XQ Bk.d bs (λi e=>∃a b,e=[some (Q9 bs),some (QL w h o li),QA (ae.map .int),a,some (Qs ((bs.take i).foldl (Jh w h o ae) ([pl0],s0,0)).1),some ((bs.take i).foldl (Jh w h o ae) ([pl0],s0,0)).2.1.d,some (.int ((bs.take i).foldl (Jh w h o ae) ([pl0],s0,0)).2.2),b]) rfl ⟨_,none,rfl⟩ ?_ ?_
 ·rintro i hi e⟨a,b,rfl⟩;rw[NA _ _ _ _ hi];have hb:=FW w h o ae (bs.take i) ([pl0],s0,0);have h1:=hb.1;have h2:=hb.2;rw[Yy]at h1;simp at h1 h2;have bZ:((bs.take i).foldl (Jh w h o ae) ([pl0],s0,0)).1.length<lI:=WM (by have:=hf.1;omega);have t1:rO (bs.take (i+1))=rO (bs.take i)++Qu (iO bs[i]):=fT _ bs i hi;have t3:(rO (bs.take (i+1))).length<=(rO bs).length:=N8 (λb=>Qu (iO b)) bs (i+1);rw[t1,Qe]at t3;have ip:=UN hf bs[i] (YB hi);have hT:=ht bs[i] (YB hi);have f1:=Ej hf bs[i] (YB hi);generalize bs[i]=x at*;generalize(bs.take i).foldl (Jh w h o ae) ([pl0],s0,0)=z at*;obtain⟨tl,s,k⟩:=z;simp only[]at h1 h2 bZ⊢;have ap:=λy=>Qax (xs:=tl) y bZ;generalize Q9 bs=BS at*;have J7:Uq x=false->∃e',((gS 7 x.d [some BS,some (QL w h o li),QA (ae.map .int),a,some (Qs tl),some s.d,Q0 k,b]).bind (sQ (QD (QO (Q2 7 0) (QC "para")) (sQ (Q6 (eK Rz (ZB (Q2 7 1) (eV 1) (eV 5) (JM (eV 2) (JJ (eV 6)) (JX)))) (gS 3)) (sQ (sP 4 (Q2 3 0)) (ZV 6 D.addI (QB D.len (eK Vp (QU (QF (QU (eV 7))))))))) (sQ (Q6 (eK Ry (JI (eV 7) (eV 1) (eV 5))) (gS 3)) (sP 4 (QF (QU (Q2 3 0)))))) (Q6 (Q2 3 1) (gS 5)))=some (.nx e'))/\∃a b,e'=[some BS,some (QL w h o li),QA (ae.map .int),a,some (Qs (tl++[[(ZL h o s x).1]])),some (ZL h o s x).2.d,Q0 k,b]:=by
   intro hp;have sb:=Qh4 w h o li s x hp;have tg:=QiJ x;rw[hp]at tg;refine⟨_,Jg rfl ?_,some (ZF (ZL h o s x)),some x.d,rfl⟩;refine st (e1:=[some BS,some (QL w h o li),QA (ae.map .int),some (ZF (ZL h o s x)),some (Qs (tl++[[(ZL h o s x).1]])),some s.d,Q0 k,some x.d]) ?_ (J0 (Q1 (x:=ZF (ZL h o s x)) rfl rfl (p1 _)) rfl);refine QY (Q1 (x:=.str (Ua x)) (Q1 (x:=x.d) rfl rfl (NJ x)) rfl (by rw[Qb,tg])) ?_;refine st (e1:=[some BS,some (QL w h o li),QA (ae.map .int),some (ZF (ZL h o s x)),some (Qs tl),some s.d,Q0 k,some x.d]) (J0 (YE rfl rfl rfl sb) rfl) ?_;exact WY rfl (d:=QP [(ZL h o s x).1]) rfl (ap _)
  cases x with
  |para is=>
   have hk:k<=ae.length:=by omega
   have kO:(Qu is).length<=(ae.drop k).length:=by rw[US];have:(Qu (iO (.para is))).length=(Qu is).length:=rfl;omega
   have si:=Qh9 w h o li s (ae.drop k) is ip kO hT;have rf:=MM [.para is] f1;rw[Ct]at rf;have cu:=Qa9 ae k hk;generalize hz:VW w h s (ae.drop k) is=z at*;have e1:Jh w h o ae (tl,s,k) (.para is)=(tl++[z.1],endLine z.2.2,k+(Qu is).length):=by show(tl++[(VW w h s (ae.drop k) is).1],_,_)=_;rw[hz]
   rw[e1];refine⟨_,.inl ?_,some (.tup [QP z.1,(endLine z.2.2).d]),some (Bk.para is).d,rfl⟩;refine Jg rfl ?_;refine st (e1:=[some BS,some (QL w h o li),QA (ae.map .int),some (.tup [QP z.1,(endLine z.2.2).d]),some (Qs (tl++[z.1])),some s.d,Q0 (k+(Qu is).length:Nat),some (Bk.para is).d]) ?_ rfl;refine JR (Q1 (x:=.str "para") (Q1 (x:=(Bk.para is).d) rfl rfl rfl) rfl (by rw[Qb];simp)) ?_;refine st (e1:=[some BS,some (QL w h o li),QA (ae.map .int),some (.tup [QP z.1,(endLine z.2.2).d]),some (Qs tl),some s.d,Q0 k,some (Bk.para is).d]) (J0 (TH (Q1 (x:=(Bk.para is).d) rfl rfl rfl) rfl rfl (by show ZD (.lst (ae.map .int)) (some (k:Int)) none=_;exact cu) si) rfl) ?_;refine st (e1:=[some BS,some (QL w h o li),QA (ae.map .int),some (.tup [QP z.1,(endLine z.2.2).d]),some (Qs (tl++[z.1])),some s.d,Q0 k,some (Bk.para is).d]) (WY rfl (d:=QP z.1) rfl (ap _)) ?_;have ln:=Us (Qu is);have gT:Vp [.lst [(Bk.para is).d]]=some (QR (Qu is)):=rf;have hA:QB D.len (eK Vp (QU (QF (QU (eV 7))))) [some BS,some (QL w h o li),QA (ae.map .int),some (.tup [QP z.1,(endLine z.2.2).d]),some (Qs (tl++[z.1])),some s.d,Q0 k,some (Bk.para is).d]=some (.int (Qu is).length):=JK (JD (x:=.lst [(Bk.para is).d]) rfl gT) ln;unfold ZV;rw[hA];rfl|chapter t l=>obtain⟨e',h5,h6⟩:=J7 rfl;exact⟨e',.inl h5,h6⟩|heading t n l=>obtain⟨e',h5,h6⟩:=J7 rfl;exact⟨e',.inl h5,h6⟩|table rs l=>obtain⟨e',h5,h6⟩:=J7 rfl;exact⟨e',.inl h5,h6⟩|plates n l=>obtain⟨e',h5,h6⟩:=J7 rfl;exact⟨e',.inl h5,h6⟩
 ·rintro e⟨a,b,rfl⟩;rw[VV];exact ret rfl
def Iq(w h:Int)(s:Sta)(n r:Int):s.p<=(JG w h s n r).1.p/\(JG w h s n r).2.p=(JG w h s n r).1.p/\(JG w h s n r).1.p<=s.p+1:=by
 unfold JG;split;·exact⟨Ji _,rfl,by show s.p<=s.p+1;omega⟩
 ·split;·exact⟨Ji _,rfl,by show s.p<=s.p+1;omega⟩
  ·exact⟨by show s.p<=s.p+1;omega,rfl,Ji _⟩
def ES(s:Sta):(endLine s).p=s.p:=by unfold endLine;split<;>rfl
def MH(h:Int)(s:Sta)(a b:Int):s.p<=(Jm h s a b).1.p/\(Jm h s a b).2.p=(Jm h s a b).1.p/\(Jm h s a b).1.p<=s.p+1:=by
 have e:=ES s;unfold Jm;refine⟨?_,rfl,?_⟩
 ·show s.p<=(if _ then _ else _:Sta).p;split;·omega
  ·show s.p<=(endLine s).p+1;omega
 ·show(if _ then _ else _:Sta).p<=s.p+1;split;·omega
  ·show(endLine s).p+1<=s.p+1;omega
def CA(s:Sta):s.p<=(Jc s).p/\(Jc s).p<=s.p+1/\(Jc s).l=0/\(Jc s).u=0/\(Jc s).f=0:=by
 unfold Jc;split;·rename_i z;exact⟨Ji _,by omega,z⟩
 ·exact⟨by show s.p<=s.p+1;omega,Ji _,rfl,rfl,rfl⟩
def IV(o:Bool)(s:Sta):s.p<=(ZA o s).p/\(ZA o s).p<=s.p+2/\(ZA o s).l=0/\(ZA o s).u=0/\(ZA o s).f=0:=by
 obtain⟨h1,h2,h3⟩:=CA s;unfold ZA;split;·exact⟨by show s.p<=(Jc s).p+1;omega,by show(Jc s).p+1<=s.p+2;omega,rfl,rfl,rfl⟩
 ·exact⟨h1,by omega,h3⟩
def Qhr(h:Int)(s:Sta)(hh:1<=h)(z:s.l=0/\s.u=0/\s.f=0):(Jm h s 1 0).1.p=s.p:=by
 have e:endLine s=s:=by unfold endLine;rw[if_pos z.2.1]
 unfold Jm;rw[e];show(if s.l+s.f+(1+0)<=h then s else _:Sta).p=s.p;rw[if_pos (by rw[z.1,z.2.2];omega)]
def U5:Bk->Int|.plates n _=>2+n|.para is=>2+2*((is.filter Qx).length:Int)|_=>2
def Qh5(h:Int)(o:Bool)(s:Sta)(b:Bk)(hh:1<=h)(hp:Uq b=false)(hn:∀n l,b=.plates n l->1<=n):s.p<=(ZL h o s b).1.p/\(ZL h o s b).1.p<=(ZL h o s b).2.p/\(ZL h o s b).2.p<=s.p+U5 b:=by cases b with
 |para is=>cases hp|plates n l=>
  have h1:=CA s;have h2:=hn n l rfl;refine⟨h1.1,?_,?_⟩;·show(Jc s).p<=(Jc s).p+n;omega
  ·show(Jc s).p+n<=s.p+(2+n);omega|table rs l=>obtain⟨a,b,c⟩:=MH h s rs.length 0;exact⟨a,Su b.symm,by show(Jm h s rs.length 0).2.p<=s.p+2;omega⟩|heading t k l=>obtain⟨a,b,c⟩:=MH h s 1 k;exact⟨a,Su b.symm,by show(Jm h s 1 k).2.p<=s.p+2;omega⟩|chapter t l=>
  have h1:=IV o s;have h2:=Qhr h (ZA o s) hh h1.2.2;obtain⟨a,b,c⟩:=MH h (ZA o s) 1 0;refine⟨?_,Su b.symm,?_⟩;·show s.p<=(Jm h (ZA o s) 1 0).1.p;omega
  ·show(Jm h (ZA o s) 1 0).2.p<=s.p+2;omega
def Jl(is:List It):Nat:=(is.filter Qx).length
def Uu(i:It)(is:List It):Jl (i::is)=(if Qx i then 1 else 0)+Jl is:=by unfold Jl;rw[filter_cons];split<;>simp<;>omega
theorem DG(w h:Int)(ae:List Int)(lo:Int):∀(is:List It)(s:List Plc×Nat×Sta),(∀x∈s.1,lo<=x.p/\x.p<=s.2.2.p)->lo<=s.2.2.p->let r:=is.foldl (Jw w h ae) s
  (∀x∈r.1,lo<=x.p/\x.p<=r.2.2.p)/\s.2.2.p<=r.2.2.p/\r.2.2.p<=s.2.2.p+Jl is/\r.1.length=s.1.length+Jl is
 |[],s,h1,h2=>⟨h1,Ji _,by simp[Jl],by simp[Jl]⟩|i::is,s,h1,h2=>by
  have key:(∀x∈(Jw w h ae s i).1,lo<=x.p/\x.p<=(Jw w h ae s i).2.2.p)/\s.2.2.p<=(Jw w h ae s i).2.2.p/\(Jw w h ae s i).2.2.p<=s.2.2.p+(if Qx i then 1 else 0:Nat)/\(Jw w h ae s i).1.length=s.1.length+(if Qx i then 1 else 0:Nat):=by
   have wd:∀n r,(∀x∈s.1++[(JG w h s.2.2 n r).1],lo<=x.p/\x.p<=(JG w h s.2.2 n r).2.p):=λn r x hx=>by
    obtain⟨a,b,c⟩:=Iq w h s.2.2 n r;rcases q_7.mp hx with z|z;·have:=h1 x z;omega
    ·rw[q_2.mp z];omega
   cases i with
   |word x ns=>
    obtain⟨a,b,c⟩:=Iq w h s.2.2 x.length ns.length;refine⟨wd _ _,?_,?_,by simp[Jw,Qx,Y6]⟩;·show s.2.2.p<=(JG w h s.2.2 x.length ns.length).2.p;omega
    ·show(JG w h s.2.2 x.length ns.length).2.p<=s.2.2.p+1;omega|ref l x y=>
    obtain⟨a,b,c⟩:=Iq w h s.2.2 ((x.length:Int)+ae.getD s.2.1 0+y.length) 0;refine⟨wd _ _,?_,?_,by simp[Jw,Qx,Y6,ZR]⟩;·show s.2.2.p<=(JG w h s.2.2 _ 0).2.p;omega
    ·show(JG w h s.2.2 _ 0).2.p<=s.2.2.p+1;omega|mark l=>exact⟨h1,Ji _,by show s.2.2.p<=s.2.2.p+0;omega,by simp[Jw,Qx,Y6,ZR]⟩|key l=>exact⟨h1,Ji _,by show s.2.2.p<=s.2.2.p+0;omega,by simp[Jw,Qx,Y6,ZR]⟩
  obtain⟨k1,k2,k3,k4⟩:=key;obtain⟨r1,r2,r3,r4⟩:=DG w h ae lo is (Jw w h ae s i) k1 (by omega);refine⟨r1,Zf k2 r2,?_,?_⟩
  ·have:=Uu i is;show(is.foldl (Jw w h ae) (Jw w h ae s i)).2.2.p<=_;rw[this];omega
  ·have:=Uu i is;show(is.foldl (Jw w h ae) (Jw w h ae s i)).1.length=_;rw[this,r4,k4];omega
def W8:Bk->Nat|.para is=>Jl is|_=>1
def RH(b:Bk):Prop:=∀n l,b=.plates n l->1<=n
theorem FY(w h:Int)(o:Bool)(ae:List Int)(hh:1<=h):∀(bs:List Bk)(s:List (List Plc)×Sta×Nat),(∀b∈bs,RH b)->let r:=bs.foldl (Jh w h o ae) s
  s.2.1.p<=r.2.1.p/\r.2.1.p<=s.2.1.p+(bs.map U5).sum/\∃rows,r.1=s.1++rows/\rows.length=bs.length/\∀q∈bs.zip rows,q.2.length=W8 q.1/\∀x∈q.2,s.2.1.p<=x.p/\x.p<=r.2.1.p
 |[],s,_=>⟨Ji _,by simp,[],by simp,rfl,by simp⟩|b::bs,s,hb=>by
  have lK:=hb b Ja;have key:∃row,(Jh w h o ae s b).1=s.1++[row]/\row.length=W8 b/\(∀x∈row,s.2.1.p<=x.p/\x.p<=(Jh w h o ae s b).2.1.p)/\s.2.1.p<=(Jh w h o ae s b).2.1.p/\(Jh w h o ae s b).2.1.p<=s.2.1.p+U5 b:=by
   have other:Uq b=false->Jh w h o ae s b=(s.1++[[(ZL h o s.2.1 b).1]],(ZL h o s.2.1 b).2,s.2.2)->W8 b=1->∃row,(Jh w h o ae s b).1=s.1++[row]/\row.length=W8 b/\(∀x∈row,s.2.1.p<=x.p/\x.p<=(Jh w h o ae s b).2.1.p)/\s.2.1.p<=(Jh w h o ae s b).2.1.p/\(Jh w h o ae s b).2.1.p<=s.2.1.p+U5 b:=by
    intro hp e hn;obtain⟨a1,a2,a3⟩:=Qh5 h o s.2.1 b hh hp lK;rw[e];refine⟨[(ZL h o s.2.1 b).1],rfl,by rw[hn];rfl,λx hx=>?_,?_,a3⟩;·rw[q_2.mp hx];exact⟨a1,a2⟩
    ·show s.2.1.p<=(ZL h o s.2.1 b).2.p;omega
   cases b with
   |para is=>
    obtain⟨a1,a2,a3,a4⟩:=DG w h (ae.drop s.2.2) s.2.1.p is ([],0,s.2.1) (by simp) (Ji _);have e:=ES (VW w h s.2.1 (ae.drop s.2.2) is).2.2;refine⟨(VW w h s.2.1 (ae.drop s.2.2) is).1,rfl,by unfold W8 VW;simpa using a4,λx hx=>?_,?_,?_⟩
    ·show _/\x.p<=(endLine (VW w h s.2.1 (ae.drop s.2.2) is).2.2).p;rw[e];exact a1 x hx
    ·show _<=(endLine (VW w h s.2.1 (ae.drop s.2.2) is).2.2).p;rw[e];exact a2
    ·show(endLine (VW w h s.2.1 (ae.drop s.2.2) is).2.2).p<=s.2.1.p+(2+2*((is.filter Qx).length:Int));rw[e];have a3':(VW w h s.2.1 (ae.drop s.2.2) is).2.2.p<=s.2.1.p+(Jl is:Int):=a3;have:Jl is=(is.filter Qx).length:=rfl;omega|chapter t l=>exact other rfl rfl rfl|heading t k l=>exact other rfl rfl rfl|table rs l=>exact other rfl rfl rfl|plates n l=>exact other rfl rfl rfl
  obtain⟨row,k1,k2,k3,k4,k5⟩:=key;obtain⟨r1,r2,rows,r3,r4,r5⟩:=FY w h o ae hh bs (Jh w h o ae s b) (λx hx=>hb x (JO _ hx));refine⟨Zf k4 r1,?_,row::rows,?_,by simp[r4],?_⟩
  ·rw[ZT,sum_cons];show(bs.foldl (Jh w h o ae) (Jh w h o ae s b)).2.1.p<=_;omega
  ·show(bs.foldl (Jh w h o ae) (Jh w h o ae s b)).1=_;rw[r3,k1];simp
  ·intro q hq;rw[Uy]at hq;rcases q_5.mp hq with z|z
   ·rw[z];refine⟨k2,λx hx=>?_⟩;have:=k3 x hx;exact⟨this.1,Zf this.2 r1⟩
   ·obtain⟨a,b'⟩:=r5 q z;exact⟨a,λx hx=>⟨Zf k4 (b' x hx).1,(b' x hx).2⟩⟩
def Wo(li:Bool)(b:Bk):Int:=if li=true/\Yo b=true then 2 else 0
theorem Fs(h:Int):∀(bs:List Bk)(s:List Plc×Sta),s.2.p<=(bs.foldl (Zh h) s).2.p/\(bs.foldl (Zh h) s).2.p+((bs.foldl (Zh h) s).1.length:Int)<=s.2.p+(s.1.length:Int)+(bs.map (Wo true)).sum
 |[],s=>⟨Ji _,by simp⟩|b::bs,s=>by
  obtain⟨h1,h2⟩:=Fs h bs (Zh h s b);rw[YA,ZT,sum_cons];have key:s.2.p<=(Zh h s b).2.p/\(Zh h s b).2.p+((Zh h s b).1.length:Int)<=s.2.p+(s.1.length:Int)+Wo true b:=by
   unfold Zh Wo;cases q:Yo b with
   |true=>
    obtain⟨a,b',c⟩:=MH h s.2 1 0;simp;omega|false=>simp
  omega
def Qa5(h:Int)(o li:Bool)(bs:List Bk):1<=(ZW h o li bs).2.p/\(ZW h o li bs).2.p<=3+(bs.map (Wo li)).sum:=by
 have nn:0<=(bs.map (Wo li)).sum:=by induction bs with|nil=>simp|cons b bs ih=>
   rw[ZT,sum_cons];have:0<=Wo li b:=by unfold Wo;split<;>omega
   omega
 unfold ZW;cases li with
 |false=>rw[if_neg (by decide)];exact⟨by decide,by show(1:Int)<=_;omega⟩|true=>
  rw[if_pos rfl];obtain⟨h1,h2⟩:=Fs h bs ([],Ju 1);have fG:(1:Int)<=(VA h bs).2.p:=h1;have jL:(VA h bs).2.p+((VA h bs).1.length:Int)<=1+0+(bs.map (Wo true)).sum:=h2;show 1<=(if _ then _ else _:Sta).p/\(if _ then _ else _:Sta).p<=_;split
  ·have:=IV o (VA h bs).2;omega
  ·omega
theorem P1{f:Bk->Int}:∀(bs:List Bk)(s:Int),bs.foldl (λs b=>s+f b) s=s+(bs.map f).sum|[],s=>by simp|b::bs,s=>by rw[YA,P1 bs,ZT,sum_cons];omega
def QeL(li:Bool)(bs:List Bk):most li bs=3+(bs.map (Wo li)).sum+(bs.map U5).sum:=by
 unfold most;rw[P1];have:(bs.map (ZM li)).sum=(bs.map (Wo li)).sum+(bs.map U5).sum:=by induction bs with
  |nil=>rfl|cons b bs ih=>
   simp only[ZT,sum_cons,ih];have:ZM li b=Wo li b+U5 b:=by cases b<;>cases li<;>simp[ZM,Wo,U5,Yo]
   omega
 omega
def HX(w h:Int)(o li:Bool)(ae:List Int)(bs:List Bk)(hh:1<=h)(hp:∀b∈bs,RH b):∃c rows,(Sz w h o li ae bs).1=c::rows/\rows.length=bs.length/\∀q∈bs.zip rows,q.2.length=W8 q.1/\∀x∈q.2,1<=x.p/\x.p<=most li bs:=by obtain⟨c1,c2⟩:=Qa5 h o li bs;obtain⟨r1,r2,rows,r3,r4,r5⟩:=FY w h o ae hh bs ([(ZW h o li bs).1],(ZW h o li bs).2,0) hp;have me:=QeL li bs;refine⟨(ZW h o li bs).1,rows,r3,r4,λq hq=>?_⟩;obtain⟨a,b⟩:=r5 q hq;refine⟨a,λx hx=>?_⟩;obtain⟨b1,b2⟩:=b x hx;have gj:(bs.foldl (Jh w h o ae) ([(ZW h o li bs).1],(ZW h o li bs).2,0)).2.1.p<=(ZW h o li bs).2.p+(bs.map U5).sum:=r2;have b1':(ZW h o li bs).2.p<=x.p:=b1;omega
noncomputable def Z1:Bk->Str|.chapter _ l=>l|.heading _ _ l=>l|.para _=>""|.table _ l=>l|.plates _ l=>l
def DO(b:Bk):Um [b.d]=QQ (Z1 b):=by unfold Um Lz;cases b<;>simp[Jk,JM,ZD,lI,QV,sD,sQ,QD,QI,V2,Q6,ZV,Zg,QE,V1,YD,gS,JQ,Z9,eV,eC,Q5,QB,JT,Qn,Qa,Zb,Zy,QN,QF,eK,lN,lC,Zn,JX,JJ,Yi,D.len,D.lt,D.le,D.gt,D.ge,D.add,D.sub,D.ix,D.eqO,D.neO,D.cmp,D.cmpN,D.inst,ZX,D.isT,D.intB,D.min2,D.max2,D.neg,D.addI,Qj,Yv,Yn,Yw,Jf,Jq,V3,V4,V6,V5,Yl,Yk,Yj,Yg,Ys,Y3,YW,YV,J6,JF,ZP,ZO,ZZ,ZI,D.rng,D.its,D.itsT,J9,Ym,JC,YX,Zz,Zp,Y5,JN,Z1]
noncomputable def W9(x:Str×Int):D:=.tup [.str x.1,.int x.2]
noncomputable def VS(pls:List Plc)(s:List (Str×Int)×Nat)(i:It):List (Str×Int)×Nat:=match i with|.mark l=>(s.1++[(l,(pls.getD s.2 ⟨0,0,0⟩).p)],s.2)|.key _=>s|_=>(s.1,s.2+1)
def Tf(pls:List Plc)(is:List It):List (Str×Int):=(is.foldl (VS pls) ([],0)).1
theorem Dq(pls:List Plc):∀(is:List It)(s:List (Str×Int)×Nat),(is.foldl (VS pls) s).1.length<=s.1.length+is.length/\(is.foldl (VS pls) s).2=s.2+Jl is|[],s=>⟨Qz _,rfl⟩|i::is,s=>by obtain⟨h1,h2⟩:=Dq pls is (VS pls s i);rw[YA,JV,h2,Uu];cases i<;>simp[VS,Qx,Y6,ZR]at h1⊢<;>omega
def WJ(is:List It):Prop:=∀i(hi:i<is.length),Qx is[i]=false->Jl (is.take i)<Jl is
def QgG(is:List It)(pls:List Plc)(hl:is.length<=100000)(hp:Jl is<=pls.length)(ht:WJ is):SR [.lst (is.map It.d),QP pls,.str "mark"]=some (.lst ((Tf pls is).map W9)):=by
 unfold SR KG Tf;refine JS rfl ?_;refine st (e1:=[some (.lst (is.map It.d)),some (QP pls),some (.str "mark"),some (.lst (([]:List (Str×Int)).map W9)),none,none]) rfl ?_;refine st (e1:=[some (.lst (is.map It.d)),some (QP pls),some (.str "mark"),some (.lst (([]:List (Str×Int)).map W9)),some (.int 0),none]) rfl ?_;refine XQ It.d is (λi e=>∃a,e=[some (.lst (is.map It.d)),some (QP pls),some (.str "mark"),some (.lst (((is.take i).foldl (VS pls) ([],0)).1.map W9)),some (.int ((is.take i).foldl (VS pls) ([],0)).2),a]) rfl ⟨none,rfl⟩ ?_ ?_
 ·rintro i hi e⟨a,rfl⟩;rw[NA _ _ _ _ hi];obtain⟨h1,h2⟩:=Dq pls (is.take i) ([],0);rw[Yy]at h1;simp at h1 h2;have hT:=ht i hi;have bK:=NF is[i];generalize is[i]=x at*;generalize(is.take i).foldl (VS pls) ([],0)=z at*;obtain⟨kv,k⟩:=z;simp only[]at h1 h2⊢;have bZ:kv.length<lI:=WM (by omega);have ap:=λy=>TB (f:=W9) (xs:=kv) y bZ;generalize D.lst (is.map It.d)=IS at*;cases x with
  |mark l=>
   have hk:k<pls.length:=by have:=hT rfl;omega
   have px:D.ix (QP pls) (.int k)=some (pls.getD k ⟨0,0,0⟩).d:=Wz (f:=Plc.d) pls k ⟨0,0,0⟩ (by omega) (by omega);obtain⟨q,eq⟩:∃q,pls.getD k ⟨0,0,0⟩=q:=⟨_,rfl⟩;have e1:VS pls (kv,k) (.mark l)=(kv++[(l,q.p)],k):=by rw[<-eq];rfl
   rw[eq]at px;rw[e1];refine⟨[some IS,some (QP pls),some (.str "mark"),some (.lst ((kv++[(l,q.p)]).map W9)),some (.int k),some (It.mark l).d],.inl ?_,some (It.mark l).d,rfl⟩
   ·refine Jg (e1:=[some IS,some (QP pls),some (.str "mark"),some (.lst (kv.map W9)),some (.int k),some (It.mark l).d]) rfl ?_;refine QY (JD rfl bK) ?_;refine JR (Q1 (x:=.str "mark") (Q1 (x:=(It.mark l).d) rfl rfl rfl) rfl (by rw[Qb];simp)) ?_;refine WY (d:=W9 (l,q.p)) rfl ?_ (ap _);have hq:D.ix q.d (.int 0)=some (.int q.p):=rfl;have hA:Q5 D.ix (Q5 D.ix (eV 1) (eV 4)) (eC (.int 0)) [some IS,some (QP pls),some (.str "mark"),some (.lst (kv.map W9)),some (.int k),some (It.mark l).d]=some (.int q.p):=Q1 (Q1 rfl rfl px) rfl hq;simp only[QN,lC,lN,hA];rfl|key l=>refine⟨_,.inl (Jg (e1:=[some IS,some (QP pls),some (.str "mark"),some (.lst (kv.map W9)),some (.int k),some (It.key l).d]) rfl (QY (JD rfl bK) (QY (Q1 (x:=.str "key") (Q1 (x:=(It.key l).d) rfl rfl rfl) rfl (by rw[Qb];simp)) rfl))),some (It.key l).d,rfl⟩|word x ns=>exact⟨_,.inl (Jg (e1:=[some IS,some (QP pls),some (.str "mark"),some (.lst (kv.map W9)),some (.int k),some (It.word x ns).d]) rfl (JR (JD rfl bK) rfl)),some (It.word x ns).d,rfl⟩|ref l x y=>exact⟨_,.inl (Jg (e1:=[some IS,some (QP pls),some (.str "mark"),some (.lst (kv.map W9)),some (.int k),some (It.ref l x y).d]) rfl (JR (JD rfl bK) rfl)),some (It.ref l x y).d,rfl⟩
 ·rintro e⟨a,rfl⟩;rw[VV];exact ret rfl
noncomputable def Qm(kv:List (Str×Int)):D:=.dic (kv.map λx=>Sum.inr x.1) (kv.map λx=>.int x.2)
def Qds{β:Type}(l:Str)(kv:List (Str×β)):hasK (.inr l) (kv.map λx=>Sum.inr x.1)=true↔l∈kv.map (·.1):=by
 unfold hasK;rw[List.any_eq_true];constructor
 ·rintro⟨c,hc,e⟩;obtain⟨x,hx,rfl⟩:=q_19.mp hc;have:x.1=l:=by simpa using e
  exact q_19.mpr ⟨x,hx,this⟩
 ·intro h;obtain⟨x,hx,rfl⟩:=q_19.mp h;exact⟨.inr x.1,q_19.mpr ⟨x,hx,rfl⟩,by simp⟩
def Ci{kv:List (Str×Int)}{l:Str}{p:Int}(h:l∉kv.map (·.1))(hl:kv.length<lI):D.put (Qm kv) (.str l) (.int p)=some (Qm (kv++[(l,p)])):=by show(if(kv.map λx=>(Sum.inr x.1:Kd)).length<lI then some (Xb _ _ (.inr l) (.int p))else none)=_;rw[if_pos (by rw[Qo];exact hl)];unfold Xb;rw[if_neg (λz=>h ((Qds l kv).mp z))];unfold Qm;rw[YQ,YQ];rfl
theorem Af:∀{kv:List (Str×Int)}{l:Str},l∈kv.map (·.1)->∃p,(l,p)∈kv/\D.dget (Qm kv) (.str l)=Q0 p
 |[],l,h=>by simp at h|(a,q)::kv,l,h=>by
  by_cases z:a=l
  ·subst z;refine⟨q,Ja,?_⟩;show(if(Sum.inr a:Kd)=.inr a then some (D.int q)else _)=_;rw[if_pos rfl]
  ·have h':l∈kv.map (·.1):=by
    rcases q_5.mp (show l∈a::kv.map (·.1)from h)with e|e;·exact absurd e.symm z
    ·exact e
   obtain⟨p,h1,h2⟩:=Af h';refine⟨p,JO _ h1,?_⟩;show(if(Sum.inr a:Kd)=.inr l then some (D.int q)else XD _ _ _)=_;rw[if_neg (by simpa using z)];exact h2
def Zj(q:Bk×List Plc):List (Str×Int):=(if Z1 q.1=""then[]else[(Z1 q.1,(q.2.getD 0 ⟨0,0,0⟩).p)])++Tf q.2 (iO q.1)
noncomputable def Yu:It->List Str|.mark l=>[l]|_=>[]
def JH(is:List It):List Str:=is.flatMap Yu
def YJ(b:Bk):List Str:=(if Z1 b=""then[]else[Z1 b])++JH (iO b)
def J3(bs:List Bk):List Str:=bs.flatMap YJ
theorem De(pls:List Plc):∀(is:List It)(s:List (Str×Int)×Nat),(is.foldl (VS pls) s).1.map (·.1)=s.1.map (·.1)++JH is|[],s=>by simp[JH]|i::is,s=>by rw[YA,De pls is];cases i<;>simp[VS,JH,Yu]
def I0(q:Bk×List Plc):(Zj q).map (·.1)=YJ q.1:=by
 unfold Zj YJ;rw[YQ];congr 1;·split<;>rfl
 ·exact De q.2 (iO q.1) ([],0)
theorem R9{α β:Type}(f:α->D)(g:β->D):∀(xs:List α)(ys:List β),VY (xs.map f) (ys.map g)=(xs.zip ys).map λq=>D.tup [f q.1,g q.2]|[],_=>by simp[VY]|_::_,[]=>by simp[VY]|x::xs,y::ys=>by show D.tup [f x,g y]::VY (xs.map f) (ys.map g)=_;rw[R9 f g xs ys];rfl
def Kh(c:List Plc)(rows:List (List Plc)):ZD (Qs (c::rows)) (some 1) none=some (Qs rows):=by show some (D.lst (J2 ((c::rows).map QP) (some 1) none))=_;unfold J2 ZK Qs;simp only[];rw[if_neg (by decide),ZT,JV];show some (D.lst (((QP c::rows.map QP).drop (min 1 ((rows.map QP).length+1))).take _))=_;rw[show min 1 ((rows.map QP).length+1)=1 from by omega,List.drop_succ_cons,drop_zero,List.take_of_length_le (by omega)]
def QeD(is:List It):(JH is).length<=is.length:=by unfold JH;induction is with|nil=>exact Qz _|cons i is ih=>
  rw[Y1,Qe,JV];have:(Yu i).length<=1:=by cases i<;>simp[Yu]
  omega
def FV(bs:List Bk):(J3 bs).length<=bs.length+(bs.flatMap iO).length:=by unfold J3;induction bs with|nil=>exact Qz _|cons b bs ih=>
  rw[Y1,Y1,Qe,Qe,JV];have h1:=QeD (iO b);have h2:(YJ b).length<=1+(iO b).length:=by unfold YJ;rw[Qe];split<;>simp<;>omega
  omega
theorem Mg{α β:Type}:∀(xs:List α)(ys:List β),ys.length=xs.length->(xs.zip ys).map (·.1)=xs|[],_,_=>by simp|x::xs,[],h=>by simp at h|x::xs,y::ys,h=>by simp at h⊢;exact Mg xs ys h
theorem N7{α β γ:Type}(f:α->List γ)(g:α×β->List (γ×Int))(hg:∀q,(g q).map (·.1)=f q.1):∀qs:List (α×β),(qs.flatMap g).map (·.1)=(qs.map (·.1)).flatMap f|[]=>rfl|q::qs=>by rw[Y1,YQ,hg,N7 f g hg qs];simp
def Qht(B T P Q:Option D)(u v:Option D)(kv mk:List (Str×Int))(hn:(kv++mk).map (·.1)|>.Nodup)(hl:(kv++mk).length<lI)(it:ZY)(hit:it [B,T,some (Qm kv),P,Q,u,v]=some (mk.map W9)):∃u' v',Jb it (JQ [gS 5,gS 6]) (Xs 2 (eV 5) (eV 6)) [B,T,some (Qm kv),P,Q,u,v]=some (.nx [B,T,some (Qm (kv++mk)),P,Q,u',v']):=by
 obtain⟨e',h1,u',v',h2⟩:=Ut (g:=JQ [gS 5,gS 6]) (b:=Xs 2 (eV 5) (eV 6)) W9 mk (λi e=>∃u v,e=[B,T,some (Qm (kv++mk.take i)),P,Q,u,v]) (by
  rintro i hi e⟨u,v,rfl⟩;obtain⟨⟨l,p⟩,hm⟩:∃q,mk[i]=q:=⟨_,rfl⟩;have cV:l∉(kv++mk.take i).map (·.1):=by
   have e1:kv++mk=(kv++mk.take i)++(mk[i]::mk.drop (i+1)):=by rw[Vy,<-O0 hi,O4]
   rw[e1,YQ,ZT,hm]at hn;intro z;exact(q_60.mp hn).2.2 l z l Ja rfl
  have bZ:(kv++mk.take i).length<lI:=by
   refine lt_of_le_of_lt ?_ hl;rw[Qe,Qe,Yy];omega
  have pd:=Ci (p:=p) cV bZ;rw[T1 hi,hm,<-Vy];refine⟨[B,T,some (Qm (kv++mk.take i++[(l,p)])),P,Q,QQ l,Q0 p],.inl ?_,_,_,rfl⟩;refine Jg rfl ?_;show(D.put (Qm (kv++mk.take i)) (.str l) (.int p)).map _=_;rw[pd];rfl) [B,T,some (Qm kv),P,Q,u,v] ⟨u,v,by rw[take_zero,Yx]⟩;subst h2;rw[VV]at h1;refine⟨u',v',?_⟩;unfold Jb;rw[hit];exact h1
def DR(bs:List Bk)(c:List Plc)(rows:List (List Plc))(hf:V9 bs)(hr:rows.length=bs.length)(hn:(J3 bs).Nodup)(hs:∀q∈bs.zip rows,q.2.length=W8 q.1)(ht:∀b∈bs,WJ (iO b)):UH [Q9 bs,Qs (c::rows)]=some (Qm ((bs.zip rows).flatMap Zj)):=by
 unfold UH K0;refine JS rfl ?_;refine st (e1:=[some (Q9 bs),some (Qs (c::rows)),some (Qm []),none,none,none,none]) rfl ?_;have keys:∀qs:List (Bk×List Plc),(qs.flatMap Zj).map (·.1)=(qs.map (·.1)).flatMap YJ:=N7 YJ Zj I0;have fP:((bs.zip rows).flatMap Zj).map (·.1)=J3 bs:=by rw[keys,Mg bs rows hr];rfl
 have mz:((bs.zip rows).flatMap Zj).length<=200000:=by
  have e:((bs.zip rows).flatMap Zj).length=(J3 bs).length:=by rw[<-fP,Qo]
  have:=FV bs;have:=hf.1;have:=hf.2;omega
 refine XQ (λq:Bk×List Plc=>D.tup [q.1.d,QP q.2]) (bs.zip rows) (λi e=>∃a b u v,e=[some (Q9 bs),some (Qs (c::rows)),some (Qm (((bs.zip rows).take i).flatMap Zj)),a,b,u,v]) ?_ ⟨none,none,none,none,rfl⟩ ?_ ?_
 ·have hc:JM (eV 1) (JJ (Q4 1)) JX [some (Q9 bs),some (Qs (c::rows)),some (Qm []),none,none,none,none]=some (Qs rows):=Kh c rows;unfold Wi;rw[hc];show some (VY (bs.map Bk.d) (rows.map QP))=_;rw[R9]
 ·rintro i hi e⟨a,b,u,v,rfl⟩;rw[fT _ _ _ hi];have hle:=N8 Zj (bs.zip rows) (i+1);rw[fT _ _ _ hi]at hle;have gD:(((bs.zip rows).take i).flatMap Zj++Zj (bs.zip rows)[i]).map (·.1)|>.Nodup:=by
   rw[<-fT _ _ _ hi];refine List.Nodup.sublist ?_ (fP▸hn);refine List.Sublist.map _ ?_;conv=>rhs;rw[<-O4 (i+1) (bs.zip rows),Yc]
   exact List.sublist_append_left _ _
  have hq:=hs (bs.zip rows)[i] (YB hi);have hb:(bs.zip rows)[i].1∈bs:=(Xn (YB hi)).1;generalize(bs.zip rows)[i]=q at*;generalize((bs.zip rows).take i).flatMap Zj=kv at*;obtain⟨x,pls⟩:=q;simp only[]at hq hb⊢;have tx:=ht x hb;have il:=UN hf x hb;have lb:=DO x;have io:=NI x;have pw:SR [.lst ((iO x).map It.d),QP pls,.str "mark"]=QA ((Tf pls (iO x)).map W9):=by
   refine QgG _ _ il ?_ tx;cases x with
   |para is=>exact le_of_eq hq.symm|_=>exact zero_le _
  obtain⟨eG,e2⟩:∃eG,kv++(if Z1 x=""then[]else[(Z1 x,(pls.getD 0 ⟨0,0,0⟩).p)])=eG:=⟨_,rfl⟩;have e3:kv++Zj (x,pls)=eG++Tf pls (iO x):=by rw[<-e2];unfold Zj;rw[Vy]
  rw[e3]at gD hle⊢;have bZ:(eG++Tf pls (iO x)).length<lI:=WM (by omega);generalize Q9 bs=BS at*;generalize Qs (c::rows)=TT at*;obtain⟨u',v',hm⟩:=Qht (some BS) (some TT) (some x.d) (some (QP pls)) u v eG (Tf pls (iO x)) gD bZ (J1 (eK SR (JI (eK Wg (QU (eV 3))) (eV 4) (QC "mark")))) (by unfold J1;rw[YE (JD rfl io) rfl rfl pw];rfl);refine⟨_,.inl ?_,some x.d,some (QP pls),u',v',rfl⟩;refine Jg (e1:=[some BS,some TT,some (Qm kv),some x.d,some (QP pls),u,v]) rfl ?_;refine st (e1:=[some BS,some TT,some (Qm eG),some x.d,some (QP pls),u,v]) ?_ hm;have ne:D.neO (.str (Z1 x)) (.str (Str.ofString ""))=QS (!decide (Z1 x=Str.ofString "")):=by simp[D.neO,JF,JC,D.cmpN]
  by_cases z:Z1 x=""
  ·rw[if_pos z,Yx]at e2;subst e2;exact QY (Q1 (JD rfl lb) rfl (by rw[ne,Z6 z];rfl)) rfl
  ·rw[if_neg z]at e2;subst e2;refine JR (Q1 (JD rfl lb) rfl (by rw[ne,JU z];rfl)) ?_;have np:pls.length=1:=by cases x<;>first|exact hq|exact absurd rfl z
   obtain⟨q0,rfl⟩:=List.length_eq_one_iff.mp np;have cV:Z1 x∉kv.map (·.1):=by
    rw[Vy,YQ]at gD;intro w;exact(q_60.mp gD).2.2 _ w (Z1 x) (by simp) rfl
   have pd:=Ci (p:=q0.p) cV (lt_of_le_of_lt (by simp only[Qe];omega) bZ);unfold Xs;have hA:WA (Q2 4 0) 0 [some BS,some TT,some (Qm kv),some x.d,some (QP [q0]),u,v]=Q0 q0.p:=rfl;have hB:eK Um (QU (eV 3)) [some BS,some TT,some (Qm kv),some x.d,some (QP [q0]),u,v]=QQ (Z1 x):=JD rfl lb;rw[hA,hB];show(D.put (Qm kv) (.str (Z1 x)) (.int q0.p)).map _=_;rw[pd];rfl
 ·rintro e⟨a,b,u,v,rfl⟩;rw[VV];exact ret rfl
def En(n:Int)(h0:0<=n)(h:n<10^60):SJ [.int n]=Q0 (Z4 n.toNat):=by
 obtain⟨m,rfl⟩:∃m:Nat,n=m:=⟨n.toNat,by omega⟩;have h':m<10^60:=by
  have:((10^60:Nat):Int)=10^60:=by decide
  omega
 have h2:m<2^1900:=lt_trans h' (by decide+kernel);have e1:D.strI (.int m)=QQ (Str.ofString (toString (m:Int))):=if_pos h2;have hs:=Hl m;have hd:=EF m h';have ln:=Yp (x:=Str.ofString (toString (m:Int))) (by omega);rw[hs]at ln;unfold SJ Lm;exact JS rfl (ret (JK (JK rfl e1) ln))
def HY{it:ZY}{e:QG}(is:List It)(hit:it e=some (is.map It.d))(hl:is.length<=1000000):JL 1 [] it (gS 0) (eK Wf (QU (eV 0))) (eV 0) e=QA ((is.filter Qx).map It.d):=Va (g:=gS 0) (n:=1) (caps:=[]) It.d is (λe=>∃v,e=[v]) Qx It.d hit (lB hl) ⟨none,rfl⟩ (by rintro i hm e⟨v,rfl⟩;exact⟨[some i.d],rfl,⟨_,rfl⟩,JD rfl (NF i),λh=>rfl⟩)
def DX(is:List It):D.len (.lst (is.map It.d))=Q0 is.length:=by show some (D.int (is.map It.d).length)=_;rw[Qo]
def QgF(w h:Int)(o li:Bool)(b:Bk)(hl:(iO b).length<=100000):SQ [b.d,QL w h o li]=Q0 (ZM li b):=by
 have it:=NG b;have io:=NI b;have UO:D.ix (QL w h o li) (.int 3)=QS li:=rfl;have plain:∀m:Int,((iO b).filter Qx).length=m->(QI (QJ (Q4 2) (YC (Q4 2) (QB D.len (JL 1 [] (J1 (eK Wg (QU (eV 0)))) (gS 0) (eK Wf (QU (eV 0))) (eV 0)))))) [some b.d,some (QL w h o li)]=some (.rt (.int (2+2*m))):=by
  intro m em;have hc:=HY (it:=J1 (eK Wg (QU (eV 0)))) (e:=[some b.d,some (QL w h o li)]) (iO b) (by unfold J1;rw[JD rfl io];rfl) (by omega);have ln:=DX ((iO b).filter Qx);rw[em]at ln;exact ret (Q1 rfl (Q1 rfl (JK hc ln) (Dv m)) rfl)
 unfold SQ KD;refine JS rfl ?_;cases b with
 |plates n l=>exact Y2 (JR (Q1 (x:=.str "plates") (Q1 (x:=(Bk.plates n l).d) rfl rfl rfl) rfl (by rw[Qb];simp)) (ret (Q1 rfl (Q1 (x:=(Bk.plates n l).d) rfl rfl rfl) rfl)))|para is=>refine st (QY (Q1 (x:=.str "para") (Q1 (x:=(Bk.para is).d) rfl rfl rfl) rfl (by rw[Qb];simp)) rfl) ?_;refine st (QY (VM (JD rfl it)) rfl) ?_;exact plain _ rfl|table rs l=>refine st (QY (Q1 (x:=.str "table") (Q1 (x:=(Bk.table rs l).d) rfl rfl rfl) rfl (by rw[Qb];simp)) rfl) ?_;refine st (QY (VM (JD rfl it)) rfl) ?_;exact plain 0 rfl|chapter t l=>refine st (QY (Q1 (x:=.str "chapter") (Q1 (x:=(Bk.chapter t l).d) rfl rfl rfl) rfl (by rw[Qb];simp)) rfl) ?_;cases li with|true=>exact Y2 (JR (Ye (JD rfl it) (Q1 rfl rfl UO)) (ret rfl))|false=>
   refine st (QY (Ye (JD rfl it) (Q1 rfl rfl UO)) rfl) ?_;exact plain 0 rfl|heading t k l=>
  refine st (QY (Q1 (x:=.str "heading") (Q1 (x:=(Bk.heading t k l).d) rfl rfl rfl) rfl (by rw[Qb];simp)) rfl) ?_;cases li with|true=>exact Y2 (JR (Ye (JD rfl it) (Q1 rfl rfl UO)) (ret rfl))|false=>refine st (QY (Ye (JD rfl it) (Q1 rfl rfl UO)) rfl) ?_;exact plain 0 rfl
def QgE(w h:Int)(o li:Bool)(bs:List Bk)(hf:V9 bs):N1 [Q9 bs,QL w h o li]=Q0 (most li bs):=by
 have hc:JL 1 [1] (J1 (eV 0)) (gS 0) (Jt true) (eK SQ (Qc (eV 0) (eV 1))) [some (Q9 bs),some (QL w h o li)]=QA ((bs.map (ZM li)).map .int):=by
  rw[Va (g:=gS 0) (n:=1) (caps:=[1]) (c:=Jt true) (el:=eK SQ (Qc (eV 0) (eV 1))) Bk.d bs (λe=>∃v,e=[v,some (QL w h o li)]) (λ_=>true) (λb=>.int (ZM li b)) rfl (lB (Zk hf.1 (by decide))) ⟨none,rfl⟩ (by rintro b hb e⟨v,rfl⟩;exact⟨[some b.d,some (QL w h o li)],rfl,⟨_,rfl⟩,rfl,λ_=>Zv rfl rfl (QgF w h o li b (UN hf b hb))⟩)];rw[XH,map_map];rfl
 have sm:D.sumL (.lst ((bs.map (ZM li)).map .int))=some (.int (bs.map (ZM li)).sum):=by
  show(intsOf ((bs.map (ZM li)).map .int)).map _=_;rw[IC];rfl
 have me:most li bs=3+(bs.map (ZM li)).sum:=by unfold most;rw[P1]
 rw[me];unfold N1 KC;exact JS rfl (ret (Q1 rfl (JK hc sm) rfl))
def QhQ(w h:Int)(o li:Bool)(bs:List Bk)(hf:V9 bs)(h0:0<=most li bs)(h1:most li bs<10^60):N4 [Q9 bs,QL w h o li]=Q0 (Z4 (most li bs).toNat):=by unfold N4 KN;exact JS rfl (ret (JD (Zv rfl rfl (QgE w h o li bs hf)) (En _ h0 h1)))
def FF(xs:List Str)(w:Int)(hl:xs.length<=1000000)(hx:∀x∈xs,x.length<=1000000)(hw:∀x∈xs,(x.length:Int)<=w):Rm [QR xs,.int w]=QS false:=by
 have hc:JL 1 [1] (J1 (eV 0)) (gS 0) (Jt true) (Q5 D.gt (QB D.len (eV 0)) (eV 1)) [some (QR xs),Q0 w]=QA (xs.map λ_=>.bl false):=by
  rw[Va (g:=gS 0) (n:=1) (caps:=[1]) (c:=Jt true) (el:=Q5 D.gt (QB D.len (eV 0)) (eV 1)) D.str xs (λe=>∃v,e=[v,Q0 w]) (λ_=>true) (λ_=>.bl false) rfl (lB hl) ⟨none,rfl⟩ (by
   rintro x hb e⟨v,rfl⟩;refine⟨[QQ x,Q0 w],rfl,⟨_,rfl⟩,rfl,λ_=>Q1 (JK rfl (Yp (hx x hb))) rfl ?_⟩;have:=hw x hb;show some (D.bl (decide (w<(x.length:Int))))=_;rw[JU (by omega)])];rw[XH]
 have ay:∀xs:List Str,D.anyL (.lst (xs.map λ_=>.bl false))=QS false:=by
  intro xs;have:U3 (xs.map λ_=>D.bl false)=some (xs.map λ_=>false):=by induction xs with
   |nil=>rfl|cons x xs ih=>
    show(U3 (xs.map λ_=>D.bl false)).map _=_;rw[ih];rfl
  show(U3 (xs.map λ_=>D.bl false)).map _=_;rw[this];show some (D.bl ((xs.map λ_=>false).any id))=_;simp
 unfold Rm Lh;exact JS rfl (ret (JK hc (ay xs)))
def Tx:Bk->Prop|.chapter t _=>t.length<=1000|.heading t _ _=>t.length<=1000|.table rs _=>rs.length<=1000/\∀r∈rs,r.length<=1000|.para is=>∀i∈is,XT i|.plates _ _=>True
def Qi5(w h:Int)(o li:Bool)(af:Int)(b:Bk)(h0:0<=af)(hs:Tx b)(hf:WE af w h b):Ul [b.d,QL w h o li,.int af]=QS false:=by
 have it:=NG b;have UO:D.ix (QL w h o li) (.int 3)=QS li:=rfl;have fo:D.ix (QL w h o li) (.int 0)=Q0 w:=rfl;have tit:∀(t:Str),D.ix b.d (.int 1)=QQ t->t.length<=1000->(t.length:Int)+2+af<=w->Yo b=true->Ul [b.d,QL w h o li,.int af]=QS false:=by
  intro t i1 tl tw tt;rw[tt]at it;unfold Ul S6;refine JS rfl (Y2 (JR (JD rfl it) ?_));refine st (e1:=[some b.d,some (QL w h o li),Q0 af,Q0 (if li then 2+af else 0)]) ?_ ?_
  ·refine J0 ?_ rfl;unfold Zb;have hX:Q2 1 3 (sD 4 [b.d,QL w h o li,.int af])=QS li:=Q1 (x:=QL w h o li) rfl rfl UO;rw[hX,Qj];cases li<;>rfl
  ·refine ret (Q1 (Q1 (JK (Q1 (x:=b.d) rfl rfl i1) (Yp (by omega))) rfl rfl) (Q1 rfl rfl fo) ?_);show some (D.bl (decide (w<(t.length:Int)+_)))=_;rw[JU (by cases li<;>simp<;>omega)]
 cases b with
 |chapter t l=>exact tit t rfl hs hf rfl|heading t k l=>exact tit t rfl hs hf.1 rfl|table rs l=>
  have al:=FF rs w (by have:=hs.1;omega) (λx hx=>by have:=hs.2 x hx;omega) hf.2;unfold Ul S6;refine JS rfl (st (QY (JD rfl it) rfl) (ret ?_));exact Ye (Q1 (x:=.str "table") (Q1 (x:=(Bk.table rs l).d) rfl rfl rfl) rfl (by rw[Qb];simp)) (Zv (Q1 (x:=(Bk.table rs l).d) rfl rfl rfl) (Q1 rfl rfl fo) al)|para is=>unfold Ul S6;exact JS rfl (st (QY (JD rfl it) rfl) (ret (VM (Q1 (x:=.str "para") (Q1 (x:=(Bk.para is).d) rfl rfl rfl) rfl (by rw[Qb];simp)))))|plates n l=>unfold Ul S6;exact JS rfl (st (QY (JD rfl it) rfl) (ret (VM (Q1 (x:=.str "plates") (Q1 (x:=(Bk.plates n l).d) rfl rfl rfl) rfl (by rw[Qb];simp)))))
def Qdw(w h:Int)(o li:Bool)(af:Int)(b:Bk)(hf:WE af w h b):Ow [b.d,QL w h o li]=QS false:=by have gz:D.ix (QL w h o li) (.int 1)=Q0 h:=rfl;unfold Ow Lr;refine JS rfl ?_;cases b with|heading t k l=>refine Y2 (JR (Q1 (x:=.str "heading") (Q1 (x:=(Bk.heading t k l).d) rfl rfl rfl) rfl (by rw[Qb];simp)) (ret (Q1 (Q1 (Q1 (x:=(Bk.heading t k l).d) rfl rfl rfl) rfl rfl) (Q1 rfl rfl gz) ?_)));have:=hf.2;show some (D.bl (decide (h<k+1)))=_;rw[JU (by omega)]|table rs l=>refine st (QY (Q1 (x:=.str "table") (Q1 (x:=(Bk.table rs l).d) rfl rfl rfl) rfl (by rw[Qb];simp)) rfl) (ret ?_);refine Ye (Q1 (x:=.str "table") (Q1 (x:=(Bk.table rs l).d) rfl rfl rfl) rfl (by rw[Qb];simp)) (Q1 (JK (Q1 (x:=(Bk.table rs l).d) rfl rfl rfl) (Us rs)) (Q1 rfl rfl gz) ?_);have:=hf.1;show some (D.bl (decide (h<(rs.length:Int))))=_;rw[JU (by omega)]|chapter t l=>exact st (QY (Q1 (x:=.str "chapter") (Q1 (x:=(Bk.chapter t l).d) rfl rfl rfl) rfl (by rw[Qb];simp)) rfl) (ret (VM (Q1 (x:=.str "chapter") (Q1 (x:=(Bk.chapter t l).d) rfl rfl rfl) rfl (by rw[Qb];simp))))|para is=>exact st (QY (Q1 (x:=.str "para") (Q1 (x:=(Bk.para is).d) rfl rfl rfl) rfl (by rw[Qb];simp)) rfl) (ret (VM (Q1 (x:=.str "para") (Q1 (x:=(Bk.para is).d) rfl rfl rfl) rfl (by rw[Qb];simp))))|plates n l=>exact st (QY (Q1 (x:=.str "plates") (Q1 (x:=(Bk.plates n l).d) rfl rfl rfl) rfl (by rw[Qb];simp)) rfl) (ret (VM (Q1 (x:=.str "plates") (Q1 (x:=(Bk.plates n l).d) rfl rfl rfl) rfl (by rw[Qb];simp))))
def Qi6(w h:Int)(o li:Bool)(af:Int)(i:It)(hs:XT i)(hf:Xy af w h i):Oz [i.d,QL w h o li,.int af]=QS false:=by have fo:D.ix (QL w h o li) (.int 0)=Q0 w:=rfl;unfold Oz Lx;refine JS rfl ?_;cases i with|word x ns=>have ad:D.add (.lst [.str x]) (QR ns)=some (QR (x::ns)):=U0 (f:=D.str) (xs:=[x]) (ys:=ns) (Dc (by have:=hs.2.1;omega));have al:=FF (x::ns) w (by have:=hs.2.1;simp;omega) (λy hy=>by rcases q_5.mp hy with z|z;rw[z];have:=hs.1;omega;have:=hs.2.2 y z;omega) (λy hy=>by rcases q_5.mp hy with z|z;rw[z];exact hf.1;exact hf.2.2 y z);exact Y2 (JR (Q1 (x:=.str "word") (Q1 (x:=(It.word x ns).d) rfl rfl rfl) rfl (by rw[Qb];simp)) (ret (Zv (Q1 (x:=.lst [.str x]) (y:=QR ns) rfl rfl ad) (Q1 rfl rfl fo) al)))|ref l a b=>refine st (QY (Q1 (x:=.str "ref") (Q1 (x:=(It.ref l a b).d) rfl rfl rfl) rfl (by rw[Qb];simp)) rfl) (ret ?_);refine Ye (Q1 (x:=.str "ref") (Q1 (x:=(It.ref l a b).d) rfl rfl rfl) rfl (by rw[Qb];simp)) (Q1 (Q1 (Q1 (JK (Q1 (x:=(It.ref l a b).d) rfl rfl rfl) (Yp (by have:=hs.1;omega))) rfl rfl) (JK (Q1 (x:=(It.ref l a b).d) rfl rfl rfl) (Yp (by have:=hs.2;omega))) rfl) (Q1 rfl rfl fo) ?_);have hf':(a.length:Int)+af+b.length<=w:=hf;show some (D.bl (decide (w<(a.length:Int)+af+b.length)))=_;rw[JU (by omega)]|mark l=>exact st (QY (Q1 (x:=.str "mark") (Q1 (x:=(It.mark l).d) rfl rfl rfl) rfl (by rw[Qb];simp)) rfl) (ret (VM (Q1 (x:=.str "mark") (Q1 (x:=(It.mark l).d) rfl rfl rfl) rfl (by rw[Qb];simp))))|key l=>exact st (QY (Q1 (x:=.str "key") (Q1 (x:=(It.key l).d) rfl rfl rfl) rfl (by rw[Qb];simp)) rfl) (ret (VM (Q1 (x:=.str "key") (Q1 (x:=(It.key l).d) rfl rfl rfl) rfl (by rw[Qb];simp))))
def Qdx(w h:Int)(o li:Bool)(af:Int)(i:It)(hf:Xy af w h i):Ox [i.d,QL w h o li]=QS false:=by have gz:D.ix (QL w h o li) (.int 1)=Q0 h:=rfl;unfold Ox Ls;refine JS rfl (ret ?_);cases i with|word x ns=>refine Ye (Q1 (x:=.str "word") (Q1 (x:=(It.word x ns).d) rfl rfl rfl) rfl (by rw[Qb];simp)) (Q1 (Q1 (JK (Q1 (x:=(It.word x ns).d) rfl rfl rfl) (Us ns)) rfl rfl) (Q1 rfl rfl gz) ?_);have:=hf.2.1;show some (D.bl (decide (h<(ns.length:Int)+1)))=_;rw[JU (by omega)]|ref l a b=>exact VM (Q1 (x:=.str "ref") (Q1 (x:=(It.ref l a b).d) rfl rfl rfl) rfl (by rw[Qb];simp))|mark l=>exact VM (Q1 (x:=.str "mark") (Q1 (x:=(It.mark l).d) rfl rfl rfl) rfl (by rw[Qb];simp))|key l=>exact VM (Q1 (x:=.str "key") (Q1 (x:=(It.key l).d) rfl rfl rfl) rfl (by rw[Qb];simp))
def lc{a:Q7}{l:ZC}{e:QG}{x:D}{xs:List D}(ha:a e=some x)(hl:l e=some xs):lC a l e=some (x::xs):=by unfold lC;rw[ha,hl];rfl
def MU{n k:Nat}{b:QH}{ds:List D}{e:QG}{d:D}(hl:ds.length=k)(h:b (sD n ds)=some (.nx e))(he:(e[k-1]?).join=some d):Xd n k b ds=some d:=by unfold Xd;rw[if_pos hl,h];exact he
def RP{i:Nat}{f:List D->Option D}{l:ZC}{e:QG}{ds:List D}{d z:D}(hl:l e=some ds)(hd:eV i e=some d)(hf:f (ds++[d])=some z):XN i f l e=some (.nx (e.set i (some z))):=by unfold XN;rw[hl,hd];show(f (ds++[d])).map _=_;rw[hf];rfl
noncomputable def Jj(ls:List Str):D:=.dic (ls.map Sum.inr) (ls.map λ_=>.bl true)
def Kz(l:Str)(ls:List Str):hasK (.inr l) (ls.map Sum.inr)=decide (l∈ls):=by unfold hasK;induction ls with|nil=>simp|cons a ls ih=>
  rw[ZT,any_cons,ih];by_cases z:a=l;·subst z;simp
  ·have:¬l=a:=λq=>z q.symm;simp[z,this]
def F9(l:Str)(n:Int)(ls:List Str)(h:l∉ls)(hl:ls.length<lI):Rl [.str l,.int n,Jj ls]=some (Jj (ls++[l])):=by
 have hi:D.dIn (.str l) (Jj ls)=QS false:=by
  show some (D.bl (hasK (.inr l) (ls.map Sum.inr)))=_;rw[Kz,JU h]
 have pd:D.put (Jj ls) (.str l) (.bl true)=some (Jj (ls++[l])):=by
  show(if(ls.map Sum.inr:List Kd).length<lI then some (Xb _ _ (.inr l) (.bl true))else none)=_;rw[if_pos (by rw[Qo];exact hl)];unfold Xb;rw[Kz,if_neg (by simpa using h)];unfold Jj;rw[YQ,YQ];rfl
 unfold Rl Lg;refine MU (e:=[QQ l,Q0 n,some (Jj (ls++[l]))]) rfl ?_ rfl;refine st (QY (Q1 rfl rfl hi) rfl) ?_;show(D.put (Jj ls) (.str l) (.bl true)).map _=_;rw[pd];rfl
def Ur(b:Bk):List Str:=if Z1 b=""then[]else[Z1 b]
def Qet(w h:Int)(o li:Bool)(af:Int)(b:Bk)(n:Int)(ls:List Str)(h0:0<=af)(hs:Tx b)(hf:WE af w h b)(hn:∀l∈Ur b,l∉ls)(hl:ls.length<lI):Rp [b.d,.int n,QL w h o li,.int af,Jj ls]=some (Jj (ls++Ur b)):=by
 have a1:=Qi5 w h o li af b h0 hs hf;have a2:=Qdw w h o li af b hf;have a3:=DO b;have ne:D.neO (.str (Z1 b)) (.str (Str.ofString ""))=QS (!decide (Z1 b=Str.ofString "")):=by simp[D.neO,JF,JC,D.cmpN]
 unfold Rp K5;refine MU (e:=[some b.d,Q0 n,some (QL w h o li),Q0 af,some (Jj (ls++Ur b))]) rfl ?_ rfl;refine st (QY (YE rfl rfl rfl a1) rfl) ?_;refine st (QY (Zv rfl rfl a2) rfl) ?_;unfold Ur at hn⊢;by_cases z:Z1 b="";·rw[if_pos z,Yx];exact QY (Q1 (JD rfl a3) rfl (by rw[ne,Z6 z];rfl)) rfl
 ·rw[if_neg z]at hn⊢;have al:=F9 (Z1 b) n ls (hn _ (by simp)) hl;refine JR (Q1 (JD rfl a3) rfl (by rw[ne,JU z];rfl)) ?_;exact RP (ds:=[.str (Z1 b),.int n]) (lc (JD rfl a3) rfl) rfl al
def Qev(w h:Int)(o li:Bool)(af:Int)(i:It)(n:Int)(ls:List Str)(hs:XT i)(hf:Xy af w h i)(hn:∀l∈Yu i,l∉ls)(hl:ls.length<lI):Rq [i.d,.int n,QL w h o li,.int af,Jj ls]=some (Jj (ls++Yu i)):=by have a1:=Qi6 w h o li af i hs hf;have a2:=Qdx w h o li af i hf;unfold Rq K6;refine MU (e:=[some i.d,Q0 n,some (QL w h o li),Q0 af,some (Jj (ls++Yu i))]) rfl ?_ rfl;refine st (QY (YE rfl rfl rfl a1) rfl) ?_;refine st (QY (Zv rfl rfl a2) rfl) ?_;cases i with|mark l=>have al:=F9 l n ls (hn l (by simp[Yu])) hl;exact JR (Q1 (x:=.str "mark") (Q1 (x:=(It.mark l).d) rfl rfl rfl) rfl (by rw[Qb];simp)) (RP (ds:=[.str l,.int n]) rfl rfl al)|word x ns=>have e:Yu (.word x ns)=[]:=rfl;rw[e,Yx];exact QY (Q1 (x:=.str "word") (Q1 (x:=(It.word x ns).d) rfl rfl rfl) rfl (by rw[Qb];simp)) rfl|ref l x y=>have e:Yu (.ref l x y)=[]:=rfl;rw[e,Yx];exact QY (Q1 (x:=.str "ref") (Q1 (x:=(It.ref l x y).d) rfl rfl rfl) rfl (by rw[Qb];simp)) rfl|key x=>have e:Yu (.key x)=[]:=rfl;rw[e,Yx];exact QY (Q1 (x:=.str "key") (Q1 (x:=(It.key x).d) rfl rfl rfl) rfl (by rw[Qb];simp)) rfl
def QeR(is:List It)(i:Nat)(hi:i<is.length):Jl (is.take (i+1))=Jl (is.take i)+if Qx is[i]then 1 else 0:=by unfold Jl;rw[T1 hi,List.filter_append,Qe];congr 1;cases q:Qx is[i]<;>simp[q]
def Dx(is:List It)(i:Nat):Jl (is.take i)<=Jl is:=((take_sublist i is).filter _).length_le
def Qew(w h:Int)(o li:Bool)(af:Int)(is:List It)(n:Int)(ls:List Str)(hl:is.length<=100000)(hs:∀i∈is,XT i)(hf:∀i∈is,Xy af w h i)(ht:WJ is)(hn:(ls++JH is).Nodup)(kY:(ls++JH is).length<lI):Rr [.lst (is.map It.d),.int n,QL w h o li,.int af,Jj ls]=some (Jj (ls++JH is)):=by
 have body:∃e,OP (sD 7 [.lst (is.map It.d),.int n,QL w h o li,.int af,Jj ls])=some (.nx e)/\∃a b,e=[QA (is.map It.d),Q0 n,some (QL w h o li),Q0 af,some (Jj (ls++JH is)),a,b]:=by
  unfold OP;have hc:=HY (it:=J1 (eV 0)) (e:=sD 7 [.lst (is.map It.d),.int n,QL w h o li,.int af,Jj ls]) is rfl (by omega);have ln:=DX (is.filter Qx);have e1:((is.filter Qx).length:Int)=(Jl is:Int):=rfl;rw[e1]at ln;obtain⟨e',h1,a,b,h2⟩:=Ut (g:=gS 6) (b:=sQ (XN 4 Rq (ZB (eV 6) (eV 1) (eV 2) (eV 3))) (QD (eK Wf (QU (eV 6))) (ZV 5 D.sub (Q4 1)) (QD (QO (eV 5) (Q4 0)) (X6) (QE)))) It.d is (λi e=>∃a b,e=[QA (is.map It.d),Q0 n,some (QL w h o li),Q0 af,some (Jj (ls++JH (is.take i))),a,b]/\a=Q0 ((Jl is:Int)-Jl (is.take i))) (by
   rintro i hi e⟨a,b,rfl,rfl⟩;have tk:JH (is.take (i+1))=JH (is.take i)++Yu is[i]:=fT Yu is i hi;have hm:is[i]∈is:=YB hi;have bK:=NF is[i];have nt:=QeR is i hi;have nl:=Dx is (i+1);have hT:=ht i hi;have split:ls++JH is=(ls++JH (is.take i))++(Yu is[i]++JH (is.drop (i+1))):=by
    have:JH is=JH (is.take (i+1))++JH (is.drop (i+1)):=by unfold JH;rw[<-Yc,O4]
    rw[this,tk];simp[Vy]
   have cV:∀l∈Yu is[i],l∉ls++JH (is.take i):=λl h1 h2=>by
    rw[split]at hn;exact(q_60.mp hn).2.2 l h2 l (Vi _ h1) rfl
   have bZ:(ls++JH (is.take i)).length<lI:=by
    rw[split,Qe]at kY;omega
   have gv:=Qev w h o li af is[i] n (ls++JH (is.take i)) (hs _ hm) (hf _ hm) cV bZ;rw[tk,<-Vy];generalize is[i]=x at*;refine⟨[QA (is.map It.d),Q0 n,some (QL w h o li),Q0 af,some (Jj (ls++JH (is.take i)++Yu x)),Q0 ((Jl is:Int)-Jl (is.take (i+1))),some x.d],.inl ?_,_,_,rfl,rfl⟩;refine Jg rfl ?_;refine st (RP (ds:=[x.d,.int n,QL w h o li,.int af]) rfl rfl gv) ?_;cases q:Qx x with|true=>rw[q]at bK nt;refine JR (JD rfl bK) ?_;rw[nt,if_pos rfl,show((Jl is:Int)-((Jl (is.take i)+1:Nat):Int))=(Jl is:Int)-Jl (is.take i)-1 from by omega];rfl|false=>
    rw[q]at bK nt;have:=hT q;refine QY (JD rfl bK) (QY (Q1 rfl rfl ?_) ?_);·simp[D.eqO,J6,J9,D.cmp];omega
    ·rw[nt,if_neg (by decide),Nat.add_zero];rfl) [QA (is.map It.d),Q0 n,some (QL w h o li),Q0 af,some (Jj ls),Q0 (Jl is),none] ⟨Q0 (Jl is),none,by rw[take_zero];simp[JH],by rw[take_zero];simp[Jl]⟩;obtain⟨h2,h3⟩:=h2;rw[VV]at h2;refine⟨e',?_,a,b,h2⟩;refine st (J0 (JK hc ln) rfl) ?_;unfold Jb;exact h1
 obtain⟨e,h1,a,b,rfl⟩:=body;unfold Rr;exact MU rfl h1 rfl
def A8{n k:Nat}{b:QH}{ds:List D}{e:QG}(hl:ds.length=k)(h:b (sD n ds)=some (.nx e)):QV n k b ds=some .non:=by unfold QV;rw[if_pos hl,h];rfl
def Qe6(l:Str)(ls:List Str)(h:l∈ls):D.dNotIn (.str l) (Jj ls)=QS false:=by show some (D.bl (!hasK (.inr l) (ls.map Sum.inr)))=_;rw[Kz,Z6 h];rfl
def Qex(bs:List Bk)(ls:List Str)(hf:V9 bs)(hr:∀l∈rO bs,l∈ls):Rt [Q9 bs,Jj ls]=some .non:=by
 obtain⟨e',h1,_⟩:=Ut (g:=JQ [gS 2,gS 3]) (b:=Jb (J1 (eK Vp (QU (QF (QU (eV 3)))))) (gS 4) (QD (Q5 D.dNotIn (eV 4) (eV 1)) (X6) (QE))) (λp:Bk×Nat=>D.tup [.int p.2,p.1.d]) bs.zipIdx (λi e=>∃a b c,e=[some (Q9 bs),some (Jj ls),a,b,c]) (by
  rintro i hi e⟨a,b,c,rfl⟩;have hi':i<bs.length:=by simpa using hi
  have ei:bs.zipIdx[i]=(bs[i],i):=by simp
  rw[ei];have hm:bs[i]∈bs:=YB hi';have f1:=Ej hf _ hm;have rf:=MM [bs[i]] f1;rw[Ct]at rf;have gT:Vp [.lst [bs[i].d]]=some (QR (Qu (iO bs[i]))):=rf;have ij:∀l∈Qu (iO bs[i]),l∈ls:=λl hl=>hr l (List.mem_flatMap.mpr ⟨bs[i],hm,hl⟩);generalize Qu (iO bs[i])=rs at*;generalize bs[i]=x at*;obtain⟨e2,g1,c',g2⟩:=Ut (g:=gS 4) (b:=QD (Q5 D.dNotIn (eV 4) (eV 1)) (X6) (QE)) D.str rs (λ_ e=>∃c,e=[some (Q9 bs),some (Jj ls),Q0 i,some x.d,c]) (by rintro j hj e⟨c,rfl⟩;have nn:=Qe6 rs[j] ls (ij _ (YB hj));exact⟨_,.inl (Jg (e1:=[some (Q9 bs),some (Jj ls),Q0 i,some x.d,some (.str rs[j])]) rfl (QY (Q1 rfl rfl nn) rfl)),_,rfl⟩) [some (Q9 bs),some (Jj ls),Q0 i,some x.d,c] ⟨c,rfl⟩;subst g2;refine⟨[some (Q9 bs),some (Jj ls),Q0 i,some x.d,c'],.inl (Jg (e1:=[some (Q9 bs),some (Jj ls),Q0 i,some x.d,c]) rfl ?_),Q0 i,some x.d,c',rfl⟩;·unfold Jb J1;have hR:eK Vp (QU (QF (QU (eV 3)))) [some (Q9 bs),some (Jj ls),Q0 i,some x.d,c]=some (QR rs):=JD (x:=.lst [x.d]) rfl gT;rw[hR];exact g1) [some (Q9 bs),some (Jj ls),none,none,none] ⟨none,none,none,rfl⟩;unfold Rt K7;refine A8 (e:=e') rfl ?_;unfold Jb Xh;show(some (Wc 0 (bs.map Bk.d))).bind _=_;rw[Rf];exact h1
def Qey(w h:Int)(o li:Bool)(bs:List Bk)(hf:V9 bs)(hw:4<=w/\w<=90/\2<=h/\h<=60)(h0:0<=most li bs)(h1:most li bs<10^60)(hs:∀b∈bs,Tx b)(ht:∀b∈bs,Tz b)(cW:∀b∈bs,WE (Z4 (most li bs).toNat) w h b)(kI:∀b∈bs,WJ (iO b))(hn:(J3 bs).Nodup)(hr:∀l∈rO bs,l∈J3 bs):Uo [Q9 bs,QL w h o li]=some .non:=by
 have si:Oy [QL w h o li]=QS true:=by unfold Oy Lv QL;simp[Jk,JM,ZD,lI,QV,sD,sQ,QD,QI,V2,Q6,ZV,Zg,QE,V1,YD,gS,JQ,Z9,eV,eC,Q5,QB,JT,Qn,Qa,Zb,Zy,QN,QF,eK,lN,lC,Zn,JX,JJ,Yi,D.len,D.lt,D.le,D.gt,D.ge,D.add,D.sub,D.ix,D.eqO,D.neO,D.cmp,D.cmpN,D.inst,ZX,D.isT,D.intB,D.min2,D.max2,D.neg,D.addI,Qj,Yv,Yn,Yw,Jf,Jq,V3,V4,V6,V5,Yl,Yk,Yj,Yg,Ys,Y3,YW,YV,J6,JF,ZP,ZO,ZZ,ZI,D.rng,D.its,D.itsT,J9,Ym,JC,YX,Zz,Zp,Y5,JN,hw.1,hw.2.1,hw.2.2.1,hw.2.2.2]
 have ra:=QhQ w h o li bs hf h0 h1;have lr:=Qex bs (J3 bs) hf hr;have hbl:=FV bs;obtain⟨af,er⟩:∃af:Int,(Z4 (most li bs).toNat:Int)=af:=⟨_,rfl⟩;rw[er]at ra cW;have r0:0<=af:=by omega
 obtain⟨e',g1,g2⟩:=Ut (g:=JQ [gS 4,gS 5]) (b:=sQ (XN 3 Rp (ZB (eV 5) (eV 4) (eV 1) (eV 2))) (XN 3 Rr (ZB (eK Wg (QU (eV 5))) (eV 4) (eV 1) (eV 2)))) (λp:Bk×Nat=>D.tup [.int p.2,p.1.d]) bs.zipIdx (λi e=>∃a b,e=[some (Q9 bs),some (QL w h o li),Q0 af,some (Jj (J3 (bs.take i))),a,b]) (by
  rintro i hi e⟨a,b,rfl⟩;have hi':i<bs.length:=by simpa using hi
  have ei:bs.zipIdx[i]=(bs[i],i):=by simp
  rw[ei];have hm:bs[i]∈bs:=YB hi';have tk:J3 (bs.take (i+1))=J3 (bs.take i)++YJ bs[i]:=fT YJ bs i hi';have lb:YJ bs[i]=Ur bs[i]++JH (iO bs[i]):=rfl;have sub:(J3 (bs.take (i+1))).Nodup:=by
   refine List.Nodup.sublist ?_ hn;unfold J3;conv=>rhs;rw[<-O4 (i+1) bs,Yc]
   exact List.sublist_append_left _ _
  have len:(J3 (bs.take (i+1))).length<=(J3 bs).length:=N8 YJ bs (i+1);have hlen:(J3 bs).length<=200000:=by have:=hf.1;have:=hf.2;omega
  have io:=NI bs[i];have il:=UN hf _ hm;rw[tk,lb,<-Vy]at sub len;rw[tk,lb,<-Vy];have sN:=sub;rw[Vy]at sN;have ku:=Qet w h o li af bs[i] i (J3 (bs.take i)) r0 (hs _ hm) (cW _ hm) (λl h1 h2=>(q_60.mp sN).2.2 l h2 l (Vi _ h1) rfl) (WM (by rw[Qe,Qe]at len;omega));have kr:=Qew w h o li af (iO bs[i]) i (J3 (bs.take i)++Ur bs[i]) il (ht _ hm) (by have:=cW _ hm;intro j hj;cases q:bs[i]with|para is=>rw[q]at this hj;exact this j hj|_=>rw[q]at hj;cases hj) (kI _ hm) sub (WM (by omega));generalize bs[i]=x at*;refine⟨[some (Q9 bs),some (QL w h o li),Q0 af,some (Jj (J3 (bs.take i)++Ur x++JH (iO x))),Q0 i,some x.d],.inl ?_,_,_,rfl⟩;refine Jg rfl ?_;refine st (e1:=[some (Q9 bs),some (QL w h o li),Q0 af,some (Jj (J3 (bs.take i)++Ur x)),Q0 i,some x.d]) (RP (ds:=[x.d,.int i,QL w h o li,.int af]) rfl rfl ku) ?_;exact RP (ds:=[.lst ((iO x).map It.d),.int i,QL w h o li,.int af]) (lc (JD rfl io) rfl) rfl kr) [some (Q9 bs),some (QL w h o li),Q0 af,some (Jj []),none,none] ⟨none,none,rfl⟩;obtain⟨a,b,rfl⟩:=g2;have zl:bs.zipIdx.length=bs.length:=by simp
 rw[zl,VV]at g1;unfold Uo K4;refine A8 (e:=[some (Q9 bs),some (QL w h o li),Q0 af,some (Jj (J3 bs)),a,b]) rfl ?_;refine st (QY (Th (b:=true) (JD rfl si)) rfl) ?_;refine st (e1:=[some (Q9 bs),some (QL w h o li),Q0 af,none,none,none]) (J0 (Zv rfl rfl ra) rfl) ?_;refine st (e1:=[some (Q9 bs),some (QL w h o li),Q0 af,some (Jj []),none,none]) rfl ?_;refine st (e1:=[some (Q9 bs),some (QL w h o li),Q0 af,some (Jj (J3 bs)),a,b]) ?_ ?_
 ·unfold Jb Xh;show(some (Wc 0 (bs.map Bk.d))).bind _=_;rw[Rf];exact g1
 ·unfold Zg;have hR:eK Rt (Qc (eV 0) (eV 3)) [some (Q9 bs),some (QL w h o li),Q0 af,some (Jj (J3 bs)),a,b]=some .non:=Zv rfl rfl lr;rw[hR];rfl
def QdM(i:It):Qx i=!isMK i:=by cases i<;>rfl
def Hr{r:List It}{x:It}(hx:Qx x=true):WJ (r++[x]):=by
 intro i hi h;have hl:(r++[x]).length=r.length+1:=by simp
 have jD:i<r.length:=by
  rcases VU i r.length with z|z;·exact z
  ·have e:i=r.length:=by omega
   subst e;have:(r++[x])[r.length]=x:=by simp
   rw[this,hx]at h;cases h
 have e1:(r++[x]).take i=r.take i:=by rw[List.take_append_of_le_length (by omega)]
 have e2:Jl (r++[x])=Jl r+1:=by unfold Jl;rw[List.filter_append,Qe];simp[hx]
 rw[e1,e2];have:=Dx r i;omega
def Ma:WJ []:=λi hi=>by simp at hi
def QiN(row:List It):WJ (Qt row):=by
 rcases Cy row with z|⟨r,x,z⟩;·subst z;exact Ma
 ·have cl:Qt row=if isMK x then row++[.word "end" []]else row:=by unfold Qt;rw[z];simp
  rw[cl];cases q:isMK x with|true=>rw[if_pos rfl];exact Hr rfl|false=>rw[if_neg (by decide),z];exact Hr (by rw[QdM,q];rfl)
theorem D3:∀(as:List At)(s:List Bk×List It),(∀a∈as,XS a\/a=.fin)->(∀b∈s.1,WJ (iO b))->∀b∈(as.foldl ZE s).1,WJ (iO b)
 |[],s,_,h=>h|a::as,s,ha,h=>by
  refine D3 as (ZE s a) (λx hx=>ha x (JO _ hx)) λb hb=>?_;obtain⟨bs,row⟩:=s;have tc:WJ (iO (.para (Qt row))):=QiN row;have h1:∀b∈bs++[Bk.para (Qt row)],WJ (iO b):=λb hb=>by
   rcases q_7.mp hb with z|z;·exact h b z
   ·rw[q_2.mp z];exact tc
  have h2:∀b∈(if Qt row=[]then bs else bs++[.para (Qt row)]),WJ (iO b):=λb hb=>by
   split at hb;·exact h b hb
   ·exact h1 b hb
  cases a with
  |it i=>exact h b hb|bk x=>
   rcases q_7.mp hb with z|z;·exact h2 b z
   ·rw[q_2.mp z];rcases ha (.bk x) Ja with q|q;·cases x<;>first|exact Ma|exact q.elim
    ·cases q|brk=>exact h1 b hb|fin=>exact h2 b hb
theorem P4(P:It->Prop)(he:P (.word "end" [])):∀(as:List At)(s:List Bk×List It),(∀a∈as,XS a\/a=.fin)->(∀i,At.it i∈as->P i)->(∀b∈s.1,∀i∈iO b,P i)->(∀i∈s.2,P i)->∀b∈(as.foldl ZE s).1,∀i∈iO b,P i
 |[],s,_,_,h,_=>h|a::as,s,ha,hi,h,dj=>by
  obtain⟨bs,row⟩:=s;have hc:∀i∈Qt row,P i:=λi hi=>by
   unfold Qt at hi;split at hi
   ·split at hi
    ·rcases q_7.mp hi with z|z;·exact dj i z
     ·rw[q_2.mp z];exact he
    ·exact dj i hi
   ·exact dj i hi
  have h1:∀b∈bs++[Bk.para (Qt row)],∀i∈iO b,P i:=λb hb=>by
   rcases q_7.mp hb with z|z;·exact h b z
   ·rw[q_2.mp z];exact hc
  have h2:∀b∈(if Qt row=[]then bs else bs++[.para (Qt row)]),∀i∈iO b,P i:=λb hb=>by
   split at hb;·exact h b hb
   ·exact h1 b hb
  have eR:∀x∈as,XS x\/x=.fin:=λx hx=>ha x (JO _ hx);have hi':∀i,At.it i∈as->P i:=λi hx=>hi i (JO _ hx);have nil:∀i∈([]:List It),P i:=λi h=>by cases h
  cases a with
  |it x=>
   refine P4 P he as _ eR hi' h λi hx=>?_;rcases q_7.mp hx with z|z;·exact dj i z
   ·rw[q_2.mp z];exact hi x Ja|bk x=>
   refine P4 P he as _ eR hi' (λb hb=>?_) nil;rcases q_7.mp hb with z|z;·exact h2 b z
   ·rw[q_2.mp z];rcases ha (.bk x) Ja with q|q;·cases x<;>first|exact nil|exact q.elim
    ·cases q|brk=>exact P4 P he as _ eR hi' h1 nil|fin=>exact P4 P he as _ eR hi' h2 nil
def Dg(row:List It):JH (Qt row)=JH row:=by
 unfold Qt;split
 ·split;·unfold JH;rw[Yc];simp[Yu]
  ·rfl
 ·rfl
theorem D1:∀(as:List At)(s:List Bk×List It),(∀a∈as,XS a\/a=.fin)->J3 (as.foldl ZE s).1++JH (as.foldl ZE s).2=J3 s.1++JH s.2++as.flatMap ZS
 |[],s,_=>by simp|a::as,s,ha=>by
  rw[YA,D1 as _ (λx hx=>ha x (JO _ hx)),Y1,<-Vy];congr 1;obtain⟨bs,row⟩:=s;have e1:J3 (bs++[.para (Qt row)])=J3 bs++JH row:=by
   unfold J3;rw[Yc];simp[YJ,Z1,iO,Dg]
  have e2:J3 (if Qt row=[]then bs else bs++[.para (Qt row)])=J3 bs++JH row:=by
   split
   ·rename_i z;rw[<-Dg row,z];simp[JH]
   ·exact e1
  have app:∀(xs:List Bk)(b:Bk),J3 (xs++[b])=J3 xs++YJ b:=λxs b=>by unfold J3;rw[Yc];simp
  cases a with
  |it i=>
   show J3 bs++JH (row++[i])=J3 bs++JH row++ZS (.it i);unfold JH;rw[Yc,<-Vy];congr 1;cases i<;>simp[Yu,ZS]|bk x=>
   show J3 ((if Qt row=[]then bs else bs++[.para (Qt row)])++[x])++JH []=_;rw[app,e2];have:YJ x=ZS (.bk x):=by
    rcases ha (.bk x) Ja with q|q;·cases x with
     |para is=>exact q.elim|chapter t l=>by_cases z:l=""<;>simp[YJ,Z1,ZS,iO,JH,z]|heading t k l=>by_cases z:l=""<;>simp[YJ,Z1,ZS,iO,JH,z]|table rs l=>by_cases z:l=""<;>simp[YJ,Z1,ZS,iO,JH,z]|plates n l=>by_cases z:l=""<;>simp[YJ,Z1,ZS,iO,JH,z]
    ·cases q
   rw[this];simp[JH]|brk=>show J3 (bs++[.para (Qt row)])++JH []=_;rw[e1];simp[JH,ZS]|fin=>show J3 (if Qt row=[]then bs else bs++[.para (Qt row)])++JH []=_;rw[e2];simp[JH,ZS]
def Qef(ls:List Str)(cs:List Int)(i:Nat)(a:At):ZS (pt ls cs i a)=ZS a:=by
 unfold pt;split;·split<;>rfl
 ·rfl
theorem Ep{α β γ:Type}(f:β->List γ)(h:α->List γ):∀(g:Nat->α->β)(xs:List α),(∀i a,f (g i a)=h a)->(xs.mapIdx g).flatMap f=xs.flatMap h|g,[],_=>rfl|g,x::xs,hg=>by rw[List.mapIdx_cons,Y1,Y1,hg,Ep f h _ xs λi a=>hg _ a]
def Qee(cs:List Int)(as:List At):YI (Ze cs as)=YI as:=Ep ZS ZS _ as λi a=>Qef _ _ i a
theorem DT:∀(cs:List Int)(n:Nat),n+cs.length<=58->((cs.zipIdx n).flatMap λp=>ZS (Wm p.1 p.2)).Sublist ((List.range' n cs.length).map Y7)
 |[],n,_=>by simp|c::cs,n,h=>by
  rw[JV]at h;have ih:=DT cs (n+1) (by omega);have ok:=(LQ c n (by omega)).2;rw[List.zipIdx_cons,Y1,JV,List.range'_succ,ZT];have key:ZS (Wm c n)=[]\/ZS (Wm c n)=[Y7 n]:=by
   have lb:∀l,T8 n l->(if l=Str.ofString ""then[]else[l])=[]\/(if l=Str.ofString ""then[]else[l])=[Y7 n]:=λl hl=>by
    by_cases z:l=Str.ofString "";·left;rw[if_pos z]
    ·right;rw[if_neg z];rcases hl with q|q;·exact absurd q z
     ·rw[q]
   cases q:Wm c n with
   |brk=>exact .inl rfl|fin=>exact .inl rfl|it i=>
    rw[q]at ok;cases i with
    |mark l=>right;show[l]=_;rw[show l=Y7 n from ok]|_=>exact .inl rfl
   |bk b=>
    rw[q]at ok;cases b with
    |chapter t l=>exact lb l ok.2|heading t k l=>exact lb l ok.2.2|table rs l=>exact lb l ok.2.2|plates m l=>exact lb l ok.2|para is=>exact ok.elim
  rcases key with z|z;·have z':ZS (Wm (c,n).1 (c,n).2)=[]:=z;rw[z',nil_append];exact ih.cons _
  ·have z':ZS (Wm (c,n).1 (c,n).2)=[Y7 n]:=z;rw[z'];exact ih.cons_cons _
theorem CC:∀xs:List Str,NP xs=true->xs.Nodup|[],_=>List.nodup_nil|x::xs,h=>by simp only[NP,Xo,List.all_eq_true,decide_eq_true_eq]at h;exact q_46.mpr ⟨λz=>h.1 x z rfl,CC xs h.2⟩
def Qbi(cs:List Int)(h:cs.length<=58):(YI (ZN cs)).Sublist ((List.range 58).map Y7):=by
 have h1:=DT cs 0 (by omega);have e:YI (ZN cs)=(cs.zipIdx 0).flatMap λp=>ZS (Wm p.1 p.2):=by unfold YI ZN;rw[List.flatMap_map]
 rw[e];refine h1.trans (List.Sublist.map _ ?_);have e2:List.range' 0 cs.length++List.range' (0+cs.length) (58-cs.length)=List.range' 0 (cs.length+(58-cs.length)):=List.range'_append_1;rw[List.range_eq_range',show 58=cs.length+(58-cs.length)from by omega,<-e2];exact List.sublist_append_left _ _
def FL(xs ys:List Bk):J3 (xs++ys)=J3 xs++J3 ys:=by unfold J3;rw[Yc]
def E1(cs:List Int)(h:cs.length<58):J3 (U7 cs)=YI (ZN cs):=by
 have hB:=RX cs h;have g:=D1 (Ze cs (ZN cs)++[.fin]) ([],[]) (λa ha=>by
  rcases hB a ha with z|z;·exact .inl (S5 z)
  ·exact .inr z);have e2:((Ze cs (ZN cs)++[At.fin]).foldl ZE ([],[])).2=[]:=by
  rw[Tt];show(ZE _ .fin).2=[];rfl
 rw[e2]at g;have e3:(Ze cs (ZN cs)++[At.fin]).flatMap ZS=YI (ZN cs):=by rw[Yc];show YI (Ze cs (ZN cs))++_=_;rw[Qee];simp[ZS]
 rw[e3]at g;have e4:J3 (U7 cs)=J3 ((Ze cs (ZN cs)++[At.fin]).foldl ZE ([],[])).1:=rfl;rw[e4];simpa[JH,J3]using g
def QcU(ns:List Int)(w h:Int)(li:Bool):J3 (Zo ns w h li)=[]\/J3 (Zo ns w h li)=[Str.ofString "z"]:=by
 unfold Zo;split;·exact .inl rfl
 ·right;simp[J3,YJ,Z1,iO,JH,Yu]
def Qea:((List.range 58).map Y7).Nodup:=CC _ Qeb
def Ki(ns:List Int):(J3 (QK ns)).Nodup:=by
 have hl:=TK ns;have sub:=Qbi (Y4 ns) (by omega);unfold QK Z2;rw[FL,E1 _ hl];have nd:(YI (ZN (Y4 ns))).Nodup:=sub.nodup Qea;rcases QcU ns (dW ns) (dH ns) (JE ns)with z|z;·rw[z];exact nd
 ·rw[z];refine q_46.mpr ⟨λq=>?_,nd⟩;obtain⟨k,hk,e⟩:=q_19.mp (sub.subset q);exact Qec k (List.mem_range.mp hk) e
def Dj{bs:List Bk}{l:Str}(h:l∈rO bs):∃b∈bs,∃x y,It.ref l x y∈iO b:=by obtain⟨b,hb,h1⟩:=List.mem_flatMap.mp h;unfold Qu at h1;obtain⟨i,hi,e⟩:=q_19.mp h1;obtain⟨h2,h3⟩:=q_47.mp hi;cases i with|ref l' x y=>cases e;exact⟨b,hb,x,y,h2⟩|_=>cases h3
noncomputable def LD(L:List Str):It->Prop|.ref l _ _=>l∈L|_=>True
def Qhp(ls:List Str)(cs:List Int)(k:Nat)(a:At):∀i,pt ls cs k a=.it i->(∀j,a=.it j->(∃l x y,j=.ref l x y)\/LD ls j)->LD ls i:=by
 intro i e h;unfold pt at e;split at e
 ·split at e;·cases e;trivial
  ·rename_i ne;cases e;show List.getD _ _ _∈ls;have hp:(0:Int)<ls.length:=by cases ls with
    |nil=>exact absurd rfl ne|cons a b=>simp only[JV];omega
   have h1:=XM (Zd (cs.getD k 0) (k+90)) (show(ls.length:Int)≠0 by omega);have h2:=Xq (Zd (cs.getD k 0) (k+90)) hp;rw[Yb,Qf (by omega)];exact YB _
 ·rename_i nr;subst e;rcases h i rfl with⟨l,x,y,rfl⟩|q;·exact absurd rfl (nr l x y)
  ·exact q
def Qbg(cs:List Int)(h:cs.length<58):∀l∈rO (U7 cs),l∈YI (ZN cs):=by
 intro l hl;obtain⟨b,hb,x,y,hi⟩:=Dj hl;have hB:=RX cs h;have g:=P4 (LD (YI (ZN cs))) trivial (Ze cs (ZN cs)++[At.fin]) ([],[]) (λa ha=>by
  rcases hB a ha with z|z;·exact .inl (S5 z)
  ·exact .inr z) (λi hm=>by
   rcases q_7.mp hm with z|z
   ·unfold Ze at z;obtain⟨k,hk,e⟩:=List.mem_mapIdx.mp z;refine Qhp _ _ _ _ i e λj _=>?_;cases j with
    |ref l x y=>exact .inl ⟨l,x,y,rfl⟩|_=>exact .inr trivial
   ·cases q_2.mp z) (by simp) (by simp) b hb (.ref l x y) hi;exact g
def QhN(xs ys:List Bk):rO (xs++ys)=rO xs++rO ys:=by unfold rO;rw[Yc]
def Kj(ns:List Int):∀l∈rO (QK ns),l∈J3 (QK ns):=by
 intro l hl;have hc:=TK ns;unfold QK Z2 at*;rw[QhN]at hl;rw[FL];rcases q_7.mp hl with z|z
 ·refine Vi _ ?_;unfold Zo at z⊢;split at z;·cases z
  ·rename_i ne;rw[if_neg ne];obtain⟨b,hb,x,y,hi⟩:=Dj z;simp only[q_5,WX,or_false]at hb;rcases hb with q|q|q<;>subst q;·cases hi
   ·cases hi
   ·simp only[iO,q_5,WX,or_false]at hi;rcases hi with q|q|q;·cases q
    ·cases q
    ·cases q;simp[J3,YJ,Z1,iO,JH,Yu]
 ·refine YZ _ ?_;rw[E1 _ hc];exact Qbg _ hc l z
def RT(ns:List Int):∀b∈QK ns,WJ (iO b):=by
 intro b hb;unfold QK Z2 at hb;rcases q_7.mp hb with z|z
 ·unfold Zo at z;split at z;·cases z
  ·simp only[q_5,WX,or_false]at z;rcases z with q|q|q<;>subst q;·exact Ma
   ·exact Ma
   ·exact Hr (r:=[_,_]) rfl
 ·exact D3 _ ([],[]) (λa ha=>by
   rcases RX _ (TK ns) a ha with z|z;·exact .inl (S5 z)
   ·exact .inr z) (by simp) b z
def QcT(ns:List Int)(w h:Int)(li:Bool)(hw:4<=w/\w<=90)(hh:2<=h/\h<=60):∀b∈Zo ns w h li,Tx b/\Tz b/\RH b:=by
 intro b hb;have h6:=AL (SF ns);have hN:=SF ns;unfold Zo at hb;split at hb;·cases hb
 ·simp only[q_5,WX,or_false]at hb;have it:∀i∈[It.word (Y0 (Str.ofString "w") (if w-1-Ww ns>1 then w-1-Ww ns else 1)) [],It.mark "z",It.ref "z" "" ""],XT i:=λi hi=>by
   simp only[q_5,WX,or_false]at hi;rcases hi with q|q|q<;>subst q;·refine⟨? _,by simp,by simp⟩;rw[Mf];split<;>omega
   ·trivial
   ·exact⟨by rw[UD];omega,by rw[UD];omega⟩
  rcases hb with q|q|q<;>subst q
  ·refine⟨trivial,λi hi=>(by cases hi),λn l e=>? _⟩;cases e;omega
  ·refine⟨⟨by simp;omega,λr hr=>? _⟩,λi hi=>(by cases hi),λn l e=>by cases e⟩;rw[List.eq_of_mem_replicate hr,UD];omega
  ·exact⟨it,it,λn l e=>by cases e⟩
def An:∀{b:Bk},VZ b->Tx b/\Tz b/\RH b:=by
 intro b h;have jx:∀i,WI i->XT i:=λi hi=>by cases i with
  |word x ns=>exact⟨by have:=hi.1.2;omega,by have:=hi.2.1;omega,λr hr=>by have:=hi.2.2 r hr;omega⟩|ref l x y=>exact⟨by have:=hi.1;omega,by have:=hi.2;omega⟩|_=>trivial
 cases b with
 |chapter t l=>exact⟨by have:=h.2;show t.length<=1000;omega,λi hi=>(by cases hi),λn l e=>(by cases e)⟩|heading t k l=>exact⟨by have:=h.1.2;show t.length<=1000;omega,λi hi=>(by cases hi),λn l e=>(by cases e)⟩|table rs l=>exact⟨⟨by have:=h.1.2;omega,λr hr=>by have:=h.2 r hr;omega⟩,λi hi=>(by cases hi),λn l e=>(by cases e)⟩|plates n l=>exact⟨trivial,λi hi=>(by cases hi),λm l' e=>(by cases e;exact h.1)⟩|para is=>exact⟨λi hi=>jx i (h i hi),λi hi=>jx i (h i hi),λn l e=>(by cases e)⟩
def U6(ns:List Int):∀b∈QK ns,Tx b/\Tz b/\RH b:=by
 intro b hb;have hw:=Ug ns;have hh:=XC ns;unfold QK at hb;rcases q_7.mp hb with z|z;·exact QcT ns _ _ _ ⟨hw.2.1,hw.2.2⟩ ⟨hh.2.1,hh.2.2⟩ b z
 ·exact An (RU ns b z)
def QcV(ns:List Int)(w h w' h':Int)(li gv:Bool):(Zo ns w h li).map (ZM gv)=(Zo ns w' h' li).map (ZM gv):=by
 unfold Zo;split;·rfl
 ·simp[ZM,Qx,Y6,ZR]
def OV(ns:List Int):most (JE ns) (QK ns)=Z8 ns:=by unfold Z8 QK Z0 most;rw[P1,P1,YQ,YQ,QcV ns _ _ 4 2]
def RR(ns:List Int):∀b∈QK ns,WE (dR ns) (dW ns) (dH ns) b:=by
 intro b hb;have hn:=RW ns;have hw:=Ug ns;have hwd:=E2 ns;have hh:=XC ns;have hr:=TL ns;have hN:=SF ns;unfold QK at hb;rcases q_7.mp hb with z|z
 ·have fe:∀b∈Z0 ns,WE (dR ns) (Jv ns).1 (Jv ns).2 b:=λb hb=>hn.2.2.2.2 b (YZ _ hb);have ne:¬(JE ns=true\/cell ns 4%3≠1):=λq=>by unfold Zo at z;rw[if_pos q]at z;cases z
  unfold Zo at z;rw[if_neg ne]at z;have rm:dR ns<=(Jv ns).1:=by
   have:=fe (.para [.word (Y0 "w" (if(4:Int)-1-Ww ns>1 then 4-1-Ww ns else 1)) [],.mark "z",.ref "z" "" ""]) (by unfold Z0 Zo;rw[if_neg ne];simp) (.ref "z" "" "") (by simp);have e:((Str.ofString "").length:Int)+dR ns+((Str.ofString "").length:Int)<=(Jv ns).1:=this;rw[UD]at e;omega
  simp only[q_5,WX,or_false]at z;rcases z with q|q|q<;>subst q;·trivial
  ·refine⟨by simp;omega,λr hr=>?_⟩;rw[List.eq_of_mem_replicate hr,UD];omega
  ·intro i hi;simp only[q_5,WX,or_false]at hi;rcases hi with q|q|q<;>subst q
   ·refine⟨?_,by simp;omega,by simp⟩;rw[Mf];split<;>omega
   ·trivial
   ·show((Str.ofString "").length:Int)+dR ns+((Str.ofString "").length:Int)<=_;rw[UD];omega
 ·exact Eo (by omega) hh.1 (hn.2.2.2.2 b (Vi _ z))
def Qbj(ns:List Int):Uo [Q9 (QK ns),QL (dW ns) (dH ns) (dO ns) (JE ns)]=some .non:=by
 have hw:=Ug ns;have hh:=XC ns;have hm:=RV ns;have e:=OV ns;have:(10:Int)^42<10^60:=by decide
 refine Qey _ _ _ _ _ (Xa ns) ⟨hw.2.1,hw.2.2,hh.2.1,hh.2.2⟩ (by omega) (by omega) (λb hb=>(U6 ns b hb).1) (λb hb=>(U6 ns b hb).2.1) (λb hb=>?_) (RT ns) (Ki ns) (Kj ns);rw[e];exact RR ns b hb
def UZ(af:Int)(rs:List Int):Prop:=∀r∈rs,1<=r/\r<=af
theorem Dh(pls:List Plc)(M:Int)(hb:∀x∈pls,1<=x.p/\x.p<=M):∀(is:List It)(s:List (Str×Int)×Nat),(∀x∈s.1,1<=x.2/\x.2<=M)->(∀i(hi:i<is.length),Qx is[i]=false->s.2+Jl (is.take i)<pls.length)->∀x∈(is.foldl (VS pls) s).1,1<=x.2/\x.2<=M
 |[],s,h,_=>h|i::is,s,h,ht=>by
  have nx:∀j(hj:j<is.length),Qx is[j]=false->(VS pls s i).2+Jl (is.take j)<pls.length:=λj hj hs=>by
   have:=ht (j+1) (by simpa using hj) (by simpa using hs);rw[List.take_succ_cons,Uu]at this;have e:(VS pls s i).2=s.2+(if Qx i then 1 else 0):=by cases i<;>simp[VS,Qx,Y6,ZR]
   rw[e];omega
  refine Dh pls M hb is (VS pls s i) ?_ nx;cases i with
  |mark l=>
   have hk:=ht 0 (by simp) rfl;simp[Jl]at hk;intro x hx;rcases q_7.mp hx with z|z;·exact h x z
   ·rw[q_2.mp z];show 1<=(pls.getD s.2 ⟨0,0,0⟩).p/\_;rw[Yb,Qf hk];exact hb _ (YB hk)|_=>exact h
def D5(M:Int)(q:Bk×List Plc)(hq:q.2.length=W8 q.1)(hb:∀x∈q.2,1<=x.p/\x.p<=M)(ht:WJ (iO q.1)):∀x∈Zj q,1<=x.2/\x.2<=M:=by
 obtain⟨b,pls⟩:=q;simp only[]at hq hb ht;intro x hx;unfold Zj at hx;rcases q_7.mp hx with z|z
 ·split at z;·cases z
  ·rename_i ne;rw[q_2.mp z];have np:pls.length=1:=by cases b<;>first|exact hq|exact absurd rfl ne
   obtain⟨p0,rfl⟩:=List.length_eq_one_iff.mp np;exact hb p0 (by simp)
 ·refine Dh pls M hb (iO b) ([],0) (λy hy=>by cases hy) (λi hi hs=>?_) x z;have:=ht i hi hs;have le:Jl (iO b)<=pls.length:=by cases b with
   |para is=>exact le_of_eq hq.symm|_=>exact zero_le _
  simp only[];omega
def JY(kv:List (Str×Int))(l:Str):Int:=match D.dget (Qm kv) (.str l)with|some (.int p)=>p|_=>0
def QgZ{kv:List (Str×Int)}{l:Str}(h:l∈kv.map (·.1)):D.dget (Qm kv) (.str l)=Q0 (JY kv l)/\(l,JY kv l)∈kv:=by
 obtain⟨p,h1,h2⟩:=Af h;have:JY kv l=p:=by unfold JY;rw[h2]
 rw[this];exact⟨h2,h1⟩
def Qja(ns:List Int)(ae:List Int)(hr:ae.length=(rO (QK ns)).length):∃T kv,UI [Q9 (QK ns),QL (dW ns) (dH ns) (dO ns) (JE ns),.lst (ae.map .int)]=some T/\UH [Q9 (QK ns),T]=some (Qm kv)/\kv.map (·.1)=J3 (QK ns)/\∀x∈kv,1<=x.2/\x.2<=Z8 ns:=by
 have hh:=XC ns;have sb:=A2 (dW ns) (dH ns) (dO ns) (JE ns) ae (QK ns) (Xa ns) (by omega) (λb hb=>(U6 ns b hb).2.1);obtain⟨c,rows,e1,e2,e3⟩:=HX (dW ns) (dH ns) (dO ns) (JE ns) ae (QK ns) (by omega) (λb hb=>(U6 ns b hb).2.2);rw[OV]at e3;rw[e1]at sb;have lp:=DR (QK ns) c rows (Xa ns) e2 (Ki ns) (λq hq=>(e3 q hq).1) (RT ns);refine⟨_,_,sb,lp,?_,λx hx=>?_⟩;·rw[N7 YJ Zj I0,Mg _ _ e2];rfl
 ·obtain⟨q,hq,cC⟩:=List.mem_flatMap.mp hx;exact D5 (Z8 ns) q (e3 q hq).1 (e3 q hq).2 (RT ns q.1 (Xn hq).1) x cC
def Kv(ns:List Int)(kv:List (Str×Int))(hk:kv.map (·.1)=J3 (QK ns))(hv:∀x∈kv,1<=x.2/\x.2<=Z8 ns)(l:Str)(hl:l∈rO (QK ns)):D.dget (Qm kv) (.str l)=Q0 (JY kv l)/\1<=JY kv l/\JY kv l<10^60/\1<=(Z4 (JY kv l).toNat:Int)/\(Z4 (JY kv l).toNat:Int)<=dR ns:=by
 obtain⟨h1,h2⟩:=QgZ (kv:=kv) (l:=l) (by rw[hk];exact Kj ns l hl);have hb:=hv _ h2;have hm:=RV ns;have b1:1<=JY kv l/\JY kv l<=Z8 ns:=hb;have big:(10:Int)^42<10^60:=by decide
 have dp:=SE (JY kv l).toNat;refine⟨h1,b1.1,by omega,by omega,?_⟩;unfold dR;have:Z4 (JY kv l).toNat<=Z4 (Z8 ns).toNat:=by
  refine(O5 (by decide) (SE _)).mpr ?_;exact lt_of_le_of_lt (by omega) (EE (Z8 ns).toNat)
 omega
def Qda(ns:List Int)(ae:List Int)(hr:ae.length=(rO (QK ns)).length)(T:D)(kv:List (Str×Int))(h1:UI [Q9 (QK ns),QL (dW ns) (dH ns) (dO ns) (JE ns),.lst (ae.map .int)]=some T)(h2:UH [Q9 (QK ns),T]=some (Qm kv))(hk:kv.map (·.1)=J3 (QK ns))(hv:∀x∈kv,1<=x.2/\x.2<=Z8 ns):Tb [Q9 (QK ns),QL (dW ns) (dH ns) (dO ns) (JE ns),.lst (ae.map .int)]=QA (((rO (QK ns)).map λl=>(Z4 (JY kv l).toNat:Int)).map .int):=by have rf:=MM (QK ns) (Xa ns);have rl:=HB (QK ns);have fw:=Xa ns;unfold Tb Ln;refine JS rfl ?_;generalize QL (dW ns) (dH ns) (dO ns) (JE ns)=S at*;generalize D.lst (ae.map .int)=RM at*;refine st (e1:=[some (Q9 (QK ns)),some S,some RM,some (Qm kv)]) (J0 (Zv rfl (YE rfl rfl rfl h1) h2) rfl) (ret ?_);rw[Va (g:=gS 0) (n:=1) (caps:=[3]) (c:=Jt true) (el:=eK SJ (QU (Q5 D.dget (eV 1) (eV 0)))) D.str (rO (QK ns)) (λe=>∃v,e=[v,some (Qm kv)]) (λ_=>true) (λl=>.int (Z4 (JY kv l).toNat)) (by have hR:eK Vp (QU (eV 0)) [some (Q9 (QK ns)),some S,some RM,some (Qm kv)]=some (QR (rO (QK ns))):=JD rfl rf;unfold J1;rw[hR];rfl) (lB (by have:=fw.2;omega)) ⟨none,rfl⟩ (by rintro l hl e⟨v,rfl⟩;obtain⟨g1,g2,g3,_⟩:=Kv ns kv hk hv l hl;exact⟨[QQ l,some (Qm kv)],rfl,⟨_,rfl⟩,rfl,λ_=>JD (Q1 rfl rfl g1) (En _ (by omega) g3)⟩)];rw[XH,map_map];rfl
def Qjc(xs:List Int):D.neO (.lst (xs.map .int)) (.lst (xs.map .int))=QS false:=by unfold D.neO;rw[if_pos (by rw[ZO];have:=TQ (f:=D.int) (n:=0) (λa=>by rw[J6];exact Qz _) xs;omega),Qc3 Qc2];rfl
def J8(w h:Int)(s:Sta):Prop:=0<=s.l/\0<=s.u/\s.u<=w/\0<=s.f/\s.l+s.f<=h/\(0<s.u->s.l+s.f<h)
def Vu(s t:Sta):Prop:=s.p<t.p\/s.p=t.p/\(s.l<t.l\/s.l=t.l/\s.u<=t.u)/\s.f<=t.f
def WO(a b:Plc):Prop:=a.p<b.p\/a.p=b.p/\(a.l<b.l\/a.l=b.l/\a.c<=b.c)
def Qha(a:Plc):WO a a:=.inr ⟨rfl,.inr ⟨rfl,Ji _⟩⟩
def Qe5(a:Sta):Vu a a:=.inr ⟨rfl,.inr ⟨rfl,Ji _⟩,Ji _⟩
def Px{w h:Int}{s:Sta}{n r:Int}(hs:J8 w h s)(hn:1<=n/\n<=w)(hr:0<=r/\r<h):J8 w h (JG w h s n r).2:=by
 obtain⟨a1,a2,a3,a4,a5,a6⟩:=hs;unfold JG J8;split
 ·rename_i z;by_cases u0:s.u=0;·simp only[u0,if_true];omega
  ·have:=z.1;simp only[u0,if_false];omega
 ·split;·dsimp only;omega
  ·dsimp only;omega
def Ip(w h:Int)(s:Sta)(n r:Int)(hu:0<=s.u):((s.u=0\/s.u+1+n<=w)/\s.l+s.f+(1+r)<=h/\∃c,(s.u=0/\c=0\/0<s.u/\c=s.u+1)/\JG w h s n r=(⟨s.p,s.l,c⟩,⟨s.p,s.l,c+n,s.f+r⟩))\/(¬((s.u=0\/s.u+1+n<=w)/\s.l+s.f+(1+r)<=h)/\((0<s.u/\s.l+s.f+(2+r)<=h/\JG w h s n r=(⟨s.p,s.l+1,0⟩,⟨s.p,s.l+1,0+n,s.f+r⟩))\/(¬(0<s.u/\s.l+s.f+(2+r)<=h)/\JG w h s n r=(⟨s.p+1,0,0⟩,⟨s.p+1,0,0+n,r⟩)))):=by
 unfold JG;by_cases x1:(s.u=0\/s.u+1+n<=w)/\s.l+s.f+(1+r)<=h
 ·rw[if_pos x1];by_cases u0:s.u=0;·exact .inl ⟨x1.1,x1.2,0,.inl ⟨u0,rfl⟩,by simp[u0]⟩
  ·exact .inl ⟨x1.1,x1.2,s.u+1,.inr ⟨by omega,rfl⟩,by simp[u0]⟩
 ·rw[if_neg x1];by_cases x2:0<s.u/\s.l+s.f+(2+r)<=h
  ·rw[if_pos x2];exact .inr ⟨x1,.inl ⟨x2.1,x2.2,rfl⟩⟩
  ·rw[if_neg x2];exact .inr ⟨x1,.inr ⟨x2,rfl⟩⟩
def Cg{w h:Int}{s t:Sta}{n m r:Int}(hs:J8 w h s)(ht:J8 w h t)(hl:Vu s t)(hn:1<=n/\n<=m/\m<=w)(hr:0<=r/\r<h):WO (JG w h s n r).1 (JG w h t m r).1/\Vu (JG w h s n r).2 (JG w h t m r).2:=by
 have nm:=hn.2.1;have su:=hs.2.1;have tu:=ht.2.1;have tl:=ht.1;have tf:=ht.2.2.2.1;clear hs ht hn hr;rcases Ip w h s n r su with⟨x1,x2,c,x3,e⟩|⟨x1,⟨x2,x3,e⟩|⟨x2,e⟩⟩<;>rw[e]<;>clear e<;>rcases Ip w h t m r tu with⟨y1,y2,d,y3,e⟩|⟨y1,⟨y2,y3,e⟩|⟨y2,e⟩⟩<;>rw[e]<;>clear e<;>rcases hl with hp|⟨hp,hl|⟨hl,hu⟩,hf⟩;·exact⟨.inl hp,.inl hp⟩
 ·exact⟨.inr ⟨hp,.inl hl⟩,.inr ⟨hp,.inl hl,Xr hf _⟩⟩
 ·have cd:c<=d:=by clear x1 x2 y1 y2 tl tf nm hp hl hf;omega
  exact⟨.inr ⟨hp,.inr ⟨hl,cd⟩⟩,.inr ⟨hp,.inr ⟨hl,add_le_add cd nm⟩,Xr hf _⟩⟩
 ·exact⟨.inl hp,.inl hp⟩
 ·exact⟨.inr ⟨hp,.inl (UU hl (YR _))⟩,.inr ⟨hp,.inl (UU hl (YR _)),Xr hf _⟩⟩
 ·exact⟨.inr ⟨hp,.inl (hl▸YR _)⟩,.inr ⟨hp,.inl (hl▸YR _),Xr hf _⟩⟩
 ·exact⟨.inl (UU hp (YR _)),.inl (UU hp (YR _))⟩
 ·exact⟨.inl (hp▸YR _),.inl (hp▸YR _)⟩
 ·exact⟨.inl (hp▸YR _),.inl (hp▸YR _)⟩
 ·exact⟨.inl hp,.inl hp⟩
 ·have d0:0<=d:=by clear x1 x2 x3 y1 y2 tl tf nm hp hl hf;omega
  have un:0+n<=d+m:=add_le_add d0 nm;rcases Tu (show s.l+1<=t.l from hl)with z|z;·exact⟨.inr ⟨hp,.inl z⟩,.inr ⟨hp,.inl z,Xr hf _⟩⟩
  ·exact⟨.inr ⟨hp,.inr ⟨z,d0⟩⟩,.inr ⟨hp,.inr ⟨z,un⟩,Xr hf _⟩⟩
 ·refine absurd ⟨.inr ?_,?_⟩ x1;·clear x1 x3 y2 y3 tl tf hp hl hf;omega
  ·clear x1 x2 x3 y1 y3 su tu nm hp hu;omega
 ·exact⟨.inl hp,.inl hp⟩
 ·exact⟨.inr ⟨hp,.inl (UW hl _)⟩,.inr ⟨hp,.inl (UW hl _),Xr hf _⟩⟩
 ·exact⟨.inr ⟨hp,.inr ⟨congrArg (·+1) hl,Ji _⟩⟩,.inr ⟨hp,.inr ⟨congrArg (·+1) hl,Int.add_le_add_left nm _⟩,Xr hf _⟩⟩
 ·exact⟨.inl (UU hp (YR _)),.inl (UU hp (YR _))⟩
 ·exact⟨.inl (hp▸YR _),.inl (hp▸YR _)⟩
 ·exact⟨.inl (hp▸YR _),.inl (hp▸YR _)⟩
 ·have d0:0<=d:=by clear x1 x2 y1 y2 tl tf nm hp;omega
  have un:0+n<=d+m:=add_le_add d0 nm;have ff:r<=t.f+r:=Int.le_add_of_nonneg_left tf;rcases Tu (show s.p+1<=t.p from hp)with z|z;·exact⟨.inl z,.inl z⟩
  ·rcases Tu tl with y|y;·exact⟨.inr ⟨z,.inl y⟩,.inr ⟨z,.inl y,ff⟩⟩
   ·exact⟨.inr ⟨z,.inr ⟨y,d0⟩⟩,.inr ⟨z,.inr ⟨y,un⟩,ff⟩⟩
 ·exfalso;clear y1 y3 tl tf nm hp;omega
 ·exfalso;clear y3 tl tf hp;omega
 ·have ff:r<=t.f+r:=Int.le_add_of_nonneg_left tf;have ll:0<t.l+1:=Int.lt_add_one_of_le tl;rcases Tu (show s.p+1<=t.p from hp)with z|z;·exact⟨.inl z,.inl z⟩
  ·exact⟨.inr ⟨z,.inl ll⟩,.inr ⟨z,.inl ll,ff⟩⟩
 ·exfalso;clear y1 y2 tl tf nm hp tu;omega
 ·exfalso;clear y1 y2 tl tf nm hp tu hu;omega
 ·exact⟨.inl (UW hp _),.inl (UW hp _)⟩
 ·exact⟨.inr ⟨congrArg (·+1) hp,.inr ⟨rfl,Ji _⟩⟩,.inr ⟨congrArg (·+1) hp,.inr ⟨rfl,Int.add_le_add_left nm _⟩,Ji _⟩⟩
 ·exact⟨.inr ⟨congrArg (·+1) hp,.inr ⟨rfl,Ji _⟩⟩,.inr ⟨congrArg (·+1) hp,.inr ⟨rfl,Int.add_le_add_left nm _⟩,Ji _⟩⟩
def TX{w h:Int}{s:Sta}(hs:J8 w h s):J8 w h (endLine s)/\(endLine s).u=0:=by
 obtain⟨a1,a2,a3,a4,a5,a6⟩:=hs;unfold endLine;split;·rename_i z;exact⟨⟨a1,a2,a3,a4,a5,a6⟩,z⟩
 ·unfold J8;dsimp only;omega
def ER{w h:Int}{s t:Sta}(hs:J8 w h s)(ht:J8 w h t)(hl:Vu s t):Vu (endLine s) (endLine t):=by
 have a2:=hs.2.1;have b2:=ht.2.1;clear hs ht;unfold endLine;by_cases u0:s.u=0<;>by_cases v0:t.u=0;·rw[if_pos u0,if_pos v0];exact hl
 ·rw[if_pos u0,if_neg v0];rcases hl with hp|⟨hp,hl|⟨hl,hu⟩,hf⟩;·exact .inl hp
  ·exact .inr ⟨hp,.inl (UU hl (YR _)),hf⟩
  ·exact .inr ⟨hp,.inl (hl▸YR _),hf⟩
 ·rw[if_neg u0,if_pos v0];rcases hl with hp|⟨hp,hl|⟨hl,hu⟩,hf⟩;·exact .inl hp
  ·exact .inr ⟨hp,(Tu hl).imp id (⟨·,b2⟩),hf⟩
  ·exact absurd (le_antisymm (v0▸hu) a2) u0
 ·rw[if_neg u0,if_neg v0];rcases hl with hp|⟨hp,hl|⟨hl,hu⟩,hf⟩;·exact .inl hp
  ·exact .inr ⟨hp,.inl (UW hl _),hf⟩
  ·exact .inr ⟨hp,.inr ⟨congrArg (·+1) hl,Ji _⟩,hf⟩
def Uw{w h:Int}{s:Sta}{a b:Int}(hs:J8 w h s)(ha:1<=a)(hb:0<=b)(c8:a+b<=h):J8 w h (Jm h s a b).2:=by
 obtain⟨⟨a1,a2,a3,a4,a5,a6⟩,z⟩:=TX hs;unfold Jm J8 Ju;split;·dsimp only;omega
 ·dsimp only;omega
def Im{w h:Int}{s t:Sta}{a b:Int}(hs:J8 w h s)(ht:J8 w h t)(hl:Vu s t)(ha:1<=a)(hb:0<=b)(c8:a+b<=h):WO (Jm h s a b).1 (Jm h t a b).1/\Vu (Jm h s a b).2 (Jm h t a b).2:=by
 have hm:=ER hs ht hl;have tl:=(TX ht).1.1;have tf:=(TX ht).1.2.2.2.1;clear hs ht hl ha hb c8;have e1:∀s:Sta,(endLine s).l+(endLine s).f+(a+b)<=h->Jm h s a b=(⟨(endLine s).p,(endLine s).l,0⟩,⟨(endLine s).p,(endLine s).l+a,0,(endLine s).f⟩):=λs x=>by unfold Jm;rw[if_pos x]
 have e2:∀s:Sta,¬(endLine s).l+(endLine s).f+(a+b)<=h->Jm h s a b=(⟨(endLine s).p+1,0,0⟩,⟨(endLine s).p+1,0+a,0,0⟩):=λs x=>by unfold Jm;rw[if_neg x];rfl
 by_cases x:(endLine s).l+(endLine s).f+(a+b)<=h<;>by_cases v:(endLine t).l+(endLine t).f+(a+b)<=h
 ·rw[e1 s x,e1 t v];rcases hm with hp|⟨hp,hl|⟨hl,hu⟩,hf⟩;·exact⟨.inl hp,.inl hp⟩
  ·exact⟨.inr ⟨hp,.inl hl⟩,.inr ⟨hp,.inl (UW hl _),hf⟩⟩
  ·exact⟨.inr ⟨hp,.inr ⟨hl,Ji _⟩⟩,.inr ⟨hp,.inr ⟨congrArg (·+a) hl,Ji _⟩,hf⟩⟩
 ·rw[e1 s x,e2 t v];have:(endLine s).p<(endLine t).p+1:=by
   rcases hm with hp|⟨hp,_⟩;·exact UU hp (YR _)
   ·exact hp▸YR _
  exact⟨.inl this,.inl this⟩
 ·rw[e2 s x,e1 t v];rcases hm with hp|⟨hp,hl,hf⟩
  ·rcases Tu (show(endLine s).p+1<=(endLine t).p from hp)with z|z;·exact⟨.inl z,.inl z⟩
   ·rcases Tu tl with y|y;·exact⟨.inr ⟨z,.inl y⟩,.inr ⟨z,.inl (UW y _),tf⟩⟩
    ·exact⟨.inr ⟨z,.inr ⟨y,Ji _⟩⟩,.inr ⟨z,.inr ⟨congrArg (·+a) y,Ji _⟩,tf⟩⟩
  ·have l2:(endLine s).l<=(endLine t).l:=hl.elim Sv λz=>Su z.1;exact absurd (Zf (Xr (add_le_add l2 hf) _) v) x
 ·rw[e2 s x,e2 t v];rcases hm with hp|⟨hp,_⟩;·exact⟨.inl (UW hp _),.inl (UW hp _)⟩
  ·exact⟨.inr ⟨congrArg (·+1) hp,.inr ⟨rfl,Ji _⟩⟩,.inr ⟨congrArg (·+1) hp,.inr ⟨rfl,Ji _⟩,Ji _⟩⟩
def C9{w h:Int}{s t:Sta}(hs:J8 w h s)(ht:J8 w h t)(hl:Vu s t):(Jc s).p<=(Jc t).p:=by
 obtain⟨a1,a2,_,a4,_⟩:=hs;clear ht;have e1:∀s:Sta,(s.l=0/\s.u=0/\s.f=0)->(Jc s).p=s.p:=λs x=>by unfold Jc;rw[if_pos x]
 have e2:∀s:Sta,¬(s.l=0/\s.u=0/\s.f=0)->(Jc s).p=s.p+1:=λs x=>by unfold Jc;rw[if_neg x];rfl
 by_cases x:s.l=0/\s.u=0/\s.f=0<;>by_cases v:t.l=0/\t.u=0/\t.f=0
 ·rw[e1 s x,e1 t v];rcases hl with hp|⟨hp,_⟩;·exact Sv hp
  ·exact Su hp
 ·rw[e1 s x,e2 t v];rcases hl with hp|⟨hp,_⟩;·exact Sv (UU hp (YR _))
  ·exact hp▸Sv (YR _)
 ·rw[e2 s x,e1 t v];rcases hl with hp|⟨_,hl|⟨hl,hu⟩,hf⟩;·exact hp
  ·exact absurd (v.1▸hl) (Int.not_lt.mpr a1)
  ·exact absurd ⟨hl.trans v.1,le_antisymm (v.2.1▸hu) a2,le_antisymm (v.2.2▸hf) a4⟩ x
 ·rw[e2 s x,e2 t v];rcases hl with hp|⟨hp,_⟩;·exact Xr (Sv hp) _
  ·exact Su (congrArg (·+1) hp)
def Qe1{w h:Int}{s t:Sta}(o:Bool)(hs:J8 w h s)(ht:J8 w h t)(hl:Vu s t):(ZA o s).p<=(ZA o t).p:=by
 have:=C9 hs ht hl;unfold ZA Ju;by_cases x:o=true/\(Jc s).p%2=0<;>by_cases v:o=true/\(Jc t).p%2=0;·rw[if_pos x,if_pos v];dsimp only;omega
 ·rw[if_pos x,if_neg v];have:¬(Jc t).p%2=0:=λq=>v ⟨x.1,q⟩;dsimp only;omega
 ·rw[if_neg x,if_pos v];dsimp only;omega
 ·rw[if_neg x,if_neg v];omega
def Jo{α β:Type}(r:α->β->Prop):List α->List β->Prop|[],[]=>True|a::as,b::bs=>r a b/\Jo r as bs|_,_=>False
theorem LM{α β:Type}{r:α->β->Prop}:∀{as:List α}{bs:List β},Jo r as bs->as.length=bs.length|[],[],_=>rfl|_::_,_::_,h=>by rw[JV,JV,LM h.2]|[],_::_,h=>h.elim|_::_,[],h=>h.elim
theorem S4{α β:Type}{r:α->β->Prop}{a:α}{b:β}(hr:r a b):∀{as:List α}{bs:List β},Jo r as bs->Jo r (as++[a]) (bs++[b])|[],[],_=>⟨hr,trivial⟩|_::_,_::_,h=>⟨h.1,S4 hr h.2⟩|[],_::_,h=>h.elim|_::_,[],h=>h.elim
theorem LL{α β:Type}{r:α->β->Prop}:∀{as:List α}{bs:List β}(i:Nat){a:α}{b:β},Jo r as bs->as[i]?=some a->bs[i]?=some b->r a b|[],[],i,a,b,_,h,_=>by simp at h|x::as,y::bs,0,a,b,h,h1,h2=>by simp at h1 h2;subst h1 h2;exact h.1|x::as,y::bs,i+1,a,b,h,h1,h2=>LL i h.2 (by simpa using h1) (by simpa using h2)|[],_::_,_,_,_,h,_,_=>h.elim|_::_,[],_,_,_,h,_,_=>h.elim
def S3(af:Int)(r1 r2:List Int):Prop:=Jo (λa b=>1<=a/\a<=b/\b<=af) r1 r2
def Qap{af:Int}{r1 r2:List Int}(h:S3 af r1 r2)(k:Nat)(hk:k<r1.length):1<=r1.getD k 0/\r1.getD k 0<=r2.getD k 0/\r2.getD k 0<=af:=by have hl:=LM h;rw[Yb,Yb,Qf hk,Qf (by omega)];exact LL (r:=λa b=>1<=a/\a<=b/\b<=af) k h (Qf hk) (Qf (by omega))
theorem FC{α β:Type}{r:α->β->Prop}:∀(k:Nat){as:List α}{bs:List β},Jo r as bs->Jo r (as.drop k) (bs.drop k)|0,_,_,h=>h|k+1,[],[],_=>trivial|k+1,_::_,_::_,h=>FC k h.2|_+1,[],_::_,h=>h.elim|_+1,_::_,[],h=>h.elim
noncomputable def L0:It->Prop|.word x _=>1<=x.length|_=>True
def NH(w h:Int)(a b:List Plc×Nat×Sta):Prop:=Jo WO a.1 b.1/\a.2.1=b.2.1/\Vu a.2.2 b.2.2/\J8 w h a.2.2/\J8 w h b.2.2
theorem DF(w h af:Int)(r1 r2:List Int)(hr:S3 af r1 r2)(hh:1<=h):∀(is:List It)(a b:List Plc×Nat×Sta),NH w h a b->(∀i∈is,Xy af w h i)->(∀i∈is,L0 i)->a.2.1+(Qu is).length<=r1.length->NH w h (is.foldl (Jw w h r1) a) (is.foldl (Jw w h r2) b)
 |[],a,b,c8,_,_,_=>c8|i::is,a,b,c8,hf,hw,hk=>by
  have key:NH w h (Jw w h r1 a i) (Jw w h r2 b i):=by
   obtain⟨h1,h2,h3,h4,h5⟩:=c8;have fi:=hf i Ja;have wi:=hw i Ja;cases i with
   |word x ns=>
    have n1:1<=(x.length:Int)/\(x.length:Int)<=w:=⟨by have:1<=x.length:=wi;omega,fi.1⟩;have nr:0<=(ns.length:Int)/\(ns.length:Int)<h:=⟨by omega,by have:=fi.2.1;omega⟩;obtain⟨m1,m2⟩:=Cg h4 h5 h3 ⟨n1.1,Ji _,n1.2⟩ nr;exact⟨S4 m1 h1,h2,m2,Px h4 n1 nr,Px h5 n1 nr⟩|ref l x y=>
    have eP:a.2.1<r1.length:=by
     have:(Qu (It.ref l x y::is)).length=1+(Qu is).length:=by unfold Qu;rw[List.filter_cons_of_pos rfl];simp;omega
     omega
    have g:=Qap hr a.2.1 eP;have fi':(x.length:Int)+af+y.length<=w:=fi;have e:b.2.1=a.2.1:=h2.symm;have nr:0<=(0:Int)/\(0:Int)<h:=⟨Ji _,by omega⟩;obtain⟨m1,m2⟩:=Cg (n:=(x.length:Int)+r1.getD a.2.1 0+y.length) (m:=(x.length:Int)+r2.getD a.2.1 0+y.length) h4 h5 h3 ⟨by omega,by omega,by omega⟩ nr;show NH w h (a.1++[(JG w h a.2.2 ((x.length:Int)+r1.getD a.2.1 0+y.length) 0).1],a.2.1+1,(JG w h a.2.2 ((x.length:Int)+r1.getD a.2.1 0+y.length) 0).2) (b.1++[(JG w h b.2.2 ((x.length:Int)+r2.getD b.2.1 0+y.length) 0).1],b.2.1+1,(JG w h b.2.2 ((x.length:Int)+r2.getD b.2.1 0+y.length) 0).2);rw[e];exact⟨S4 m1 h1,rfl,m2,Px h4 ⟨by omega,by omega⟩ nr,Px h5 ⟨by omega,by omega⟩ nr⟩|mark l=>exact⟨h1,h2,h3,h4,h5⟩|key l=>exact⟨h1,h2,h3,h4,h5⟩
  refine DF w h af r1 r2 hr hh is _ _ key (λx hx=>hf x (JO _ hx)) (λx hx=>hw x (JO _ hx)) ?_;have e:(Jw w h r1 a i).2.1+(Qu is).length=a.2.1+(Qu (i::is)).length:=by
   have:(Qu (i::is)).length=(if ZR i then 1 else 0)+(Qu is).length:=by unfold Qu;rw[filter_cons];split<;>simp<;>omega
   rw[this];cases i<;>simp[Jw,ZR]<;>omega
  omega
def RA(h:Int):Bk->Prop|.heading _ k _=>0<=k/\1+k<=h|.table rs _=>1<=rs.length/\(rs.length:Int)<=h|.plates n _=>1<=n|.para is=>∀i∈is,L0 i|_=>True
def TF{w h p:Int}(hw:0<=w)(hh:1<=h):J8 w h (Ju p):=by unfold J8 Ju;dsimp only;omega
def FP{p q:Int}(h:p<=q):Vu (Ju p) (Ju q):=by unfold Vu Ju;dsimp only;omega
def IU(o:Bool)(s:Sta):ZA o s=Ju (ZA o s).p:=by have h:=IV o s;generalize ZA o s=t at*;obtain⟨p,l,u,f⟩:=t;obtain⟨_,_,rfl,rfl,rfl⟩:=h;rfl
def QaI(w h:Int)(o:Bool)(b:Bk){s t:Sta}(hw:0<=w)(hh:1<=h)(hs:J8 w h s)(ht:J8 w h t)(hl:Vu s t)(hp:Uq b=false)(hb:RA h b):WO (ZL h o s b).1 (ZL h o t b).1/\Vu (ZL h o s b).2 (ZL h o t b).2/\J8 w h (ZL h o s b).2/\J8 w h (ZL h o t b).2:=by cases b with
 |para is=>cases hp|plates n l=>
  have:=C9 hs ht hl;refine⟨? _,FP (by omega),TF hw hh,TF hw hh⟩;show(Jc s).p<(Jc t).p\/(Jc s).p=(Jc t).p/\((0:Int)<0\/(0:Int)=0/\(0:Int)<=0);omega|table rs l=>
  obtain⟨b1,b2⟩:=hb;obtain⟨m1,m2⟩:=Im hs ht hl (a:=rs.length) (b:=0) (by omega) (by omega) (by omega);exact⟨m1,m2,Uw hs (by omega) (by omega) (by omega),Uw ht (by omega) (by omega) (by omega)⟩|heading x k l=>obtain⟨b1,b2⟩:=hb;obtain⟨m1,m2⟩:=Im hs ht hl (a:=1) (b:=k) (by omega) (by omega) (by omega);exact⟨m1,m2,Uw hs (by omega) (by omega) (by omega),Uw ht (by omega) (by omega) (by omega)⟩|chapter x l=>
  have nc:=Qe1 o hs ht hl;have e1:=IU o s;have e2:=IU o t;have s1:J8 w h (ZA o s):=by rw[e1];exact TF hw hh
  have s2:J8 w h (ZA o t):=by rw[e2];exact TF hw hh
  have l1:Vu (ZA o s) (ZA o t):=by rw[e1,e2];exact FP nc
  obtain⟨m1,m2⟩:=Im s1 s2 l1 (a:=1) (b:=0) (by omega) (by omega) (by omega);exact⟨m1,m2,Uw s1 (by omega) (by omega) (by omega),Uw s2 (by omega) (by omega) (by omega)⟩
def OR(w h:Int)(a b:List (List Plc)×Sta×Nat):Prop:=Jo (Jo WO) a.1 b.1/\Vu a.2.1 b.2.1/\a.2.2=b.2.2/\J8 w h a.2.1/\J8 w h b.2.1
theorem FX(w h af:Int)(o:Bool)(r1 r2:List Int)(hr:S3 af r1 r2)(hw:0<=w)(hh:1<=h):∀(bs:List Bk)(a b:List (List Plc)×Sta×Nat),OR w h a b->(∀x∈bs,WE af w h x)->(∀x∈bs,RA h x)->a.2.2+(rO bs).length<=r1.length->OR w h (bs.foldl (Jh w h o r1) a) (bs.foldl (Jh w h o r2) b)
 |[],a,b,c8,_,_,_=>c8|x::bs,a,b,c8,hf,iu,hk=>by
  have rl:(rO (x::bs)).length=(Qu (iO x)).length+(rO bs).length:=by unfold rO;rw[Y1,Qe]
  have key:OR w h (Jh w h o r1 a x) (Jh w h o r2 b x)/\(Jh w h o r1 a x).2.2=a.2.2+(Qu (iO x)).length:=by
   obtain⟨h1,h2,h3,h4,h5⟩:=c8;have other:Uq x=false->Jh w h o r1 a x=(a.1++[[(ZL h o a.2.1 x).1]],(ZL h o a.2.1 x).2,a.2.2)->Jh w h o r2 b x=(b.1++[[(ZL h o b.2.1 x).1]],(ZL h o b.2.1 x).2,b.2.2)->iO x=[]->OR w h (Jh w h o r1 a x) (Jh w h o r2 b x)/\(Jh w h o r1 a x).2.2=a.2.2+(Qu (iO x)).length:=by
    intro hp e1 e2 e3;obtain⟨m1,m2,m3,m4⟩:=QaI w h o x hw hh h4 h5 h2 hp (iu x Ja);rw[e1,e2,e3];exact⟨⟨S4 ⟨m1,trivial⟩ h1,m2,h3,m3,m4⟩,rfl⟩
   cases x with
   |para is=>
    have dl:S3 af (r1.drop a.2.2) (r2.drop a.2.2):=FC _ hr;have im:=DF w h af (r1.drop a.2.2) (r2.drop a.2.2) dl hh is ([],0,a.2.1) ([],0,b.2.1) ⟨trivial,rfl,h2,h4,h5⟩ (hf _ Ja) (iu _ Ja) (by rw[US];have:(Qu (iO (.para is))).length=(Qu is).length:=rfl;simp only[];omega);obtain⟨i1,i2,i3,i4,i5⟩:=im;have e2:Jh w h o r2 b (.para is)=(b.1++[(VW w h b.2.1 (r2.drop a.2.2) is).1],endLine (VW w h b.2.1 (r2.drop a.2.2) is).2.2,a.2.2+(Qu is).length):=by rw[h3];rfl
    rw[e2];exact⟨⟨S4 i1 h1,ER i4 i5 i3,rfl,(TX i4).1,(TX i5).1⟩,rfl⟩|chapter t l=>exact other rfl rfl rfl rfl|heading t k l=>exact other rfl rfl rfl rfl|table rs l=>exact other rfl rfl rfl rfl|plates n l=>exact other rfl rfl rfl rfl
  refine FX w h af o r1 r2 hr hw hh bs _ _ key.1 (λy hy=>hf y (JO _ hy)) (λy hy=>iu y (JO _ hy)) ?_;rw[key.2];omega
theorem FE{α:Type}{r:α->α->Prop}(h:∀a,r a a):∀xs:List α,Jo r xs xs|[]=>trivial|x::xs=>⟨h x,FE h xs⟩
theorem LK{α β:Type}{r:α->β->Prop}:∀{as:List α}{bs:List β}{cs:List α}{ds:List β},Jo r as bs->Jo r cs ds->Jo r (as++cs) (bs++ds)|[],[],_,_,_,h=>h|_::_,_::_,_,_,h1,h2=>⟨h1.1,LK h1.2 h2⟩|[],_::_,_,_,h,_=>h.elim|_::_,[],_,_,h,_=>h.elim
def Qg9{a b:Plc}(h:WO a b):a.p<=b.p:=by unfold WO at h;omega
def Te(x y:Str×Int):Prop:=x.1=y.1/\x.2<=y.2
def Ez{xs ys:List Plc}(h:Jo WO xs ys)(k:Nat):(xs.getD k ⟨0,0,0⟩).p<=(ys.getD k ⟨0,0,0⟩).p:=by
 have hl:=LM h;rw[Yb,Yb];rcases VU k xs.length with hk|hk
 ·rw[Qf hk,Qf (by omega)];exact Qg9 (LL k h (Qf hk) (Qf (by omega)))
 ·rw[XJ hk,XJ (by omega)];exact Ji _
theorem PB{xs ys:List Plc}(h:Jo WO xs ys):∀(is:List It)(s t:List (Str×Int)×Nat),Jo Te s.1 t.1->s.2=t.2->Jo Te (is.foldl (VS xs) s).1 (is.foldl (VS ys) t).1|[],s,t,h1,_=>h1|i::is,s,t,h1,h2=>by rw[YA,YA];cases i with|mark l=>refine PB h is _ _ ?_ h2;show Jo Te (s.1++[_]) (t.1++[(l,(ys.getD t.2 ⟨0,0,0⟩).p)]);rw[<-h2];exact S4 ⟨rfl,Ez h s.2⟩ h1|key l=>exact PB h is s t h1 h2|word x ns=>exact PB h is (s.1,s.2+1) (t.1,t.2+1) h1 (by simp only[];omega)|ref l x y=>exact PB h is (s.1,s.2+1) (t.1,t.2+1) h1 (by simp only[];omega)
def Qdt(b:Bk){xs ys:List Plc}(h:Jo WO xs ys):Jo Te (Zj (b,xs)) (Zj (b,ys)):=by
 unfold Zj;refine LK ?_ (PB h (iO b) ([],0) ([],0) trivial rfl);show Jo Te (if Z1 b=""then[]else[(Z1 b,_)]) (if Z1 b=""then[]else[(Z1 b,_)]);split;·trivial
 ·exact⟨⟨rfl,Ez h 0⟩,trivial⟩
theorem DM:∀(bs:List Bk)(r1 r2:List (List Plc)),Jo (Jo WO) r1 r2->Jo Te ((bs.zip r1).flatMap Zj) ((bs.zip r2).flatMap Zj)|[],_,_,_=>by simp[Jo]|b::bs,[],[],_=>by simp[Jo]|b::bs,x::r1,y::r2,h=>by rw[Uy,Uy,Y1,Y1];exact LK (Qdt b h.1) (DM bs r1 r2 h.2)|_::_,[],_::_,h=>h.elim|_::_,_::_,[],h=>h.elim
theorem CS:∀{kv gW:List (Str×Int)}{l:Str},Jo Te kv gW->l∈kv.map (·.1)->JY kv l<=JY gW l
 |[],[],l,_,h=>by simp at h|(a,p)::kv,(b,q)::gW,l,h,hl=>by
  obtain⟨⟨e,kQ⟩,h2⟩:=h;have e':a=b:=e;have iY:p<=q:=kQ;subst e';have st:∀(a:Str)(p:Int)(kv:List (Str×Int)),D.dget (Qm ((a,p)::kv)) (.str l)=if a=l then Q0 p else D.dget (Qm kv) (.str l):=by
   intro a p kv;show(if(Sum.inr a:Kd)=.inr l then some (D.int p)else XD _ _ _)=_;by_cases z:a=l;·rw[if_pos z,if_pos (by rw[z])]
   ·rw[if_neg z,if_neg (by simpa using z)];rfl
  unfold JY;rw[st,st];by_cases z:a=l;·rw[if_pos z,if_pos z];exact iY
  ·rw[if_neg z,if_neg z];have cT:l∈kv.map (·.1):=by
    rcases q_5.mp (show l∈a::kv.map (·.1)from hl)with w|w;·exact absurd w.symm z
    ·exact w
   exact CS h2 cT|[],_::_,_,h,_=>h.elim|_::_,[],_,h,_=>h.elim
def EG{n m:Nat}(h:n<=m):Z4 n<=Z4 m:=(O5 (by decide) (SE m)).mpr (lt_of_le_of_lt h (EE m))
theorem Fo(w h:Int)(hw:0<=w)(hh:1<=h):∀(bs:List Bk)(s:List Plc×Sta),J8 w h s.2->J8 w h (bs.foldl (Zh h) s).2
 |[],s,hs=>hs|b::bs,s,hs=>by
  rw[YA];refine Fo w h hw hh bs _ ?_;unfold Zh;split;·exact Uw hs (by omega) (by omega) (by omega)
  ·exact hs
def Ft(w h:Int)(o li:Bool)(bs:List Bk)(hw:0<=w)(hh:1<=h):J8 w h (ZW h o li bs).2:=by
 unfold ZW;split
 ·have:=Fo w h hw hh bs ([],Ju 1) (TF hw hh);show J8 w h (if _ then _ else _:Sta);split;·rw[IU];exact TF hw hh
  ·exact this
 ·exact TF hw hh
def Qh6(w h af:Int)(o li:Bool)(r1 r2:List Int)(bs:List Bk)(hr:S3 af r1 r2)(hw:0<=w)(hh:1<=h)(hf:∀x∈bs,WE af w h x)(hb:∀x∈bs,RA h x)(hk:(rO bs).length<=r1.length):Jo (Jo WO) (Sz w h o li r1 bs).1 (Sz w h o li r2 bs).1:=by have:=FX w h af o r1 r2 hr hw hh bs ([(ZW h o li bs).1],(ZW h o li bs).2,0) ([(ZW h o li bs).1],(ZW h o li bs).2,0) ⟨⟨FE Qha _,trivial⟩,Qe5 _,rfl,Ft w h o li bs hw hh,Ft w h o li bs hw hh⟩ hf hb (by simp only[];omega);exact this.1
noncomputable def S0(ns:List Int):D:=QL (dW ns) (dH ns) (dO ns) (JE ns)
noncomputable def T4(ns rs:List Int):List (List Plc):=(Sz (dW ns) (dH ns) (dO ns) (JE ns) rs (QK ns)).1
noncomputable def YH(ns rs:List Int):List (Str×Int):=((QK ns).zip (T4 ns rs).tail).flatMap Zj
noncomputable def Zc(ns rs:List Int):List Int:=(rO (QK ns)).map λl=>(Z4 (JY (YH ns rs) l).toNat:Int)
def R0(ns rs:List Int)(hr:rs.length=(rO (QK ns)).length):UI [Q9 (QK ns),S0 ns,.lst (rs.map .int)]=some (Qs (T4 ns rs))/\UH [Q9 (QK ns),Qs (T4 ns rs)]=some (Qm (YH ns rs))/\(YH ns rs).map (·.1)=J3 (QK ns)/\∀x∈YH ns rs,1<=x.2/\x.2<=Z8 ns:=by
 have hh:=XC ns;have sb:=A2 (dW ns) (dH ns) (dO ns) (JE ns) rs (QK ns) (Xa ns) (by omega) (λb hb=>(U6 ns b hb).2.1);obtain⟨c,rows,e1,e2,e3⟩:=HX (dW ns) (dH ns) (dO ns) (JE ns) rs (QK ns) (by omega) (λb hb=>(U6 ns b hb).2.2);rw[OV]at e3;have lp:=DR (QK ns) c rows (Xa ns) e2 (Ki ns) (λq hq=>(e3 q hq).1) (RT ns);unfold YH T4;refine⟨sb,?_⟩;rw[e1];refine⟨lp,?_,λx hx=>?_⟩;·show(((QK ns).zip rows).flatMap Zj).map (·.1)=_;rw[N7 YJ Zj I0,Mg _ _ e2];rfl
 ·obtain⟨q,hq,cC⟩:=List.mem_flatMap.mp hx;exact D5 (Z8 ns) q (e3 q hq).1 (e3 q hq).2 (RT ns q.1 (Xn hq).1) x cC
def El(ns rs:List Int)(hr:rs.length=(rO (QK ns)).length):Tb [Q9 (QK ns),S0 ns,.lst (rs.map .int)]=QA ((Zc ns rs).map .int):=by obtain⟨h1,h2,h3,h4⟩:=R0 ns rs hr;exact Qda ns rs hr _ _ h1 h2 h3 h4
def Ku(ns rs:List Int):(Zc ns rs).length=(rO (QK ns)).length:=by unfold Zc;rw[Qo]
def Em(ns rs:List Int)(hr:rs.length=(rO (QK ns)).length):UZ (dR ns) (Zc ns rs):=by obtain⟨h1,h2,h3,h4⟩:=R0 ns rs hr;intro x hx;obtain⟨l,hl,rfl⟩:=q_19.mp hx;have:=Kv ns _ h3 h4 l hl;exact⟨this.2.2.2.1,this.2.2.2.2⟩
abbrev Vs(xs ys:List Int):Prop:=Jo (λa b:Int=>a<=b) xs ys
theorem FD{α β γ:Type}{r:β->γ->Prop}{f:α->β}{g:α->γ}:∀{xs:List α},(∀x∈xs,r (f x) (g x))->Jo r (xs.map f) (xs.map g)|[],_=>trivial|x::xs,h=>⟨h x (by simp),FD λy hy=>h y (by simp[hy])⟩
def Qau{α β:Type}{r:α->β->Prop}:∀{as:List α}{bs:List β},Jo r as bs->Jo r as.tail bs.tail|[],[],_=>trivial|_::_,_::_,h=>h.2|[],_::_,h=>h.elim|_::_,[],h=>h.elim
theorem Cv{af:Int}:∀{r1 r2:List Int},UZ af r1->UZ af r2->Vs r1 r2->S3 af r1 r2|[],[],_,_,_=>trivial|a::r1,b::r2,h1,h2,h=>⟨⟨(h1 a (by simp)).1,h.1,(h2 b (by simp)).2⟩,Cv (λx hx=>h1 x (by simp[hx])) (λx hx=>h2 x (by simp[hx])) h.2⟩|[],_::_,_,_,h=>h.elim|_::_,[],_,_,h=>h.elim
def Qi3(n:Int)(h:1<=n):1<=(Y0 (Str.ofString "w") n).length:=by rw[Mf];omega
def Fy(ns:List Int):∀b∈QK ns,RA (dH ns) b:=by
 intro b hb;have ft:=RR ns b hb;have hh:=XC ns;have pl:=(U6 ns b hb).2.2;unfold QK at hb;rcases q_7.mp hb with z|z
 ·unfold Zo at z;split at z;·cases z
  ·simp only[q_5,WX,or_false]at z;rcases z with q|q|q<;>subst q;·exact pl _ _ rfl
   ·refine⟨by simp;omega,by simp;omega⟩
   ·intro i hi;simp only[q_5,WX,or_false]at hi;rcases hi with q|q|q<;>subst q
    ·refine Qi3 _ ?_;split<;>omega
    ·trivial
    ·trivial
 ·have hB:=RU ns b z;cases b with
  |chapter t l=>trivial|heading t k l=>exact⟨hB.2.1,by have:=ft.2;omega⟩|table rs l=>exact⟨hB.1.1,ft.1⟩|plates n l=>exact hB.1|para is=>intro i hi;have:=hB i hi;cases i with|word x n=>exact this.1.1|_=>trivial
def Qia(ns r1 r2:List Int)(hr:r1.length=(rO (QK ns)).length)(h1:UZ (dR ns) r1)(h2:UZ (dR ns) r2)(h:Vs r1 r2):Jo (Jo WO) (T4 ns r1) (T4 ns r2):=by have hw:=Ug ns;have hh:=XC ns;exact Qh6 (dW ns) (dH ns) (dR ns) (dO ns) (JE ns) r1 r2 (QK ns) (Cv h1 h2 h) (by omega) (by omega) (RR ns) (Fy ns) (by omega)
def Qc9(ns r1 r2:List Int)(hr:r1.length=(rO (QK ns)).length)(h1:UZ (dR ns) r1)(h2:UZ (dR ns) r2)(h:Vs r1 r2):Vs (Zc ns r1) (Zc ns r2):=by refine FD λl hl=>?_;obtain⟨_,_,k1,_⟩:=R0 ns r1 hr;have:=CS (DM (QK ns) _ _ (Qau (Qia ns r1 r2 hr h1 h2 h))) (l:=l) (show l∈(YH ns r1).map (·.1)by rw[k1];exact Kj ns l hl);have q:JY (YH ns r1) l<=JY (YH ns r2) l:=this;have:=EG (n:=(JY (YH ns r1) l).toNat) (m:=(JY (YH ns r2) l).toNat) (by omega);show(Z4 (JY (YH ns r1) l).toNat:Int)<=(Z4 (JY (YH ns r2) l).toNat:Int);omega
theorem DW:∀{xs ys zs:List Int},Vs xs ys->Vs ys zs->Vs xs zs|[],[],[],_,_=>trivial|_::_,_::_,_::_,h1,h2=>⟨Zf h1.1 h2.1,DW h1.2 h2.2⟩|[],[],_::_,_,h=>h.elim|[],_::_,_,h,_=>h.elim|_::_,[],_,h,_=>h.elim|_::_,_::_,[],_,h=>h.elim
theorem DV:∀{xs ys:List Int},Vs xs ys->xs.sum<=ys.sum/\(xs≠ys->xs.sum<ys.sum)
 |[],[],_=>⟨Ji _,λh=>absurd rfl h⟩|x::xs,y::ys,h=>by
  have ih:=DV h.2;have h1:x<=y:=h.1;rw[sum_cons,sum_cons];refine⟨by omega,λne=>?_⟩;by_cases e:xs=ys
  ·have:x≠y:=λq=>ne (by rw[q,e]);omega
  ·have:=ih.2 e;omega|[],_::_,h=>h.elim|_::_,[],h=>h.elim
theorem Fe{af:Int}:∀{xs:List Int},UZ af xs->(xs.length:Int)<=xs.sum/\xs.sum<=xs.length*af
 |[],_=>by simp|x::xs,h=>by
  have ih:=Fe (af:=af) (xs:=xs) λy hy=>h y (by simp[hy]);have hx:=h x (by simp);rw[sum_cons,JV];have e:((xs.length+1:Nat):Int)*af=xs.length*af+af:=by rw[Int.natCast_add,Int.add_mul];simp
  rw[e];constructor;·have:=ih.1;omega
  ·have:=ih.2;omega
theorem Ai{c:Q7}{b:QH}{env:List Int->QG}{F:List Int->List Int}{I:List Int->Prop}{m:List Int->Nat}(hs:∀rs,I rs->F rs=rs->c (env rs)=QS false)(hg:∀rs,I rs->F rs≠rs->c (env rs)=QS true/\b (env rs)=some (.nx (env (F rs)))/\I (F rs)/\m (F rs)<m rs):∀(k:Nat)(rs:List Int),I rs->m rs<=k->∃r,X9 c b (k+1) (env rs)=some (.nx (env r))/\I r/\F r=r
 |k,rs,hI,hm=>by
  by_cases e:F rs=rs
  ·refine⟨rs,?_,hI,e⟩;show YY (c (env rs)) _ _=_;rw[hs rs hI e];rfl
  ·obtain⟨h1,h2,h3,h4⟩:=hg rs hI e;cases k with|zero=>omega|succ k=>obtain⟨r,g1,g2,g3⟩:=Ai hs hg k (F rs) h3 (by omega);refine⟨r,?_,g2,g3⟩;show YY (c (env rs)) (WD (b (env rs)) (X9 c b (k+1))) _=_;rw[h1,h2];exact g1
theorem EW:∀xs ys:List Int,D.eqL (xs.map .int) (ys.map .int)=some (decide (xs=ys))|[],[]=>by rw[map_nil,Zp];simp|x::xs,y::ys=>by rw[ZT,ZT,Y5,J9,EW xs ys,Y3];congr 1;by_cases a:x=y<;>by_cases b:xs=ys<;>simp[a,b]|[],y::ys=>by simp[D.eqL]|x::xs,[]=>by simp[D.eqL]
def Dy(xs ys:List Int):D.neO (.lst (xs.map .int)) (.lst (ys.map .int))=QS (decide (xs≠ys)):=by unfold D.neO;rw[if_pos (by rw[ZO];have:=TQ (f:=D.int) (n:=0) (λa=>by rw[J6];exact Qz _) xs;omega),Zz,EW];by_cases a:xs=ys<;>simp[a,D.cmpN]
def A7{e:QG}{a:D}{k:QH}{r:Option Fl}{ns:List Int}(h0:e[0]?=some (some (Q9 (QK ns))))(h1:e[1]?=some (some (S0 ns)))(hk:k e=r):sQ (Zg (eK Uo (Qc (eV 0) (eV 1)))) k e=r:=by refine st (e1:=e) ?_ hk;have hR:eK Uo (Qc (eV 0) (eV 1)) e=some .non:=Zv (show eV 0 e=_ by unfold eV;rw[h0];rfl) (show eV 1 e=_ by unfold eV;rw[h1];rfl) (Qbj ns);unfold Zg;rw[hR];rfl
def Qeh(ns rs:List Int)(hr:rs.length=(rO (QK ns)).length):N0 [Q9 (QK ns),S0 ns,.lst (rs.map .int)]=some (Qs (T4 ns rs)):=by have:=(R0 ns rs hr).1;unfold N0 K1;refine JS rfl (A7 (a:=.non) rfl rfl (ret (YE rfl rfl rfl this)))
def Ek(ns:List Int):(rO (QK ns)).length<=200:=by
 have h1:=(TU ns (dW ns) (dH ns) (JE ns)).2;have h2:=(SA ns).2;have h3:=HB (QK ns);have h4:((QK ns).flatMap iO).length<=200:=by
  unfold QK;rw[Yc,Qe];omega
 omega
def QhR(ns:List Int):((rO (QK ns)).length:Int)*dR ns<=8400:=by have h1:=Ek ns;have h2:=TL ns;have:((rO (QK ns)).length:Int)*dR ns<=200*42:=Int.mul_le_mul (by omega) h2.2 (by omega) (by omega);omega
def Box(ns rs:List Int):Prop:=rs.length=(rO (QK ns)).length/\UZ (dR ns) rs
def Box.fig{ns rs:List Int}(h:Box ns rs):Box ns (Zc ns rs):=⟨Ku ns rs,Em ns rs h.1⟩
def Box.mono{ns r1 r2:List Int}(h1:Box ns r1)(h2:Box ns r2)(h:Vs r1 r2):Vs (Zc ns r1) (Zc ns r2):=Qc9 ns r1 r2 h1.1 h1.2 h2.2 h
theorem Box.sum{ns rs:List Int}(h:Box ns rs):0<=rs.sum/\rs.sum<=(rO (QK ns)).length*dR ns:=by have:=Fe h.2;rw[h.1]at this;omega
def Qen{xs ys:List Int}(h:Vs xs ys)(ne:ys≠xs):xs.sum<ys.sum:=(DV h).2 λe=>ne e.symm
def Qic(ns first:List Int)(I:List Int->Prop)(m:List Int->Nat)(hI:∀rs,I rs->Box ns rs)(hg:∀rs,I rs->Zc ns rs≠rs->I (Zc ns rs)/\m (Zc ns rs)<m rs)(hm:m first<=9000)(h0:I first):∃r,N6 [Q9 (QK ns),S0 ns,.lst (first.map .int)]=QA (r.map .int)/\I r/\Zc ns r=r:=by obtain⟨r,h1,h2,h3⟩:=Ai (c:=Yd (eV 4) (eV 3)) (b:=sQ (Q6 (eV 4) (gS 3)) (Q6 (eK Tb (JI (eV 0) (eV 1) (eV 3))) (gS 4))) (env:=λrs=>[some (Q9 (QK ns)),some (S0 ns),QA (first.map .int),QA (rs.map .int),QA ((Zc ns rs).map .int)]) (F:=Zc ns) (I:=I) (m:=m) (λrs h e=>Q1 rfl rfl (by rw[Dy];simp[e])) (λrs h e=>⟨Q1 rfl rfl (by rw[Dy];simp[e]),st (e1:=[some (Q9 (QK ns)),some (S0 ns),QA (first.map .int),QA ((Zc ns rs).map .int),QA ((Zc ns rs).map .int)]) rfl (J0 (YE rfl rfl rfl (El ns (Zc ns rs) (Ku ns rs))) rfl),hg rs h e⟩) 9000 first h0 hm;refine⟨r,?_,h2,h3⟩;have fa:=El ns first (hI first h0).1;unfold N6 KU;refine JS rfl ?_;refine st (e1:=[some (Q9 (QK ns)),some (S0 ns),QA (first.map .int),QA (first.map .int),none]) rfl ?_;refine st (e1:=[some (Q9 (QK ns)),some (S0 ns),QA (first.map .int),QA (first.map .int),QA ((Zc ns first).map .int)]) (J0 (YE rfl rfl rfl fa) rfl) ?_;refine st (e1:=[some (Q9 (QK ns)),some (S0 ns),QA (first.map .int),QA (r.map .int),QA ((Zc ns r).map .int)]) ?_ (ret rfl);have h9:=Aj _ _ (9000+1) 100000 (by omega) _ _ h1;exact h9
def QeB{a:Q7}{e:QG}{x:D}(h:a e=some x):QF (lC a lN) e=some (.lst [x]):=by unfold QF lC lN;rw[h];rfl
def Dw{xs:List D}{n:Int}(h:-1073741824<n/\n<1073741824/\xs.length*n.toNat<=lI):D.mulA (.lst xs) (.int n)=some (.lst (List.replicate n.toNat xs).flatten):=if_pos h
def QeO(i:Int)(n:Nat)(h:n<=200):D.mulA (.lst [.int i]) (.int n)=QA ((List.replicate n i).map .int):=by
 have e:D.mulA (.lst [.int i]) (.int n)=some (.lst (List.replicate (n:Int).toNat [D.int i]).flatten):=Dw ⟨by omega,by omega,lB (by simp;omega)⟩;rw[e];have:(List.replicate (n:Int).toNat [D.int i]).flatten=(List.replicate n i).map D.int:=by simp
 rw[this]
def Qeq(ns:List Int){e:QG}(h0:e[0]?=some (some (Q9 (QK ns)))):QB D.len (eK Vp (QU (eV 0))) e=some (.int (rO (QK ns)).length):=by have hR:eK Vp (QU (eV 0)) e=some (QR (rO (QK ns))):=JD (show eV 0 e=_ by unfold eV;rw[h0];rfl) (MM (QK ns) (Xa ns));refine JK hR ?_;show some (D.int ((rO (QK ns)).map D.str).length)=_;rw[Qo]
theorem LN{r:Int->Int->Prop}{x:Int}:∀{ys:List Int}{n:Nat},ys.length=n->(∀y∈ys,r x y)->Jo r (List.replicate n x) ys|[],n,h,_=>by cases h;trivial|y::ys,n,h,hr=>by cases h;exact⟨hr y (by simp),LN rfl λz hz=>hr z (by simp[hz])⟩
def Fd(ns:List Int)(x:Int)(h:1<=x/\x<=dR ns):Box ns (List.replicate (rO (QK ns)).length x):=⟨by simp,λr hr=>by rw[List.eq_of_mem_replicate hr];exact h⟩
def Qep(ns:List Int):∃r,SO [Q9 (QK ns),S0 ns]=QA (r.map .int)/\Box ns r/\Zc ns r=r/\∀e,Box ns e->Vs (Zc ns e) e->Vs r e:=by have rt:=QhR ns;have rb:=TL ns;obtain⟨r,h1,⟨h2,h3,h4⟩,h5⟩:=Qic ns (List.replicate (rO (QK ns)).length 1) (λrs=>Box ns rs/\Vs rs (Zc ns rs)/\∀e,Box ns e->Vs (Zc ns e) e->Vs rs e) (λrs=>(((rO (QK ns)).length:Int)*dR ns-rs.sum).toNat) (λrs h=>h.1) (λrs⟨a,b,c⟩ne=>⟨⟨a.fig,a.mono a.fig b,λe he hf=>DW (a.mono he (c e he hf)) hf⟩,by have:=Qen b ne;have:=a.fig.sum;omega⟩) (by have:=(Fd ns 1 ⟨by omega,by omega⟩).sum;omega) ⟨Fd ns 1 ⟨by omega,by omega⟩,LN (Ku ns _) λy hy=>(Em ns _ (by simp) y hy).1,λe he _=>LN he.1 λy hy=>(he.2 y hy).1⟩;refine⟨r,?_,h2,h5,h4⟩;unfold SO K3;refine JS rfl (A7 (a:=.non) rfl rfl (ret (YE rfl rfl ?_ h1)));exact Q1 (x:=.lst [.int 1]) rfl (Qeq ns rfl) (QeO 1 _ (Ek ns))
def Qi9(bs:List Bk)(i:Nat)(h:i<bs.length):D.ix (Q9 bs) (.int (0+(i:Int)))=some bs[i].d:=by
 have:=Wz (f:=Bk.d) bs (0+(i:Int)) (.para []) (by omega) (by omega);unfold Q9;rw[this];have e:(0+(i:Int)).toNat=i:=by omega
 rw[e,Yb,Qf h];rfl
def AQ(X:List (List Plc))(i:Nat)(h:i<X.length):D.ix (Qs X) (.int (0+(i:Int)))=some (QP (X.getD i [])):=by have:=Wz (f:=QP) X (0+(i:Int)) [] (by omega) (by omega);unfold Qs;rw[this];congr 3;omega
def ixT(X:List (List Plc))(i:Nat)(h:i<X.length):D.ix (Qs X) (.int (0+(i:Int)))=some (QP (X.getD i [])):=by have:=Wz (f:=QP) X (0+(i:Int)) [] (by omega) (by omega);unfold Qs;rw[this];congr 3;omega
def DJ(X:List Plc)(i:Nat)(h:i<X.length):D.ix (QP X) (.int (0+(i:Int)))=some (X.getD i ⟨0,0,0⟩).d:=by have:=Wz (f:=Plc.d) X (0+(i:Int)) ⟨0,0,0⟩ (by omega) (by omega);unfold QP;rw[this];congr 3;omega
noncomputable def Xw(t:Str)(p:Int):D:=.tup [.str t,.int p]
noncomputable def Zl(q:Bk×List Plc):List (Str×Int):=match q.1 with|.chapter t _=>[(t,(q.2.getD 0 ⟨0,0,0⟩).p)]|.heading t _ _=>[(t,(q.2.getD 0 ⟨0,0,0⟩).p)]|_=>[]
def Je(xs:List (Str×Int)):D:=.lst (xs.map λx=>Xw x.1 x.2)
def AV(xs:List (Str×Int))(t:Str)(p:Int)(h:xs.length<=1000000):D.app (Je xs) (Xw t p)=some (Je (xs++[(t,p)])):=by unfold Je;rw[YQ];show(if _ then some _ else none)=_;rw[if_pos (WM (by rw[Qo];exact h))];rfl
def QiR(q:Bk×List Plc):(Zl q).length<=1:=by obtain⟨b,p⟩:=q;cases b<;>simp[Zl]
def Mc(qs:List (Bk×List Plc)):(qs.flatMap Zl).length<=qs.length:=by induction qs with|nil=>simp|cons q qs ih=>rw[Y1,Qe,JV];have:=QiR q;omega
def AR{a b:Q7}{e:QG}{x y:D}(ha:a e=some x)(hb:b e=some y):QN (lC a (lC b lN)) e=some (.tup [x,y]):=by unfold QN lC lN;rw[ha,hb];rfl
def pl0(q0:Plc)(r:List Plc):D.ix (QP (q0::r)) (.int 0)=some q0.d:=by have:=DJ (q0::r) 0 (by simp);exact this
def CU(q0:Plc):D.ix q0.d (.int 0)=Q0 q0.p:=rfl
def QiQ(bs:List Bk)(c:List Plc)(rows:List (List Plc))(hf:V9 bs)(hr:rows.length=bs.length)(hs:∀q∈bs.zip rows,q.2.length=W8 q.1):SS [Q9 bs,Qs (c::rows)]=some (Je ((bs.zip rows).flatMap Zl)):=by
 unfold SS KW;refine JS rfl ?_;refine st (e1:=[some (Q9 bs),some (Qs (c::rows)),some (Je []),none,none]) rfl ?_;have hz:(bs.zip rows).length<=100000:=by rw[Xp];have:=hf.1;omega
 refine XQ (λq:Bk×List Plc=>D.tup [q.1.d,QP q.2]) (bs.zip rows) (λi e=>∃a b,e=[some (Q9 bs),some (Qs (c::rows)),some (Je (((bs.zip rows).take i).flatMap Zl)),a,b]) ?_ ⟨none,none,rfl⟩ ?_ ?_
 ·have hc:JM (eV 1) (JJ (Q4 1)) JX [some (Q9 bs),some (Qs (c::rows)),some (Je []),none,none]=some (Qs rows):=Kh c rows;unfold Wi;rw[hc];show some (VY (bs.map Bk.d) (rows.map QP))=_;rw[R9]
 ·rintro i hi e⟨a,b,rfl⟩;rw[fT _ _ _ hi];have hle:(((bs.zip rows).take i).flatMap Zl).length<=1000000:=by
   have:=Mc ((bs.zip rows).take i);rw[Yy]at this;omega
  have hq:=hs (bs.zip rows)[i] (YB hi);generalize(bs.zip rows)[i]=q at*;generalize((bs.zip rows).take i).flatMap Zl=kv at*;obtain⟨x,pls⟩:=q;simp only[]at hq⊢;have it:=NG x;generalize Q9 bs=BS at*;generalize Qs (c::rows)=TT at*;have hit:∀(t:Str)(d1:D),Yo x=true->D.ix x.d (.int 1)=QQ t->Zl (x,pls)=[(t,(pls.getD 0 ⟨0,0,0⟩).p)]->pls.length=1->∃e',(JQ [gS 3,gS 4] (D.tup [x.d,QP pls]) [some BS,some TT,some (Je kv),a,b]).bind (QD (eK Xf (QU (eV 3))) (sP 2 (QN (Qc (Q2 3 1) (WA (Q2 4 0) 0)))) QE)=some (.nx e')/\e'=[some BS,some TT,some (Je (kv++Zl (x,pls))),some x.d,some (QP pls)]:=λt d1 h1 h2 h3 h4=>by match pls,h4 with
   |[q0],_=>
    refine⟨_,?_,rfl⟩;refine Jg rfl ?_;refine JR (by rw[JD rfl it,h1]) ?_;rw[h3];exact WY (d:=Xw t q0.p) rfl (AR (Q1 (x:=x.d) rfl rfl h2) (Q1 (Q1 (x:=QP [q0]) rfl rfl (pl0 q0 [])) rfl (CU q0))) (AV kv t q0.p hle)
  have dB:Yo x=false->Zl (x,pls)=[]->∃e',(JQ [gS 3,gS 4] (D.tup [x.d,QP pls]) [some BS,some TT,some (Je kv),a,b]).bind (QD (eK Xf (QU (eV 3))) (sP 2 (QN (Qc (Q2 3 1) (WA (Q2 4 0) 0)))) QE)=some (.nx e')/\e'=[some BS,some TT,some (Je (kv++Zl (x,pls))),some x.d,some (QP pls)]:=λh1 h2=>by
   refine⟨_,?_,rfl⟩;refine Jg rfl ?_;refine QY (by rw[JD rfl it,h1]) ?_;rw[h2,Yx];rfl
  have h:∃e',(JQ [gS 3,gS 4] (D.tup [x.d,QP pls]) [some BS,some TT,some (Je kv),a,b]).bind (QD (eK Xf (QU (eV 3))) (sP 2 (QN (Qc (Q2 3 1) (WA (Q2 4 0) 0)))) QE)=some (.nx e')/\e'=[some BS,some TT,some (Je (kv++Zl (x,pls))),some x.d,some (QP pls)]:=by cases x with
   |chapter t l=>exact hit t .non rfl rfl rfl hq|heading t k l=>exact hit t .non rfl rfl rfl hq|para is=>exact dB rfl rfl|table r l=>exact dB rfl rfl|plates n l=>exact dB rfl rfl
  obtain⟨e',h1,h2⟩:=h;exact⟨e',.inl h1,_,_,h2⟩
 ·rintro e⟨a,b,rfl⟩;rw[VV];exact ret rfl
def QaG(bs:List Bk)(i:Nat)(h:i<bs.length):D.ix (Q9 bs) (.int (0+(i:Int)))=some bs[i].d:=by
 have:=Wz (f:=Bk.d) bs (0+(i:Int)) (.para []) (by omega) (by omega);unfold Q9;rw[this];have e:(0+(i:Int)).toNat=i:=by omega
 rw[e,Yb,Qf h];rfl
def AO{e:QG}{a:Q7}(x:Bk)(h:a e=some x.d):Qa (Q5 D.eqO (Q5 D.ix a (eC (.int 0))) (eC (.str "chapter"))) (Q5 D.eqO (Q5 D.ix a (eC (.int 0))) (eC (.str "heading"))) e=some (.bl (Yo x)):=by cases x<;>simp[Qa,Q5,eC,h,D.ix,JN,Qb,Qj,Yo]
def QiP(x:Bk)(pls:List Plc)(h:Yo x=true)(hq:pls.length=W8 x):∃t q0,D.ix x.d (.int 1)=QQ t/\pls=[q0]/\Zl (x,pls)=[(t,q0.p)]:=by
 have one:∀(t:Str),pls.length=1->∃q0,pls=[q0]:=λt h=>by match pls,h with|[q0],_=>exact⟨q0,rfl⟩
 cases x with|chapter t l=>obtain⟨q0,rfl⟩:=one t hq;exact⟨t,q0,rfl,rfl,rfl⟩|heading t k l=>obtain⟨q0,rfl⟩:=one t hq;exact⟨t,q0,rfl,rfl,rfl⟩|para is=>cases h|table r l=>cases h|plates n l=>cases h
def QiO(x:Bk)(pls:List Plc)(h:Yo x=false):Zl (x,pls)=[]:=by cases x<;>first|rfl|cases h
def Qei(bs:List Bk)(c:List Plc)(rows:List (List Plc))(hf:V9 bs)(hr:rows.length=bs.length)(hs:∀q∈bs.zip rows,q.2.length=W8 q.1):Oq [Q9 bs,Qs (c::rows)]=some (Je ((bs.zip rows).flatMap Zl)):=by
 unfold Oq Le;refine JS rfl ?_;refine st (e1:=[some (Q9 bs),some (Qs (c::rows)),some (Je []),none]) rfl ?_;have hz:(bs.zip rows).length=bs.length:=by rw[Xp];omega
 have hf1:=hf.1;refine Hg bs.length (λi e=>∃a,e=[some (Q9 bs),some (Qs (c::rows)),some (Je (((bs.zip rows).take i).flatMap Zl)),a]) ?_ ⟨none,rfl⟩ ?_ ?_;·have lt:QB D.len (eV 0) [some (Q9 bs),some (Qs (c::rows)),some (Je []),none]=some (.int bs.length):=JK (x:=Q9 bs) rfl (by show some (D.int (bs.map Bk.d).length)=_;rw[Qo]);unfold VE;rw[lt];exact if_pos (show(bs.length:Int).natAbs<4611686018427387904 by omega)
 ·rintro i hi e⟨a,rfl⟩;have hi':i<(bs.zip rows).length:=by omega
  have jD:i<rows.length:=by omega
  rw[fT _ _ _ hi'];have hle:(((bs.zip rows).take i).flatMap Zl).length<=1000000:=by
   have:=Mc ((bs.zip rows).take i);rw[Yy]at this;omega
  have hq:=hs (bs.zip rows)[i] (YB hi');have hx:=QaG bs i hi;have hT:D.ix (Qs (c::rows)) (.int (0+(i:Int)+1))=some (QP rows[i]):=by
   have:=ixT (c::rows) (i+1) (by simp;omega);rw[show(0+((i+1:Nat):Int))=0+(i:Int)+1 by omega]at this;rw[this,List.getD_cons_succ,Yb,Qf jD];rfl
  rw[getElem_zip]at hq⊢;simp only[]at hq;generalize bs[i]=x at*;generalize rows[i]=pls at*;generalize((bs.zip rows).take i).flatMap Zl=kv at*;generalize Q9 bs=BS at*;generalize Qs (c::rows)=TT at*;have hv:Q5 D.ix (eV 0) (eV 3) [some BS,some TT,some (Je kv),some (.int (0+(i:Int)))]=some x.d:=Q1 rfl rfl hx;cases q:Yo x with
  |true=>
   obtain⟨t,q0,h1,rfl,h3⟩:=QiP x pls q hq;refine⟨[some BS,some TT,some (Je (kv++[(t,q0.p)])),some (.int (0+(i:Int)))],.inl ?_,_,by rw[h3]⟩;refine Jg (e1:=[some BS,some TT,some (Je kv),some (.int (0+(i:Int)))]) rfl ?_;refine JR (by rw[AO x hv,q]) ?_;exact WY (d:=Xw t q0.p) rfl (AR (Q1 hv rfl h1) (Q1 (Q1 (Q1 (x:=TT) (y:=.int (0+(i:Int)+1)) rfl rfl hT) rfl (pl0 q0 [])) rfl (CU q0))) (AV kv t q0.p hle)|false=>
   refine⟨[some BS,some TT,some (Je kv),some (.int (0+(i:Int)))],.inl ?_,_,by rw[QiO x pls q,Yx]⟩;refine Jg (e1:=[some BS,some TT,some (Je kv),some (.int (0+(i:Int)))]) rfl ?_;refine QY (by rw[AO x hv,q]) ?_;rfl
 ·rintro e⟨a,rfl⟩;rw[<-hz,VV];exact ret rfl
def Qi4(i:Int):Ot [.int i]=QS true:=by unfold Ot Lf;exact JS rfl (ret (Ye (D8 (t:="int") (x:=.int i) rfl rfl) (Th (b:=false) (D8 (t:="bool") (x:=.int i) rfl rfl))))
inductive Op where|ln(q:Plc)(B:List Str)|wd(q:Plc)(x:Str)(M:List Str)
noncomputable def Op.p:Op->Plc|.ln q _=>q|.wd q _ _=>q
def Zs(m:SM):Op->SM|.ln q B=>YT (λx=>(x.1++B,x.2)) m q.p|.wd q x M=>YT (Tw (decide (q.c=0)) x M) m q.p
def PL(L N:List Str):Op->List Str×List Str|.ln _ B=>(L++B,N)|.wd q x M=>Tw (decide (q.c=0)) x M (L,N)
def Cur(m:SM)(g:Int)(r:SM)(L N:List Str):Prop:=(m=r/\L=[]/\N=[]\/m=r++[(g,L,N)])/\∀x∈r,x.1<g
theorem Ae(f:List Str×List Str->List Str×List Str):∀(m:SM)(g:Int),(∀x∈m,x.1<g)->YT f m g=m++[(g,f ([],[]))]|[],_,_=>rfl|x::m,g,h=>by have h1:=h x Ja;show(if x.1=g then(x.1,f x.2)::m else x::YT f m g)=_;rw[if_neg (by omega),Ae f m g λy hy=>h y (JO _ hy)];rfl
theorem Ad(f:List Str×List Str->List Str×List Str)(a:List Str×List Str):∀(r:SM)(g:Int),(∀x∈r,x.1<g)->YT f (r++[(g,a)]) g=r++[(g,f a)]|[],g,_=>by show(if g=g then[(g,f a)]else _)=_;rw[if_pos rfl];rfl|x::r,g,h=>by have h1:=h x Ja;show(if x.1=g then(x.1,f x.2)::(r++[(g,a)])else x::YT f (r++[(g,a)]) g)=_;rw[if_neg (by omega),Ad f a r g λy hy=>h y (JO _ hy)];rfl
section
variable{m r:SM}{g:Int}{L N:List Str}
def Cur.upd(c:Cur m g r L N)(f:List Str×List Str->List Str×List Str):YT f m g=r++[(g,f (L,N))]:=by
 obtain⟨e|e,h⟩:=c
 ·obtain⟨rfl,rfl,rfl⟩:=e;exact Ae f _ g h
 ·rw[e];exact Ad f _ r g h
theorem ET:∀(m:SM)(g:Int),ens m g=YT id m g|[],_=>rfl|x::m,g=>by show(if x.1=g then x::m else x::ens m g)=(if x.1=g then(x.1,id x.2)::m else x::YT id m g);rw[ET m g];rfl
theorem Cur.ens(c:Cur m g r L N):ens m g=r++[(g,L,N)]:=by rw[ET,c.upd];rfl
def Cur.nxt(c:Cur m g r L N)(L2 N2:List Str):Cur (r++[(g,L2,N2)]) g r L2 N2:=⟨.inr rfl,c.2⟩
def Cur.sub(c:Cur m g r L N):∀x∈m,x∈r\/x=(g,L,N):=by
 intro x hx;obtain⟨e|e,h⟩:=c;·rw[e.1]at hx;exact .inl hx
 ·rw[e]at hx;exact(q_7.mp hx).imp id q_2.mp
def Cur.le(c:Cur m g r L N):∀x∈m,x.1<=g:=by
 intro x hx;rcases c.sub x hx with z|z;·exact Sv (c.2 x z)
 ·rw[z];exact Ji _
def Cur.new(c:Cur m g r L N){g':Int}(h:g<g'):Cur m g' m [] []:=⟨.inl ⟨rfl,rfl,rfl⟩,λx hx=>by have:=c.le x hx;omega⟩
def Cur.len(c:Cur m g r L N):r.length<=m.length:=by
 obtain⟨e|e,_⟩:=c;·rw[e.1];exact Qz _
 ·rw[e];simp
def NV{o:Op}(c:Cur m o.p.p r L N):Zs m o=r++[(o.p.p,PL L N o)]:=by cases o with|ln q B=>exact c.upd _|wd q x M=>exact c.upd _
end
noncomputable def Sits(L:List Str):Op->Prop|.ln q B=>q.c=0/\q.l=L.length/\B.length<=1000|.wd q x M=>x.length<=1000/\M.length<=1000/\(q.c=0/\q.l=L.length\/0<q.c/\∃L' y,L=L'++[y]/\q.l=L'.length/\q.c=y.length+1)
def okOp(m:SM)(o:Op):Prop:=∃r L N,Cur m o.p.p r L N/\(∀x∈r,x.2.1.length<=1000/\x.2.2.length<=1000)/\L.length<=1000/\N.length<=1000/\(∀y∈L,y.length<=1000)/\Sits L o
def Good:SM->List Op->Prop|_,[]=>True|m,o::os=>okOp m o/\Good (Zs m o) os
theorem Good.app:∀{os qs:List Op}{m:SM},Good m os->Good (os.foldl Zs m) qs->Good m (os++qs)|[],_,_,_,h=>h|_::_,_,_,h1,h2=>⟨h1.1,Good.app h1.2 h2⟩
theorem Good.len:∀{os:List Op}{m:SM},Good m os->(os.foldl Zs m).length<=m.length+os.length|[],_,_=>Qz _|o::os,m,h=>by have ih:=Good.len h.2;obtain⟨r,L,N,c,_⟩:=h.1;have e:=NV c;have:=c.len;rw[e,Qe]at ih;rw[YA,JV,e];simp at ih;omega
def TC(x:Str):x++Str.ofString ""=x:=by have:(Str.ofString "").cps=#[]:=rfl;show(⟨x.cps++(Str.ofString "").cps⟩:Str)=x;rw[this,Array.append_empty]
def IY(x:Str):Str.ofString ""++x=x:=by have:(Str.ofString "").cps=#[]:=rfl;show(⟨(Str.ofString "").cps++x.cps⟩:Str)=x;rw[this,Array.empty_append]
def RJ(x y z:Str):x++y++z=x++(y++z):=by show(⟨x.cps++y.cps++z.cps⟩:Str)=⟨x.cps++(y.cps++z.cps)⟩;rw[Array.append_assoc]
def Ext(L L':List Str):Prop:=∀(i:Nat)(row:Str),L[i]?=some row->∃b,L'[i]?=some (row++b)
def Eg(L:List Str):Ext L L:=λi row h=>⟨Str.ofString "",by rw[TC];exact h⟩
def Ef(L B:List Str):Ext L (L++B):=λi row h=>⟨Str.ofString "",by rw[TC,YO (q_18.mp h).1];exact h⟩
def Qc7(L:List Str)(y b:Str):Ext (L++[y]) (L++[y++b]):=λi row h=>by
 by_cases z:i<L.length;·rw[YO z]at h;exact⟨Str.ofString "",by rw[TC,YO z];exact h⟩
 ·have hl:i<(L++[y]).length:=(q_18.mp h).1;have e:i=L.length:=by simp at hl;omega
  subst e;rw[MI]at h;cases h;exact⟨b,MI⟩
def Ext.trans{A B C:List Str}(h1:Ext A B)(h2:Ext B C):Ext A C:=λi row h=>by obtain⟨b,hb⟩:=h1 i row h;obtain⟨c,hc⟩:=h2 i _ hb;exact⟨b++c,by rw[hc,RJ]⟩
def Kx(x y:Str)(L:List Str):XI x (L++[y])=L++[y++Str.ofString " "++x]:=by unfold XI;rw[List.getLast?_concat];show(L++[y]).set ((L++[y]).length-1) _=_;rw[Qe,Tr,Nat.add_sub_cancel,List.set_append_right _ _ (Qz _),sub_self];rfl
def Grow(m m':SM):Prop:=∀e∈m,∃e'∈m',e'.1=e.1/\Ext e.2.1 e'.2.1
def Qdq(m:SM):Grow m m:=λe he=>⟨e,he,rfl,Eg _⟩
theorem Grow.trans{A B C:SM}(h1:Grow A B)(h2:Grow B C):Grow A C:=λe he=>by obtain⟨x,hx,ex,gx⟩:=h1 e he;obtain⟨y,hy,ey,gy⟩:=h2 x hx;exact⟨y,hy,ey.trans ex,gx.trans gy⟩
def Sits.ext{L:List Str}(N:List Str){o:Op}(s:Sits L o):Ext L (PL L N o).1:=by cases o with
 |ln q B=>exact Ef _ _|wd q x M=>
  obtain⟨_,_,⟨hc,_⟩|⟨hc,L',y,e,_⟩⟩:=s
  ·show Ext L (if decide (q.c=0)=true then L++[x]else XI x L);rw[if_pos (Z6 hc)];exact Ef _ _
  ·show Ext L (if decide (q.c=0)=true then L++[x]else XI x L);rw[if_neg (by simp;omega),e,Kx,RJ];exact Qc7 _ _ _
def okOp.grow{m:SM}{o:Op}(h:okOp m o):Grow m (Zs m o):=by
 obtain⟨r,L,N,c,_,_,_,_,s⟩:=h;rw[NV c];intro e he;rcases c.sub e he with z|z;·exact⟨e,Vi _ z,rfl,Eg _⟩
 ·exact⟨_,YZ _ (q_2.mpr rfl),by rw[z],by rw[z];exact s.ext N⟩
def Stand(m:SM)(q:Plc)(x:Str):Prop:=∃e∈m,e.1=q.p/\0<=q.l/\∃row,e.2.1[q.l.toNat]?=some row/\∃a b:Str,row=a++x++b/\(a.length:Int)=q.c/\(0<q.c->∃a',a=a'++(Str.ofString " "))
def Stand.grow{m m':SM}{q:Plc}{x:Str}(h:Stand m q x)(g:Grow m m'):Stand m' q x:=by obtain⟨e,he,e1,h0,row,h1,a,b,h2,h3,h4⟩:=h;obtain⟨e',lF,e2,ex⟩:=g e he;obtain⟨c,hc⟩:=ex _ _ h1;exact⟨e',lF,e2.trans e1,h0,_,hc,a,b++c,by rw[h2,RJ (a++x)],h3,h4⟩
def AN:Op->List (Plc×Str×List Str)|.ln q B=>B.mapIdx λj x=>(⟨q.p,q.l+j,q.c⟩,x,[])|.wd q x M=>[(q,x,M)]
def okOp.stand{m:SM}{o:Op}(h:okOp m o):∀t∈AN o,Stand (Zs m o) t.1 t.2.1:=by
 obtain⟨r,L,N,c,_,_,_,_,s⟩:=h;rw[NV c];have mem:(o.p.p,PL L N o)∈r++[(o.p.p,PL L N o)]:=YZ _ (q_2.mpr rfl);cases o with
 |ln q B=>
  intro t ht;obtain⟨j,hj,rfl⟩:=List.mem_mapIdx.mp ht;obtain⟨s1,s2,_⟩:=s;refine⟨_,mem,rfl,by show 0<=q.l+(j:Int);omega,B[j],?_,Str.ofString "",Str.ofString "",by rw[IY,TC],?_,λz=>?_⟩
  ·show(L++B)[(q.l+(j:Int)).toNat]?=_;rw[show(q.l+(j:Int)).toNat=L.length+j by omega,Vx (by omega),Nat.add_sub_cancel_left];exact Qf hj
  ·show(((Str.ofString "").length:Nat):Int)=q.c;rw[s1];rfl
  ·have:(0:Int)<q.c:=z;omega|wd q x M=>
  intro t ht;have et:t=(q,x,M):=q_2.mp ht;subst et;obtain⟨_,_,⟨hc,hl⟩|⟨hc,L',y,e,hl,hy⟩⟩:=s
  ·refine⟨_,mem,rfl,by show 0<=q.l;omega,x,?_,Str.ofString "",Str.ofString "",by rw[IY,TC],?_,λz=>?_⟩
   ·show(if decide (q.c=0)=true then L++[x]else XI x L)[q.l.toNat]?=_;rw[if_pos (Z6 hc),show q.l.toNat=L.length by omega];exact MI
   ·show(((Str.ofString "").length:Nat):Int)=q.c;rw[hc];rfl
   ·have:(0:Int)<q.c:=z;omega
  ·refine⟨_,mem,rfl,by show 0<=q.l;omega,y++(Str.ofString " ")++x,?_,y++(Str.ofString " "),Str.ofString "",by rw[TC],?_,λ_=>⟨y,rfl⟩⟩
   ·show(if decide (q.c=0)=true then L++[x]else XI x L)[q.l.toNat]?=_;rw[if_neg (by simp;omega),e,Kx,show q.l.toNat=L'.length by omega];exact MI
   ·show(((y++(Str.ofString " ")).length:Nat):Int)=q.c;rw[Yq,hy];rfl
theorem Good.all:∀{os:List Op}{m:SM},Good m os->Grow m (os.foldl Zs m)/\∀o∈os,∀t∈AN o,Stand (os.foldl Zs m) t.1 t.2.1
 |[],m,_=>⟨Qdq m,λ_ h=>nomatch h⟩|o::os,m,h=>by
  obtain⟨i1,i2⟩:=Good.all h.2;refine⟨(okOp.grow h.1).trans i1,λq hq t ht=>?_⟩;rcases q_5.mp hq with z|z;·subst z;exact(okOp.stand h.1 t ht).grow i1
  ·exact i2 q z t ht
structure Ink(w h:Int)(s:Sta)(m r:SM)(L N:List Str):Prop where
 cur:Cur m s.p r L N
 ll:(L.length:Int)=s.l+(if s.u=0 then 0 else 1)ln:(N.length:Int)=s.f
 la:s.u≠0->∃L' y,L=L'++[y]/\(y.length:Int)=s.u
 up:r.Pairwise λa b=>a.1<b.1
 hi:∀x∈r,(x.2.1.length:Int)+x.2.2.length<=h
 wd:∀y∈L,(y.length:Int)<=w
 wr:∀x∈r,∀y∈x.2.1,(y.length:Int)<=w
def ShOk(w h:Int)(s:Sta)(m:SM):Prop:=∃r L N,Ink w h s m r L N
def Ink.hi'{w h:Int}{s:Sta}{m r:SM}{L N:List Str}(i:Ink w h s m r L N)(hs:J8 w h s):(L.length:Int)+N.length<=h:=by obtain⟨h0,h1,h2,h3,h4,h5⟩:=hs;have a:=i.ll;have b:=i.ln;split at a<;>omega
def Ink.all{w h:Int}{s:Sta}{m r:SM}{L N:List Str}(i:Ink w h s m r L N)(hs:J8 w h s):m.Pairwise (λa b=>a.1<b.1)/\(∀x∈m,(x.2.1.length:Int)+x.2.2.length<=h)/\∀x∈m,∀y∈x.2.1,(y.length:Int)<=w:=by
 refine⟨?_,λx hx=>?_,λx hx=>?_⟩
 ·obtain⟨e|e,c⟩:=i.cur;·rw[e.1];exact i.up
  ·rw[e,List.pairwise_append];exact⟨i.up,List.pairwise_singleton _ _,λa ha b hb=>by rw[q_2.mp hb];exact c a ha⟩
 ·rcases i.cur.sub x hx with z|z;·exact i.hi x z
  ·rw[z];exact i.hi' hs
 ·rcases i.cur.sub x hx with z|z;·exact i.wr x z
  ·rw[z];exact i.wd
theorem Ink.new{w h:Int}{s:Sta}{m r:SM}{L N:List Str}(i:Ink w h s m r L N)(hs:J8 w h s){g:Int}(hg:s.p<g):Ink w h (Ju g) m m [] []:=⟨i.cur.new hg,rfl,rfl,λz=>absurd rfl z,(i.all hs).1,(i.all hs).2.1,(λ_ z=>nomatch z),(i.all hs).2.2⟩
theorem ShOk.new{w h:Int}{s:Sta}{m:SM}(i:ShOk w h s m)(hs:J8 w h s){g:Int}(hg:s.p<g):ShOk w h (Ju g) m:=by obtain⟨r,L,N,i⟩:=i;exact⟨m,[],[],i.new hs hg⟩
def ShOk.end_{w h:Int}{s:Sta}{m:SM}(i:ShOk w h s m)(hs:J8 w h s):ShOk w h (endLine s) m:=by
 unfold endLine;by_cases z:s.u=0;·rw[if_pos z];exact i
 ·rw[if_neg z];obtain⟨r,L,N,i⟩:=i;refine⟨r,L,N,i.cur,?_,i.ln,λz=>absurd rfl z,i.up,i.hi,i.wd,i.wr⟩;have:=i.ll;rw[if_neg z]at this;rw[this];exact(add_zero _).symm
def ShOk.page{w h:Int}{s:Sta}{m:SM}(i:ShOk w h s m)(hs:J8 w h s):ShOk w h (Jc s) m:=by
 unfold Jc;split;·exact i
 ·exact i.new hs (by omega)
def Qe2(s:Sta):Jc s=Ju (Jc s).p:=by
 unfold Jc;split;·rename_i z;obtain⟨a,b,c⟩:=z;cases s;dsimp only at a b c;subst a b c;rfl
 ·rfl
def OQ{w h g:Int}(hw:0<=w)(hh:0<=h):J8 w h (Ju g):=⟨Ji _,Ji _,hw,Ji _,hh,λz=>absurd z (Int.lt_irrefl _)⟩
def IW{w h:Int}(s:Sta)(hw:0<=w)(hh:0<=h):J8 w h (Jc s):=by rw[Qe2];exact OQ hw hh
def ShOk.chapter{w h:Int}{s:Sta}{m:SM}(o:Bool)(i:ShOk w h s m)(hs:J8 w h s)(hw:0<=w)(hh:0<=h):ShOk w h (ZA o s) m:=by
 unfold ZA;split;·exact(i.page hs).new (IW s hw hh) (by omega)
 ·exact i.page hs
def C7{w h:Int}(o:Bool)(s:Sta)(hw:0<=w)(hh:0<=h):J8 w h (ZA o s):=by
 unfold ZA;split;·exact OQ hw hh
 ·exact IW s hw hh
structure Run(w h:Int)(m:SM)(os:List Op)(s':Sta):Prop where
 good:Good m os
 ok:ShOk w h s' (os.foldl Zs m)st:J8 w h s'
section
variable{w h:Int}{s s1 s2 s':Sta}{m:SM}
theorem Run.app{os qs:List Op}(a:Run w h m os s1)(b:Run w h (os.foldl Zs m) qs s2):Run w h m (os++qs) s2:=⟨a.good.app b.good,by rw[Tt];exact b.ok,b.st⟩
def Sw{o:Op}{r:SM}{L N L2 N2:List Str}(hb:w<=100/\h<=100)(c:Cur m o.p.p r L N)(hl:(L.length:Int)+N.length<=h)(hy:∀y∈L,(y.length:Int)<=w)(si:Sits L o)(e:PL L N o=(L2,N2))(k:Ink w h s' (r++[(o.p.p,L2,N2)]) r L2 N2)(st:J8 w h s'):Run w h m [o] s':=⟨⟨⟨r,L,N,c,λx hx=>by have:=k.hi x hx;omega,by omega,by omega,λy z=>by have:=hy y z;omega,si⟩,trivial⟩,⟨r,L2,N2,by show Ink w h s' (Zs m o) r L2 N2;rw[NV c,e];exact k⟩,st⟩
def Al(i:ShOk w h s m)(hs:J8 w h s)(hb:w<=100/\h<=100)(x:Str)(M:List Str)(hn:1<=x.length/\(x.length:Int)<=w)(hr:(M.length:Int)<h):Run w h m [.wd (JG w h s x.length M.length).1 x M] (JG w h s x.length M.length).2:=by
 obtain⟨r,L,N,i⟩:=i;have bX:=Px (n:=x.length) (r:=M.length) hs ⟨by omega,hn.2⟩ ⟨by omega,hr⟩;have hh:=i.hi' hs;have kM:=hs;obtain⟨h0,h1,h2,h3,h4,h5⟩:=hs;have ll:=i.ll;have ln:=i.ln;have sx:x.length<=1000/\M.length<=1000:=by omega
 have wx:∀y∈L++[x],(y.length:Int)<=w:=λy hy=>(q_7.mp hy).elim (i.wd y) λz=>by rw[q_2.mp z];exact hn.2
 rcases Ip w h s x.length M.length h1 with⟨c1,c2,c,hc,e⟩|⟨c1,⟨c2,c3,e⟩|⟨c2,e⟩⟩
 ·rw[e]at bX⊢;rcases hc with⟨u0,c0⟩|⟨u0,c0⟩
  ·subst c0;rw[if_pos u0]at ll;refine Sw (o:=.wd ⟨s.p,s.l,0⟩ x M) (L2:=L++[x]) (N2:=N++M) hb i.cur hh i.wd ⟨sx.1,sx.2,.inl ⟨rfl,by show s.l=_;omega⟩⟩ rfl ⟨i.cur.nxt _ _,?_,?_,λ_=>⟨L,x,rfl,by show _=(0:Int)+_;omega⟩,i.up,i.hi,wx,i.wr⟩ bX
   ·show((L++[x]).length:Int)=s.l+(if(0:Int)+(x.length:Int)=0 then 0 else 1);rw[if_neg (by omega),Qe,Tr];omega
   ·show((N++M).length:Int)=s.f+M.length;rw[Qe];omega
  ·subst c0;have un:s.u≠0:=by omega
   rw[if_neg un]at ll;obtain⟨L',y,eL,ly⟩:=i.la un;have lL:L.length=L'.length+1:=by rw[eL];simp
   refine Sw (o:=.wd ⟨s.p,s.l,s.u+1⟩ x M) (L2:=L'++[y++(Str.ofString " ")++x]) (N2:=N++M) hb i.cur hh i.wd ⟨sx.1,sx.2,.inr ⟨by show 0<s.u+1;omega,L',y,eL,by show s.l=_;omega,by show s.u+1=_;omega⟩⟩ ?_ ⟨i.cur.nxt _ _,?_,?_,λ_=>⟨L',_,rfl,?_⟩,i.up,i.hi,λz hz=>?_,i.wr⟩ bX
   ·show(if decide (s.u+1=0)=true then L++[x]else XI x L,N++M)=_;rw[if_neg (by simp;omega),eL,Kx]
   ·show((L'++[y++(Str.ofString " ")++x]).length:Int)=s.l+(if s.u+1+(x.length:Int)=0 then 0 else 1);rw[if_neg (by omega),Qe,Tr];omega
   ·show((N++M).length:Int)=s.f+M.length;rw[Qe];omega
   ·show _=s.u+1+(x.length:Int);rw[Yq,Yq,show(Str.ofString " ").length=1 from rfl];omega
   ·rcases q_7.mp hz with q|q;·exact i.wd z (by rw[eL];exact Vi _ q)
    ·rw[q_2.mp q,Yq,Yq,show(Str.ofString " ").length=1 from rfl];rcases c1 with c1|c1<;>omega
 ·rw[e]at bX⊢;have un:s.u≠0:=by omega
  rw[if_neg un]at ll;refine Sw (o:=.wd ⟨s.p,s.l+1,0⟩ x M) (L2:=L++[x]) (N2:=N++M) hb i.cur hh i.wd ⟨sx.1,sx.2,.inl ⟨rfl,by show s.l+1=_;omega⟩⟩ rfl ⟨i.cur.nxt _ _,?_,?_,λ_=>⟨L,x,rfl,by show _=(0:Int)+_;omega⟩,i.up,i.hi,wx,i.wr⟩ bX
  ·show((L++[x]).length:Int)=s.l+1+(if(0:Int)+(x.length:Int)=0 then 0 else 1);rw[if_neg (by omega),Qe,Tr];omega
  ·show((N++M).length:Int)=s.f+M.length;rw[Qe];omega
 ·rw[e]at bX⊢;have j:=i.new kM (g:=s.p+1) (by omega);refine Sw (o:=.wd ⟨s.p+1,0,0⟩ x M) (L2:=[]++[x]) (N2:=[]++M) hb j.cur (by simp;omega) j.wd ⟨sx.1,sx.2,.inl ⟨rfl,rfl⟩⟩ rfl ⟨j.cur.nxt _ _,?_,?_,λ_=>⟨[],x,rfl,by show _=(0:Int)+_;omega⟩,j.up,j.hi,λy hy=>?_,j.wr⟩ bX
  ·show(([]++[x]:List Str).length:Int)=0+(if(0:Int)+(x.length:Int)=0 then 0 else 1);rw[if_neg (by omega)];rfl
  ·show(([]++M:List Str).length:Int)=M.length;simp
  ·rw[q_2.mp hy];exact hn.2
def OS(i:ShOk w h s m)(hs:J8 w h s)(hb:w<=100/\h<=100)(B:List Str)(keep:Int)(h1:1<=B.length)(hk:0<=keep)(hr:(B.length:Int)+keep<=h)(hw:∀y∈B,(y.length:Int)<=w):Run w h m [.ln (Jm h s B.length keep).1 B] (Jm h s B.length keep).2:=by
 have bX:=Uw (a:=B.length) (b:=keep) hs (by omega) hk hr;have eo:=TX hs;have i':=i.end_ hs;unfold Jm at bX⊢;generalize endLine s=t at*;obtain⟨ts,t0⟩:=eo;obtain⟨r,L,N,i⟩:=i';have ll:=i.ll;rw[if_pos t0]at ll;have ln:=i.ln;by_cases z:t.l+t.f+((B.length:Int)+keep)<=h
 ·rw[if_pos z]at bX⊢;refine Sw (o:=.ln ⟨t.p,t.l,0⟩ B) (L2:=L++B) (N2:=N) hb i.cur (i.hi' ts) i.wd ⟨rfl,by show t.l=_;omega,by omega⟩ rfl ⟨i.cur.nxt _ _,?_,i.ln,λz=>absurd rfl z,i.up,i.hi,(λy hy=>(q_7.mp hy).elim (i.wd y) (hw y)),i.wr⟩ bX;show((L++B).length:Int)=t.l+B.length+0;rw[Qe];omega
 ·rw[if_neg z]at bX⊢;have j:=i.new ts (g:=t.p+1) (by omega);refine Sw (o:=.ln ⟨t.p+1,0,0⟩ B) (L2:=[]++B) (N2:=[]) hb j.cur (by simp;omega) j.wd ⟨rfl,rfl,by omega⟩ rfl ⟨j.cur.nxt _ _,?_,rfl,λz=>absurd rfl z,j.up,j.hi,hw,j.wr⟩ bX;show(([]++B:List Str).length:Int)=0+B.length+0;simp
end
noncomputable def Jd(n:Int):Str:=Str.ofString (toString n)
def Hk{n:Int}(h:0<=n):(Jd n).length=Z4 n.toNat:=by have:=Hl n.toNat;rw[Int.toNat_of_nonneg h]at this;exact this
def UQ(kv:List (Str×Int))(i:It)(q:Plc):Op:=match i with|.ref l a b=>.wd q (a++Jd (JY kv l)++b) []|.word x ns=>.wd q x ns|_=>.wd q (Str.ofString "") []
def Se(kv:List (Str×Int))(is:List It)(pls:List Plc):List Op:=((is.filter Qx).zip pls).map λx=>UQ kv x.1 x.2
def VT(kv:List (Str×Int))(b:Bk×List Plc):List Op:=match b.1 with|.para is=>Se kv is b.2|.table rs _=>[.ln (b.2.getD 0 ⟨0,0,0⟩) rs]|.chapter t _=>[.ln (b.2.getD 0 ⟨0,0,0⟩) [t]]|.heading t _ _=>[.ln (b.2.getD 0 ⟨0,0,0⟩) [t]]|.plates _ _=>[]
section
variable{w h:Int}{s s1 s2 s':Sta}{m:SM}
def Run.nil(i:ShOk w h s m)(hs:J8 w h s):Run w h m [] s:=⟨trivial,i,hs⟩
def Run.cons{o:Op}{os:List Op}(a:Run w h m [o] s1)(b:Run w h (Zs m o) os s2):Run w h m (o::os) s2:=Run.app a b
theorem P5(af:Int)(kv:List (Str×Int))(ae:List Int)(hb:w<=100/\h<=100)(hh:1<=h):∀(is:List It)(pls:List Plc)(k:Nat)(s:Sta)(m:SM),ShOk w h s m->J8 w h s->(∀i∈is,Xy af w h i)->(∀i∈is,L0 i)->(∀(j:Nat)(l:Str),(Qu is)[j]?=some l->ae.getD (k+j) 0=(Z4 (JY kv l).toNat:Int)/\1<=JY kv l/\(Z4 (JY kv l).toNat:Int)<=af)->∃new,(is.foldl (Jw w h ae) (pls,k,s)).1=pls++new/\new.length=Jl is/\Run w h m (Se kv is new) (is.foldl (Jw w h ae) (pls,k,s)).2.2
 |[],pls,k,s,m,i,hs,_,_,_=>⟨[],(Yx _).symm,rfl,Run.nil i hs⟩|.word x ns::is,pls,k,s,m,i,hs,hf,hw,hR=>by
  have f1:=hf _ Ja;have w1:=hw _ Ja;have r1:=Al i hs hb x ns ⟨w1,f1.1⟩ (by have:=f1.2.1;omega);obtain⟨new,e1,e0,e2⟩:=P5 af kv ae hb hh is (pls++[(JG w h s x.length ns.length).1]) k _ _ r1.ok r1.st (λy hy=>hf y (JO _ hy)) (λy hy=>hw y (JO _ hy)) hR;refine⟨(JG w h s x.length ns.length).1::new,?_,?_,?_⟩;·rw[YA];refine e1.trans ?_;simp
  ·rw[Uu,JV,e0];simp[Qx,Y6];omega
  ·exact Run.cons r1 e2|.ref l a b::is,pls,k,s,m,i,hs,hf,hw,hR=>by
  have f1:=hf _ Ja;obtain⟨g1,g2,g3⟩:=hR 0 l rfl;have lx:((a++Jd (JY kv l)++b).length:Int)=(a.length:Int)+ae.getD k 0+b.length:=by
   rw[Yq,Yq,Hk (by omega)];have:ae.getD k 0=(Z4 (JY kv l).toNat:Int):=g1;omega
  have iD:(a.length:Int)+af+b.length<=w:=f1;have g1':ae.getD k 0=(Z4 (JY kv l).toNat:Int):=g1;have dp:=SE (JY kv l).toNat;have r1:=Al i hs hb (a++Jd (JY kv l)++b) [] ⟨by omega,by omega⟩ (by show((0:Nat):Int)<h;omega);rw[lx,show((([]:List Str).length:Nat):Int)=0 from rfl]at r1;obtain⟨new,e1,e0,e2⟩:=P5 af kv ae hb hh is (pls++[(JG w h s ((a.length:Int)+ae.getD k 0+b.length) 0).1]) (k+1) _ _ r1.ok r1.st (λy hy=>hf y (JO _ hy)) (λy hy=>hw y (JO _ hy)) (λj l' hj=>by have:=hR (j+1) l' hj;rw[show k+1+j=k+(j+1)by omega];exact this);refine⟨(JG w h s ((a.length:Int)+ae.getD k 0+b.length) 0).1::new,?_,?_,?_⟩;·rw[YA];refine e1.trans ?_;simp
  ·rw[Uu,JV,e0];simp[Qx,ZR];omega
  ·exact Run.cons r1 e2|.mark l::is,pls,k,s,m,i,hs,hf,hw,hR=>by obtain⟨new,e1,e0,e2⟩:=P5 af kv ae hb hh is pls k s m i hs (λy hy=>hf y (JO _ hy)) (λy hy=>hw y (JO _ hy)) hR;exact⟨new,e1,by rw[Uu,e0];simp[Qx,Y6,ZR],e2⟩|.key l::is,pls,k,s,m,i,hs,hf,hw,hR=>by obtain⟨new,e1,e0,e2⟩:=P5 af kv ae hb hh is pls k s m i hs (λy hy=>hf y (JO _ hy)) (λy hy=>hw y (JO _ hy)) hR;exact⟨new,e1,by rw[Uu,e0];simp[Qx,Y6,ZR],e2⟩
theorem Run.end_{os:List Op}(r:Run w h m os s'):Run w h m os (endLine s'):=⟨r.good,r.ok.end_ r.st,(TX r.st).1⟩
def Qdo(xs:List Int)(k j:Nat):(xs.drop k).getD j 0=xs.getD (k+j) 0:=by simp[Yb,List.getElem?_drop]
theorem FZ(af:Int)(kv:List (Str×Int))(ae:List Int)(o:Bool)(hb:w<=100/\h<=100)(fu:0<=w)(hh:1<=h)(h0:0<=af):∀(bs:List Bk)(acc:List (List Plc))(s:Sta)(k:Nat)(m:SM),ShOk w h s m->J8 w h s->(∀b∈bs,WE af w h b)->(∀b∈bs,RA h b)->(∀(j:Nat)(l:Str),(rO bs)[j]?=some l->ae.getD (k+j) 0=(Z4 (JY kv l).toNat:Int)/\1<=JY kv l/\(Z4 (JY kv l).toNat:Int)<=af)->∃new,(bs.foldl (Jh w h o ae) (acc,s,k)).1=acc++new/\new.length=bs.length/\Run w h m ((bs.zip new).flatMap (VT kv)) (bs.foldl (Jh w h o ae) (acc,s,k)).2.1
 |[],acc,s,k,m,i,hs,_,_,_=>⟨[],(Yx _).symm,rfl,Run.nil i hs⟩|x::bs,acc,s,k,m,i,hs,hf,hw,hR=>by
  have f1:=hf x Ja;have w1:=hw x Ja;have rf:rO (x::bs)=Qu (iO x)++rO bs:=Y1;have key:∃pls s',Jh w h o ae (acc,s,k) x=(acc++[pls],s',k+(Qu (iO x)).length)/\Run w h m (VT kv (x,pls)) s':=by cases x with
   |para is=>
    obtain⟨new,e1,_,e2⟩:=P5 af kv (ae.drop k) hb hh is [] 0 s m i hs f1 w1 (λj l hj=>by
     have ig:(rO (Bk.para is::bs))[j]?=some l:=by rw[rf];show(Qu is++rO bs)[j]?=some l;rw[YO (q_18.mp hj).1];exact hj
     have:=hR j l ig;rw[Qdo,show k+(0+j)=k+j by omega];exact this);refine⟨_,_,rfl,?_⟩;have e3:(VW w h s (ae.drop k) is).1=new:=e1;rw[e3];exact e2.end_|chapter t l=>refine⟨_,_,rfl,?_⟩;have iD:(t.length:Int)+2+af<=w:=f1;exact OS (i.chapter o hs fu (by omega)) (C7 o s fu (by omega)) hb [t] 0 (by simp) (by omega) (by simp;omega) (λy hy=>by rw[q_2.mp hy];omega)|heading t k' l=>
    refine⟨_,_,rfl,?_⟩;obtain⟨f2,f3⟩:=(show(t.length:Int)+2+af<=w/\k'+1<=h from f1);obtain⟨w2,w3⟩:=(show 0<=k'/\1+k'<=h from w1);exact OS i hs hb [t] k' (by simp) w2 (by simp;omega) (λy hy=>by rw[q_2.mp hy];omega)|table rs l=>
    refine⟨_,_,rfl,?_⟩;obtain⟨f2,f3⟩:=(show(rs.length:Int)<=h/\∀r∈rs,(r.length:Int)<=w from f1);obtain⟨w2,w3⟩:=(show 1<=rs.length/\(rs.length:Int)<=h from w1);exact OS i hs hb rs 0 w2 (by omega) (by omega) f3|plates n l=>
    refine⟨_,_,rfl,?_⟩;have w2:1<=n:=w1;exact Run.nil ((i.page hs).new (IW s fu (by omega)) (by show(Jc s).p<(Jc s).p+n;omega)) (OQ fu (by omega))
  obtain⟨pls,s',k1,k2⟩:=key;obtain⟨new,e1,e0,e2⟩:=FZ af kv ae o hb fu hh h0 bs (acc++[pls]) s' (k+(Qu (iO x)).length) _ k2.ok k2.st (λy hy=>hf y (JO _ hy)) (λy hy=>hw y (JO _ hy)) (λj l hj=>by have:=hR ((Qu (iO x)).length+j) l (by rw[rf,Vx (by omega),Nat.add_sub_cancel_left];exact hj);rw[Nat.add_assoc];exact this);rw[YA,k1];exact⟨pls::new,by rw[e1];simp,by rw[JV,JV,e0],k2.app e2⟩
def YU(t:Str)(p w:Int):Str:=t++Str.ofString " "++Y0 (Str.ofString ".") (w-t.length-2-(Jd p).length)++Str.ofString " "++Jd p
def NU(w:Int)(q:Plc)(t:Str×Int):Op:=.ln q [YU t.1 t.2 w]
def WN(w:Int)(c:List Plc)(T:List (Str×Int)):List Op:=(c.zip T).map λx=>NU w x.1 x.2
def Kn(n:Int):(Y0 (Str.ofString ".") n).length=n.toNat:=by rw[IL,show(Str.ofString ".").length=1 from by decide+kernel];omega
def Kb{t:Str}{p w:Int}(h:(t.length:Int)+2+(Jd p).length<=w):((YU t p w).length:Int)=w:=by unfold YU;rw[Yq,Yq,Yq,Yq,Kn,show(Str.ofString " ").length=1 from rfl];omega
theorem Kf(hb:w<=100/\h<=100)(hh:1<=h):∀(bs:List Bk)(T:List (Str×Int))(pls:List Plc)(s:Sta)(m:SM),ShOk w h s m->J8 w h s->T.length=(bs.filter Yo).length->(∀t∈T,(t.1.length:Int)+2+(Jd t.2).length<=w)->∃new,(bs.foldl (Zh h) (pls,s)).1=pls++new/\new.length=T.length/\Run w h m (WN w new T) (bs.foldl (Zh h) (pls,s)).2
 |[],T,pls,s,m,i,hs,hT,_=>by have:T=[]:=List.length_eq_zero_iff.mp hT;subst this;exact⟨[],(Yx _).symm,rfl,Run.nil i hs⟩|x::bs,T,pls,s,m,i,hs,hT,hw=>by
  by_cases z:Yo x=true
  ·rw[List.filter_cons_of_pos z,JV]at hT;cases T with
   |nil=>cases hT|cons t T=>
    have ht:=hw t Ja;have r1:=OS i hs hb [YU t.1 t.2 w] 0 (by simp) (by omega) (by simp;omega) (λy hy=>by rw[q_2.mp hy,Kb ht];omega);obtain⟨new,e1,e0,e2⟩:=Kf hb hh bs T (pls++[(Jm h s 1 0).1]) _ _ r1.ok r1.st (by simpa using hT) (λy hy=>hw y (JO _ hy));refine⟨(Jm h s 1 0).1::new,?_,by rw[JV,JV,e0],?_⟩;·rw[YA,Zh,if_pos z];refine e1.trans ?_;simp
    ·rw[YA,Zh,if_pos z];exact Run.cons r1 e2
  ·rw[List.filter_cons_of_neg (by simpa using z)]at hT;obtain⟨new,e⟩:=Kf hb hh bs T pls s m i hs hT hw;exact⟨new,by rw[YA,Zh,if_neg z];exact e⟩
end
theorem Hn:∀L:List Str,Xv (L.map .str)=some L|[]=>rfl|x::L=>by show(Xv (L.map .str)).map (x::·)=_;rw[Hn L];rfl
def OH(q:Plc)(B:List Str)(m:SM)(h:okOp m (.ln q B))(hm:m.length<1000):Xe [q.d,QR B] m=some (Zs m (.ln q B)):=by
 obtain⟨r,L,N,c,hr,hl,hn,hy,si⟩:=h;have en:=c.ens;have key:RN [none,some q.d,some (QR B)] m=some ([none,some q.d,some (QR B)],Zs m (.ln q B)):=by
  unfold RN OM;show Option.bind (Xv (B.map .str)) _=_;rw[Hn,ZU];refine if_pos ⟨by simp,hm,by have:=si.2.2;omega,λx hx=>?_⟩;have bj:Wd.ens m q.p=r++[(q.p,L,N)]:=en;rw[bj]at hx;rcases q_7.mp hx with z|z;·have:=(hr x z).1;omega
  ·rw[q_2.mp z];show L.length<=_;omega
 unfold Xe XE;rw[if_pos ⟨rfl,by decide,by decide⟩];show(RN [none,some q.d,some (QR B)] m).map (·.2)=_;rw[key];rfl
def FA(q:Plc)(x:Str)(M:List Str)(m:SM)(h:okOp m (.wd q x M))(hm:m.length<1000):Wx [q.d,.str x,QR M] m=some (Zs m (.wd q x M)):=by
 obtain⟨r,L,N,c,hr,hl,hn,hy,s1,s2,s3⟩:=h;have en:=c.ens;have key:RO [none,some q.d,QQ x,some (QR M),none,none] m=some ([none,some q.d,QQ x,some (QR M),none,none],Zs m (.wd q x M)):=by
  unfold RO OO;have e1:Q2 1 0 [none,some q.d,QQ x,some (QR M),none,none]=Q0 q.p:=rfl;have e2:QO (Q2 1 2) (Q4 0) [none,some q.d,QQ x,some (QR M),none,none]=QS (decide (q.c=0)):=Q1 (x:=.int q.c) (y:=.int 0) rfl rfl (by simp[D.eqO,J6,J9,D.cmp]);rw[e1,e2];show Option.bind (Xv (M.map .str)) _=_;rw[Hn,ZU];refine if_pos ⟨hm,by omega,by omega,λt ht=>?_⟩;have bj:Wd.ens m q.p=r++[(q.p,L,N)]:=en;rw[bj]at ht;rcases q_7.mp ht with z|z;·have h1:=hr t z;have h2:t.1<q.p:=c.2 t z;exact⟨by omega,by omega,λw=>by omega⟩
  ·rw[q_2.mp z];refine⟨by show L.length<=_;omega,by show N.length<=_;omega,λ_ w=>⟨?_,λy kB=>by have:=hy y kB;omega⟩⟩;rcases s3 with⟨s4,_⟩|⟨_,L',y,e,_⟩;·rw[Z6 s4]at w;cases w
   ·show L≠[];rw[e];simp
 unfold Wx XE;rw[if_pos ⟨rfl,by decide,by decide⟩];show(RO [none,some q.d,QQ x,some (QR M),none,none] m).map (·.2)=_;rw[key];rfl
theorem Good.split:∀{os qs:List Op}{m:SM},Good m (os++qs)->Good m os/\Good (os.foldl Zs m) qs|[],_,_,h=>⟨trivial,h⟩|_::_,_,_,h=>⟨⟨h.1,(Good.split h.2).1⟩,(Good.split h.2).2⟩
theorem NL{α:Type}{g:Jy}{b:ZH SM}(d:α->D)(op:α->List Op)(R:QG->Prop):∀(xs:List α)(e:QG)(m:SM),R e->(∀a∈xs,∀e m,R e->Good m (op a)->m.length+(op a).length<1000->∃e1,g (d a) e=some e1/\∃e2,b e1 m=some (e2,(op a).foldl Zs m)/\R e2)->Good m (xs.flatMap op)->m.length+(xs.flatMap op).length<1000->∃e',Wd.loopR g b (xs.map d) e m=some (e',(xs.flatMap op).foldl Zs m)/\R e'|[],e,m,hR,_,_,_=>⟨e,rfl,hR⟩|a::xs,e,m,hR,hb,hg,hm=>by rw[Y1]at hg hm⊢;rw[Qe]at hm;obtain⟨g1,g2⟩:=hg.split;obtain⟨e1,h1,e2,h2,h3⟩:=hb a Ja e m hR g1 (by omega);have ln:=g1.len;obtain⟨e',h4,h5⟩:=NL d op R xs e2 _ h3 (λx hx=>hb x (JO _ hx)) g2 (by omega);refine⟨e',?_,h5⟩;rw[ZT,Tt];show((g (d a) e).bind λe1=>(b e1 m).bind λr=>Wd.loopR g b (xs.map d) r.1 r.2)=_;rw[h1,ZU,h2];exact h4
def Hi{n:Int}(h0:0<=n)(h:n<10^60):D.strI (.int n)=QQ (Jd n):=by
 refine if_pos ?_;obtain⟨m,rfl⟩:∃m:Nat,n=m:=⟨n.toNat,by omega⟩;have h':m<10^60:=by
  have:((10^60:Nat):Int)=10^60:=by decide
  omega
 exact lt_trans h' (by decide+kernel)
def Hj{n:Int}(h0:0<=n)(h:n<10^60):(Jd n).length<=60:=by
 rw[Hk h0];refine EF _ ?_;have:((10^60:Nat):Int)=10^60:=by decide
 omega
def OI{x y:Str}(h:x.length+y.length<=1000000):D.add (.str x) (.str y)=QQ (x++y):=if_pos (lB h)
def OD(kv:List (Str×Int))(l:Str):Prop:=D.dget (Qm kv) (.str l)=Q0 (JY kv l)/\1<=JY kv l/\JY kv l<10^60
def QeF{is:List It}{l a b:Str}(h:It.ref l a b∈is):l∈Qu is:=q_19.mpr ⟨_,q_47.mpr ⟨h,rfl⟩,rfl⟩
def Qas(is:List It)(pls:List Plc)(kv:List (Str×Int))(m:SM)(hl:is.length<=100000)(ht:∀i∈is,XT i)(hk:∀l∈Qu is,OD kv l)(hg:Good m (Se kv is pls))(hm:m.length+(Se kv is pls).length<1000):Rk [.lst (is.map It.d),QP pls,Qm kv] m=some ((Se kv is pls).foldl Zs m):=by
 have eo:Se kv is pls=((is.filter Qx).zip pls).flatMap λx=>[UQ kv x.1 x.2]:=List.map_eq_flatMap;rw[eo]at hg hm⊢;have hc:JL 1 [] (J1 (eV 1)) (gS 0) (eK Wf (QU (eV 0))) (eV 0) [none,QA (is.map It.d),some (QP pls),some (Qm kv),none,none,none]=QA ((is.filter Qx).map It.d):=HY is rfl (by omega);obtain⟨e',h1,h2⟩:=NL (g:=JQ [gS 5,gS 6]) (b:=Wn (QO (Q2 5 0) (QC "ref")) (W3 Wx (JI (eV 6) (QJ (QJ (Q2 5 2) (QB D.strI (Q5 D.dget (eV 3) (Q2 5 1)))) (Q2 5 3)) (QF (lN)))) (W3 Wx (JI (eV 6) (Q2 5 1) (Q2 5 2)))) (λx:It×Plc=>D.tup [x.1.d,x.2.d]) (λx=>[UQ kv x.1 x.2]) (λe=>∃u v,e=[none,QA (is.map It.d),some (QP pls),some (Qm kv),QA ((is.filter Qx).map It.d),u,v]) ((is.filter Qx).zip pls) [none,QA (is.map It.d),some (QP pls),some (Qm kv),QA ((is.filter Qx).map It.d),none,none] m ⟨none,none,rfl⟩ (by
  rintro⟨i,q⟩hx e m⟨u,v,rfl⟩hg hm;have hi:=q_47.mp (Xn hx).1;refine⟨[none,QA (is.map It.d),some (QP pls),some (Qm kv),QA ((is.filter Qx).map It.d),some i.d,some q.d],rfl,[none,QA (is.map It.d),some (QP pls),some (Qm kv),QA ((is.filter Qx).map It.d),some i.d,some q.d],?_,_,_,rfl⟩;have tg:QO (Q2 5 0) (QC "ref") [none,QA (is.map It.d),some (QP pls),some (Qm kv),QA ((is.filter Qx).map It.d),some i.d,some q.d]=QS (ZR i):=by
   rw[<-MZ];exact Q1 (Q1 (x:=i.d) rfl rfl (SV i)) rfl (Qb _ _)
  have tt:=ht i hi.1;have cR:m.length<1000:=by omega
  unfold Wn;rw[tg];cases i with
  |word x ns=>
   have wa:=FA q x ns m hg.1 cR;show(if _ then(Option.bind _ λds=>(Wx ds m).map λm'=>(_,m'))else none)=_;rw[if_pos (by simp)];show((Wx [q.d,.str x,QR ns] m).map λm'=>(_,m'))=_;rw[wa];rfl|ref l a b=>obtain⟨k1,k2,k3⟩:=hk l (QeF hi.1);have wa:=FA q (a++Jd (JY kv l)++b) [] m hg.1 cR;have t1:a.length<=1000/\b.length<=1000:=tt;have sl:=Hj (n:=JY kv l) (by omega) k3;have ex:QJ (QJ (Q2 5 2) (QB D.strI (Q5 D.dget (eV 3) (Q2 5 1)))) (Q2 5 3) [none,QA (is.map It.d),some (QP pls),some (Qm kv),QA ((is.filter Qx).map It.d),some (It.ref l a b).d,some q.d]=QQ (a++Jd (JY kv l)++b):=Q1 (Q1 (x:=.str a) rfl (JK (Q1 (x:=Qm kv) (y:=.str l) rfl rfl k1) (Hi (by omega) k3)) (OI (by omega))) (y:=.str b) rfl (OI (by rw[Yq];omega));show(if _ then(Option.bind _ λds=>(Wx ds m).map λm'=>(_,m'))else none)=_;rw[if_pos (by simp)];have ll:(JI (eV 6) (QJ (QJ (Q2 5 2) (QB D.strI (Q5 D.dget (eV 3) (Q2 5 1)))) (Q2 5 3)) (QF (lN))) [none,QA (is.map It.d),some (QP pls),some (Qm kv),QA ((is.filter Qx).map It.d),some (It.ref l a b).d,some q.d]=some [q.d,.str (a++Jd (JY kv l)++b),QR []]:=lc rfl (lc ex rfl);rw[ll,ZU,wa];rfl|mark l=>cases hi.2|key l=>cases hi.2) hg hm;have z:Wi (eV 4) (eV 2) [none,QA (is.map It.d),some (QP pls),some (Qm kv),QA ((is.filter Qx).map It.d),none,none]=some (((is.filter Qx).zip pls).map λx=>D.tup [x.1.d,x.2.d]):=by show some (VY ((is.filter Qx).map It.d) (pls.map Plc.d))=_;rw[R9]
 have key:RL [none,QA (is.map It.d),some (QP pls),some (Qm kv),none,none,none] m=some (e',(((is.filter Qx).zip pls).flatMap λx=>[UQ kv x.1 x.2]).foldl Zs m):=by
  unfold RL U1 ON;rw[J0 (e1:=[none,QA (is.map It.d),some (QP pls),some (Qm kv),QA ((is.filter Qx).map It.d),none,none]) hc rfl];show(Option.bind (if _ then some (_,m)else none) λr=>_)=_;rw[if_pos (by simp),ZU];unfold Sx;dsimp only;rw[z,ZU];exact h1
 unfold Rk XE;rw[if_pos ⟨rfl,by decide,by decide⟩];show(RL [none,QA (is.map It.d),some (QP pls),some (Qm kv),none,none,none] m).map (·.2)=_;rw[key];rfl
def S8{f:List D->SM->Option SM}{l:ZC}{e:QG}{m m':SM}{ds:List D}(hl:l e=some ds)(hf:f ds m=some m')(he:e.length<=1000):W3 f l e m=some (e,m'):=by unfold W3;rw[if_pos he,hl,ZU,hf];rfl
def NB{cv:Q7}{a b:ZH SM}{e:QG}{m:SM}{r:Option (QG×SM)}(h:cv e=QS true)(ha:a e m=r):Wn cv a b e m=r:=by unfold Wn;rw[h];exact ha
def Up{cv:Q7}{a b:ZH SM}{e:QG}{m:SM}{r:Option (QG×SM)}(h:cv e=QS false)(ha:b e m=r):Wn cv a b e m=r:=by unfold Wn;rw[h];exact ha
def NS{pls:List Plc}(h:pls.length=1):∃q,pls=[q]:=List.length_eq_one_iff.mp h
def C4(x y:Str):D.neO (.str x) (.str y)=QS (!decide (x=y)):=by simp[D.neO,JF,JC,D.cmpN]
def Qar(b:Bk)(pls:List Plc)(kv:List (Str×Int))(m:SM)(hq:pls.length=W8 b)(hl:(iO b).length<=100000)(ht:∀i∈iO b,XT i)(hk:∀l∈Qu (iO b),OD kv l)(hg:Good m (VT kv (b,pls)))(hm:m.length+(VT kv (b,pls)).length<1000):SI [b.d,QP pls,Qm kv] m=some ((VT kv (b,pls)).foldl Zs m):=by
 have cR:m.length<1000:=by omega
 have tg:∀(x:Str),QO (Q2 1 0) (eC (.str x)) [none,some b.d,some (QP pls),some (Qm kv)]=QS (decide (Ua b=x)):=λx=>Q1 (Q1 (x:=b.d) rfl rfl (NJ b)) rfl (Qb _ _);have tn:Yd (Q2 1 0) (QC "plates") [none,some b.d,some (QP pls),some (Qm kv)]=QS (!decide (Ua b=Str.ofString "plates")):=Q1 (Q1 (x:=b.d) rfl rfl (NJ b)) rfl (C4 _ _);have key:RK [none,some b.d,some (QP pls),some (Qm kv)] m=some ([none,some b.d,some (QP pls),some (Qm kv)],(VT kv (b,pls)).foldl Zs m):=by unfold RK;cases b with
  |para is=>
   refine NB (tg _) (S8 (ds:=[.lst (is.map It.d),QP pls,Qm kv]) rfl ?_ (by simp));exact Qas is pls kv m hl ht hk hg hm|table rs l=>obtain⟨q,rfl⟩:=NS hq;refine Up (tg _) (NB (tg _) (S8 (ds:=[q.d,QR rs]) rfl ?_ (by simp)));exact OH q rs m hg.1 cR|plates n l=>exact Up (tg _) (Up (tg _) (Up tn rfl))|chapter t l=>obtain⟨q,rfl⟩:=NS hq;refine Up (tg _) (Up (tg _) (NB tn (S8 (ds:=[q.d,QR [t]]) rfl ?_ (by simp))));exact OH q [t] m hg.1 cR|heading t k l=>obtain⟨q,rfl⟩:=NS hq;refine Up (tg _) (Up (tg _) (NB tn (S8 (ds:=[q.d,QR [t]]) rfl ?_ (by simp))));exact OH q [t] m hg.1 cR
 unfold SI XE;rw[if_pos ⟨rfl,by decide,by decide⟩];show(RK [none,some b.d,some (QP pls),some (Qm kv)] m).map (·.2)=_;rw[key];rfl
def QaK{t:Str}{p w:Int}(ht:t.length<=1000)(h0:0<=p)(hp:p<10^60)(hw:0<=w/\w<=1000):Rn [.str t,.int p,.int w]=QQ (YU t p w):=by
 have sl:=Hj h0 hp;have l1:=Yp (x:=t) (by omega);have l2:=Yp (x:=Jd p) (by omega);have dl:=Kn (w-t.length-2-(Jd p).length);unfold Rn Lj;refine JS rfl ?_;refine st (J0 (JK (x:=.int p) rfl (Hi h0 hp)) rfl) ?_;refine st (J0 (Q1 (x:=.str (Str.ofString ".")) rfl (Q1 (Q1 (Q1 (x:=.int w) rfl (JK (x:=.str t) rfl l1) rfl) rfl rfl) (JK (x:=.str (Jd p)) rfl l2) rfl) (NN ⟨by omega,by omega,lB ?_⟩)) rfl) ?_;·rw[show(Str.ofString ".").length=1 from by decide+kernel];omega
 ·refine ret ?_;show D.fs3 (.str t) (.str (Y0 (Str.ofString ".") (w-t.length-2-(Jd p).length))) (.str (Jd p))=_;refine if_pos ⟨by omega,by rw[dl];omega,by omega⟩
noncomputable def WL(h:Int)(x:Int×List Str×List Str):List Str:=x.2.1++List.replicate (h-x.2.1.length-x.2.2.length).toNat (Str.ofString "")++x.2.2
def Qdb(x:Int×List Str×List Str)(h:Int)(hh:0<=h/\h<=1000)(hx:(x.2.1.length:Int)+x.2.2.length<=h):Ou [Vz x,.int h]=some (QR (WL h x)):=by
 have lL:∀L:List Str,D.len (QR L)=Q0 L.length:=λL=>by show some (D.int ((L.map D.str).length:Int))=_;rw[Qo]
 have mu:D.mulA (.lst [.str (Str.ofString "")]) (.int (h-x.2.1.length-x.2.2.length))=some (QR (List.replicate (h-x.2.1.length-x.2.2.length).toNat (Str.ofString ""))):=by
  rw[Dw ⟨by omega,by omega,lB (by simp;omega)⟩];unfold QR;rw[List.map_replicate];simp
 unfold Ou Lo;refine JS rfl ?_;refine st (J0 (Q1 (Q1 (x:=.int h) rfl (JK (Q1 (x:=Vz x) (y:=.int 0) rfl rfl (show D.ix (Vz x) (.int 0)=some (QR x.2.1)from rfl)) (lL _)) rfl) (JK (Q1 (x:=Vz x) (y:=.int 1) rfl rfl (show D.ix (Vz x) (.int 1)=some (QR x.2.2)from rfl)) (lL _)) rfl) rfl) ?_;refine ret (Q1 (Q1 (Q1 (x:=Vz x) (y:=.int 0) rfl rfl (show D.ix (Vz x) (.int 0)=some (QR x.2.1)from rfl)) (Q1 (x:=.lst [.str (Str.ofString "")]) rfl rfl mu) (U0 (f:=D.str) (lB (by simp;omega)))) (Q1 (x:=Vz x) (y:=.int 1) rfl rfl (show D.ix (Vz x) (.int 1)=some (QR x.2.2)from rfl)) (U0 (f:=D.str) (lB (by simp;omega))))
theorem EC:∀(m:SM),m.Pairwise (λa b=>a.1<b.1)->∀x∈m,D.dget (T5 m) (.int x.1)=some (Vz x)
 |[],_,_,h=>nomatch h|y::m,hp,x,hx=>by
  obtain⟨h1,h2⟩:=List.pairwise_cons.mp hp;show(if(Sum.inl y.1:Kd)=.inl x.1 then some (Vz y)else XD (m.map λx=>.inl x.1) (m.map Vz) (.inl x.1))=_;rcases q_5.mp hx with z|z;·subst z;rw[if_pos rfl]
  ·have:=h1 x z;rw[if_neg (λw=>by have:=Sum.inl.inj w;omega)];exact EC m h2 x z
def ME(h:Int)(x:Int×List Str×List Str):D:=.tup [.int x.1,QR (WL h x)]
def QgD(w h:Int)(o li:Bool)(bs:List Bk)(c:List Plc)(rows:List (List Plc))(kv T:List (Str×Int))(hw:0<=w/\w<=100)(hh:0<=h/\h<=100)(sl:P0 [Q9 bs,QL w h o li]=some (Qs (c::rows)))(lp:UH [Q9 bs,Qs (c::rows)]=some (Qm kv))(tp:SS [Q9 bs,Qs (c::rows)]=some (Je T))(hf:V9 bs)(hq:∀q∈bs.zip rows,q.2.length=W8 q.1)(ht:∀b∈bs,Tz b)(hk:∀l∈rO bs,OD kv l)(hT:∀t∈T,t.1.length<=1000/\0<=t.2/\t.2<10^60)(hg:Good [] (WN w c T++(bs.zip rows).flatMap (VT kv)))(hm:(WN w c T).length+((bs.zip rows).flatMap (VT kv)).length<1000)(M:SM)(eM:M=(WN w c T++(bs.zip rows).flatMap (VT kv)).foldl Zs [])(up:M.Pairwise λa b=>a.1<b.1)(hi:∀x∈M,(x.2.1.length:Int)+x.2.2.length<=h):Rw [Q9 bs,QL w h o li]=QA (M.map (ME h)):=by
 obtain⟨g1,g2⟩:=hg.split;have eo:WN w c T=(c.zip T).flatMap λx=>[NU w x.1 x.2]:=List.map_eq_flatMap;have Ml:M.length<1000:=by rw[eM];have:=hg.len;rw[Qe,WT]at this;omega
 have jM:=g1.len;rw[Tt]at eM;rw[eo]at g1 hm g2 eM jM;obtain⟨e1,h1,u1,v1,lE⟩:=NL (g:=JQ [gS 5,gS 6]) (b:=W3 Xe (lC (eV 5) (lC (QF (QU (eK Rn (JI (Q2 6 0) (Q2 6 1) (Q2 1 0))))) lN))) (λx:Plc×(Str×Int)=>D.tup [x.1.d,Xw x.2.1 x.2.2]) (λx=>[NU w x.1 x.2]) (λe=>∃u v,e=[some (Q9 bs),some (QL w h o li),some (Qs (c::rows)),some (Qm kv),none,u,v,none,none]) (c.zip T) [some (Q9 bs),some (QL w h o li),some (Qs (c::rows)),some (Qm kv),none,none,none,none,none] [] ⟨none,none,rfl⟩ (by rintro⟨q,t⟩hx e m⟨u,v,rfl⟩hg hm;have cC:t∈T:=(Xn hx).2;obtain⟨t1,t2,t3⟩:=hT t cC;refine⟨[some (Q9 bs),some (QL w h o li),some (Qs (c::rows)),some (Qm kv),none,some q.d,some (Xw t.1 t.2),none,none],rfl,_,S8 (ds:=[q.d,QR [YU t.1 t.2 w]]) (lc rfl (lc (QeB (YE (x:=.str t.1) (y:=.int t.2) (z:=.int w) rfl rfl rfl (QaK t1 t2 t3 ⟨hw.1,by omega⟩))) rfl)) (OH q [YU t.1 t.2 w] m hg.1 (by omega)) (by simp),_,_,rfl⟩) g1 (by simp only[WT,zero_add];omega);subst lE;obtain⟨e2,h2,u2,v2,cI⟩:=NL (g:=JQ [gS 7,gS 8]) (b:=W3 SI (JI (eV 7) (eV 8) (eV 3))) (λq:Bk×List Plc=>D.tup [q.1.d,QP q.2]) (VT kv) (λe=>∃u v,e=[some (Q9 bs),some (QL w h o li),some (Qs (c::rows)),some (Qm kv),none,u1,v1,u,v]) (bs.zip rows) [some (Q9 bs),some (QL w h o li),some (Qs (c::rows)),some (Qm kv),none,u1,v1,none,none] _ ⟨none,none,rfl⟩ (by rintro⟨b,pls⟩hx e m⟨u,v,rfl⟩hg hm;have hb:=(Xn hx).1;refine⟨[some (Q9 bs),some (QL w h o li),some (Qs (c::rows)),some (Qm kv),none,u1,v1,some b.d,some (QP pls)],rfl,_,S8 (ds:=[b.d,QP pls,Qm kv]) rfl (Qar b pls kv m (hq _ hx) (UN hf b hb) (ht b hb) (λl hl=>hk l (List.mem_flatMap.mpr ⟨b,hb,hl⟩)) hg hm) (by simp),_,_,rfl⟩) g2 (by simp only[WT,zero_add]at jM;omega);subst cI;rw[<-eM]at h2;unfold Rw KA;refine JS rfl ?_;refine st (e1:=[some (Q9 bs),some (QL w h o li),some (Qs (c::rows)),none,none,none,none,none,none]) (J0 (Zv rfl rfl sl) rfl) ?_;refine st (e1:=[some (Q9 bs),some (QL w h o li),some (Qs (c::rows)),some (Qm kv),none,none,none,none,none]) (J0 (Zv rfl rfl lp) rfl) ?_;refine st (e1:=[some (Q9 bs),some (QL w h o li),some (Qs (c::rows)),some (Qm kv),some (.dic [] []),none,none,none,none]) rfl ?_;refine st (e1:=[some (Q9 bs),some (QL w h o li),some (Qs (c::rows)),some (Qm kv),some (T5 M),u1,v1,u2,v2]) ?_ ?_
 ·unfold Sy;show(if _ then Option.bind (U1 _ _ [some (Q9 bs),some (QL w h o li),some (Qs (c::rows)),some (Qm kv),none,none,none,none,none] []) _ else none)=_;rw[if_pos (by simp)];have z1:Wi (Q2 2 0) (eK SS (Qc (eV 0) (eV 2))) [some (Q9 bs),some (QL w h o li),some (Qs (c::rows)),some (Qm kv),none,none,none,none,none]=some ((c.zip T).map λx=>D.tup [x.1.d,Xw x.2.1 x.2.2]):=by
   have hx:Q2 2 0 [some (Q9 bs),some (QL w h o li),some (Qs (c::rows)),some (Qm kv),none,none,none,none,none]=some (QP c):=Q1 (x:=Qs (c::rows)) (y:=.int 0) rfl rfl (AQ (c::rows) 0 (by simp));unfold Wi;rw[hx,Zv (x:=Q9 bs) (y:=Qs (c::rows)) rfl rfl tp];show some (VY (c.map Plc.d) (T.map λx=>Xw x.1 x.2))=_;rw[R9]
  have z2:Wi (eV 0) (JM (eV 2) (JJ (Q4 1)) JX) [some (Q9 bs),some (QL w h o li),some (Qs (c::rows)),some (Qm kv),none,u1,v1,none,none]=some ((bs.zip rows).map λq=>D.tup [q.1.d,QP q.2]):=by
   have hc:JM (eV 2) (JJ (Q4 1)) JX [some (Q9 bs),some (QL w h o li),some (Qs (c::rows)),some (Qm kv),none,u1,v1,none,none]=some (Qs rows):=Kh c rows;unfold Wi;rw[hc];show some (VY (bs.map Bk.d) (rows.map QP))=_;rw[R9]
  unfold U1 Sx;rw[z1,ZU,h1,ZU];dsimp only;rw[z2,ZU,h2];rfl
 ·refine ret (Eq.trans (Va (λx:Int×List Str×List Str=>D.int x.1) M (λe=>∃a,e=[a,some (T5 M),some (QL w h o li)]) (λ_=>true) (ME h) ?_ (lB (by omega)) ⟨none,rfl⟩ ?_) (by rw[XH]))
  ·show some ((M.map λx=>(Sum.inl x.1:Kd)).map kD)=_;rw[map_map];rfl
  ·rintro x hx e⟨a,rfl⟩;exact⟨[Q0 x.1,some (T5 M),some (QL w h o li)],rfl,⟨_,rfl⟩,rfl,λ_=>AW rfl (Zv (Q1 (x:=T5 M) (y:=.int x.1) rfl rfl (EC M up x hx)) (Q1 (x:=QL w h o li) (y:=.int 1) rfl rfl rfl) (Qdb x h ⟨hh.1,by omega⟩ (hi x hx)))⟩
theorem AU:∀(bs:List Bk)(rows:List (List Plc)),rows.length=bs.length->((bs.zip rows).flatMap Zl).length=(bs.filter Yo).length|[],_,_=>rfl|b::bs,[],h=>by cases h|b::bs,r::rows,h=>by have ih:=AU bs rows (by simpa using h);rw[Uy,Y1,Qe,ih];cases b<;>simp[Zl,filter_cons,Yo]<;>omega
def QeG{q:Bk×List Plc}{t:Str×Int}(h:t∈Zl q):((∃l,q.1=.chapter t.1 l)\/∃k l,q.1=.heading t.1 k l)/\t.2=(q.2.getD 0 ⟨0,0,0⟩).p:=by obtain⟨b,r⟩:=q;cases b with|chapter a l=>rw[show Zl (Bk.chapter a l,r)=[(a,(r.getD 0 ⟨0,0,0⟩).p)]from rfl,q_2]at h;subst h;exact⟨.inl ⟨l,rfl⟩,rfl⟩|heading a k l=>rw[show Zl (Bk.heading a k l,r)=[(a,(r.getD 0 ⟨0,0,0⟩).p)]from rfl,q_2]at h;subst h;exact⟨.inr ⟨k,l,rfl⟩,rfl⟩|_=>cases h
def Qa6{w h:Int}(o li:Bool)(bs:List Bk)(T:List (Str×Int))(hb:w<=100/\h<=100)(hw:0<=w)(hh:1<=h)(hT:T.length=(bs.filter Yo).length)(ht:∀t∈T,(t.1.length:Int)+2+(Jd t.2).length<=w):Run w h [] (WN w (ZW h o li bs).1 T) (ZW h o li bs).2/\(ZW h o li bs).1.length=if li then T.length else 0:=by
 have i0:ShOk w h (Ju 1) []:=⟨[],[],[],⟨⟨.inl ⟨rfl,rfl,rfl⟩,λ_ z=>nomatch z⟩,rfl,rfl,λz=>absurd rfl z,.nil,(λ_ z=>nomatch z),(λ_ z=>nomatch z),(λ_ z=>nomatch z)⟩⟩;have s0:J8 w h (Ju 1):=OQ hw (by omega);unfold ZW;cases li with
 |false=>exact⟨Run.nil i0 s0,rfl⟩|true=>
  obtain⟨new,e1,e2,e3⟩:=Kf hb hh bs T [] (Ju 1) [] i0 s0 hT ht;have gL:(VA h bs).1=new:=e1;have d6:Run w h [] (WN w new T) (VA h bs).2:=e3;rw[if_pos rfl];show Run w h [] (WN w (VA h bs).1 T) (if(VA h bs).1.length>0 then ZA o (VA h bs).2 else(VA h bs).2)/\(VA h bs).1.length=T.length;rw[gL];refine⟨?_,e2⟩;split;·exact⟨d6.good,d6.ok.chapter o d6.st hw (by omega),C7 o _ hw (by omega)⟩
  ·exact d6
structure Book(ns lo:List Int)(c:List Plc)(rows:List (List Plc))(T:List (Str×Int))(M:SM):Prop where
 set_:T4 ns lo=c::rows
 len:rows.length=(QK ns).length
 pls:∀q∈(QK ns).zip rows,q.2.length=W8 q.1/\∀x∈q.2,1<=x.p/\x.p<=Z8 ns
 eT:T=((QK ns).zip rows).flatMap Zl
 tit:∀t∈T,(t.1.length:Int)+2+(Jd t.2).length<=dW ns/\1<=t.2/\t.2<=Z8 ns
 cl:c.length=if JE ns then T.length else 0
 good:Good [] (WN (dW ns) c T++((QK ns).zip rows).flatMap (VT (YH ns lo)))eM:M=(WN (dW ns) c T++((QK ns).zip rows).flatMap (VT (YH ns lo))).foldl Zs []up:M.Pairwise λa b=>a.1<b.1
 hi:∀x∈M,(x.2.1.length:Int)+x.2.2.length<=dH ns
 wid:∀x∈M,∀y∈x.2.1,(y.length:Int)<=dW ns
def DN(ns lo:List Int)(b4:Box ns lo):∀l∈rO (QK ns),OD (YH ns lo) l/\(Z4 (JY (YH ns lo) l).toNat:Int)<=dR ns:=λl hl=>by obtain⟨_,_,k1,k2⟩:=R0 ns lo b4.1;obtain⟨a1,a2,a3,a4,a5⟩:=Kv ns (YH ns lo) k1 k2 l hl;exact⟨⟨a1,a2,a3⟩,a5⟩
def QaJ(ns lo:List Int)(b4:Box ns lo)(fx:Zc ns lo=lo):∃c rows T M,Book ns lo c rows T M:=by
 have hh:=XC ns;have hw:=Ug ns;have hr:=TL ns;obtain⟨c,rows,e1,e2,e3⟩:=HX (dW ns) (dH ns) (dO ns) (JE ns) lo (QK ns) (by omega) (λb hb=>(U6 ns b hb).2.2);rw[OV]at e3;have tit:∀t∈((QK ns).zip rows).flatMap Zl,(t.1.length:Int)+2+(Jd t.2).length<=dW ns/\1<=t.2/\t.2<=Z8 ns:=λt ht=>by
  obtain⟨q,hq,kP⟩:=List.mem_flatMap.mp ht;obtain⟨m1,m2⟩:=QeG kP;obtain⟨p1,p2⟩:=e3 q hq;have f1:=RR ns q.1 (Xn hq).1;have n1:W8 q.1=1:=by rcases m1 with⟨l,z⟩|⟨k,l,z⟩<;>rw[z]<;>rfl
  obtain⟨y,hy⟩:=NS (p1.trans n1);have py:=p2 y (by rw[hy];exact q_2.mpr rfl);rw[hy]at m2;have m2':t.2=y.p:=m2;have dl:(Z4 t.2.toNat:Int)<=dR ns:=by unfold dR;exact Int.ofNat_le.mpr (EG (by omega))
  refine⟨?_,by omega,by omega⟩;rw[Hk (by omega)];rcases m1 with⟨l,z⟩|⟨k,l,z⟩;·rw[z]at f1;have:(t.1.length:Int)+2+dR ns<=dW ns:=f1;omega
  ·rw[z]at f1;have:(t.1.length:Int)+2+dR ns<=dW ns:=f1.1;omega
 obtain⟨cr,cl⟩:=Qa6 (w:=dW ns) (h:=dH ns) (dO ns) (JE ns) (QK ns) (((QK ns).zip rows).flatMap Zl) ⟨by omega,by omega⟩ (by omega) (by omega) (AU _ _ e2) (λt ht=>(tit t ht).1);obtain⟨new,f1,f2,f3⟩:=FZ (w:=dW ns) (h:=dH ns) (dR ns) (YH ns lo) lo (dO ns) ⟨by omega,by omega⟩ (by omega) (by omega) (by omega) (QK ns) [(ZW (dH ns) (dO ns) (JE ns) (QK ns)).1] _ 0 _ cr.ok cr.st (RR ns) (Fy ns) (λj l hj=>by
  have hl:l∈rO (QK ns):=VL hj;obtain⟨⟨k1,k2,k3⟩,k4⟩:=DN ns lo b4 l hl;refine⟨?_,k2,k4⟩;have:lo.getD (0+j) 0=(Zc ns lo).getD j 0:=by rw[fx,zero_add]
  rw[this];unfold Zc;rw[Yb,Yz,hj];rfl);have iD:c::rows=(ZW (dH ns) (dO ns) (JE ns) (QK ns)).1::new:=e1.symm.trans f1;obtain⟨rfl,rfl⟩:=List.cons.inj iD;have run:=cr.app f3;obtain⟨r,L,N,ik⟩:=run.ok;have al:=ik.all run.st;exact⟨_,_,_,_,e1,e2,e3,rfl,tit,cl,run.good,rfl,al.1,al.2.1,al.2.2⟩
def QgB(kv:List (Str×Int))(q:Bk×List Plc):(VT kv q).length<=1+(iO q.1).length:=by obtain⟨b,r⟩:=q;cases b with|para is=>show(((is.filter Qx).zip r).map _).length<=1+is.length;rw[Qo,Xp];have:=Sr Qx is;omega|_=>simp[VT]
theorem CM(kv:List (Str×Int)):∀(bs:List Bk)(rows:List (List Plc)),((bs.zip rows).flatMap (VT kv)).length<=bs.length+(bs.flatMap iO).length|[],_=>zero_le _|_::_,[]=>zero_le _|b::bs,r::rows=>by have ih:=CM kv bs rows;have h1:=QgB kv (b,r);have fG:(VT kv (b,r)).length<=1+(iO b).length:=h1;rw[Uy,Y1,Y1,Qe,Qe,JV];omega
def Ei(ns:List Int):(QK ns).length<=119/\((QK ns).flatMap iO).length<=119:=by have h1:=TU ns (dW ns) (dH ns) (JE ns);have h2:=SA ns;unfold QK;rw[Yc,Qe,Qe];omega
section
variable{ns lo:List Int}{c:List Plc}{rows:List (List Plc)}{T:List (Str×Int)}{M:SM}
def Book.ops(k:Book ns lo c rows T M):(WN (dW ns) c T).length+(((QK ns).zip rows).flatMap (VT (YH ns lo))).length<=400:=by
 have h1:=CM (YH ns lo) (QK ns) rows;have h2:=Ei ns;have h3:(WN (dW ns) c T).length<=T.length:=by unfold WN;rw[Qo,Xp];omega
 have h4:T.length<=(QK ns).length:=by rw[k.eT];have:=Mc ((QK ns).zip rows);rw[Xp]at this;omega
 omega
def Dr(ns:List Int):Z8 ns<10^60:=by
 have h1:=(RV ns).2;have h2:(10:Int)^42<10^60:=by decide
 omega
def Book.rows_at(k:Book ns lo c rows T M)(b4:Box ns lo)(la:SO [Q9 (QK ns),S0 ns]=QA (lo.map .int)):Rw [Q9 (QK ns),S0 ns]=QA (M.map (ME (dH ns))):=by
 have hh:=XC ns;have hw:=Ug ns;have sb:=R0 ns lo b4.1;rw[k.set_]at sb;have fw:=Xa ns;have sl:P0 [Q9 (QK ns),S0 ns]=some (Qs (c::rows)):=by
  unfold P0 KS;exact JS rfl (ret (YE rfl rfl (Zv rfl rfl la) sb.1))
 have tp:=QiQ (QK ns) c rows fw k.len (λq hq=>(k.pls q hq).1);rw[<-k.eT]at tp;have ko:=k.ops;have ki:=Dr ns;exact QgD (dW ns) (dH ns) (dO ns) (JE ns) (QK ns) c rows (YH ns lo) T ⟨by omega,by omega⟩ ⟨by omega,by omega⟩ sl sb.2.1 tp fw (λq hq=>(k.pls q hq).1) (λb hb=>(U6 ns b hb).2.1) (λl hl=>(DN ns lo b4 l hl).1) (λt ht=>by obtain⟨t1,t2,t3⟩:=k.tit t ht;exact⟨by omega,by omega,by omega⟩) k.good (by omega) M k.eM k.up k.hi
end
def QcE{i:Nat}{key val:Q7}{e:QG}{x y v z:D}(hv:val e=some v)(hx:eV i e=some x)(hy:key e=some y)(h:D.put x y v=some z):Xs i key val e=some (.nx (e.set i (some z))):=by unfold Xs;rw[hv,ZU,hx,ZU,hy,ZU,h];rfl
def QdT(L:List Str)(j:Nat)(h:j<L.length):D.ix (QR L) (.int (0+(j:Int)))=some (.str L[j]):=by have:=Wz (f:=D.str) L (0+(j:Int)) (Str.ofString "") (by omega) (by omega);unfold QR;rw[this,show(0+(j:Int)).toNat=j by omega,Yb,Qf h];rfl
def QdS(L:List Plc)(j:Nat)(h:j<L.length):D.ix (QP L) (.int (0+(j:Int)))=some L[j].d:=by rw[DJ L j h,Yb,Qf h];rfl
def QdV(T:List (Str×Int))(j:Nat)(h:j<T.length):D.ix (Je T) (.int (0+(j:Int)))=some (Xw T[j].1 T[j].2):=by have:=Wz (f:=λx:Str×Int=>Xw x.1 x.2) T (0+(j:Int)) (Str.ofString "",0) (by omega) (by omega);unfold Je;rw[this,show(0+(j:Int)).toNat=j by omega,Yb,Qf h];rfl
def neI(i j:Int):D.neO (.int i) (.int j)=QS (!decide (i=j)):=by simp[D.neO,J6,J9,D.cmpN]
def IP(i:Int):D.neO (.int i) (.int i)=QS false:=by rw[neI,Z6 rfl];rfl
def IQ(x:Str):D.neO (.str x) (.str x)=QS false:=by rw[C4,Z6 rfl];rfl
def VI(h:Int)(M:SM):D:=.dic (M.map λx=>.inl x.1) (M.map λx=>QR (WL h x))
def D4(k:Int)(M:SM):hasK (.inl k) (M.map λx=>(Sum.inl x.1:Kd))=true↔∃x∈M,x.1=k:=by
 unfold hasK;rw[List.any_map,List.any_eq_true];constructor;·rintro⟨x,hx,e⟩;exact⟨x,hx,by simpa using e⟩
 ·rintro⟨x,hx,e⟩;exact⟨x,hx,by simpa using e⟩
def Qhv{h:Int}{r:SM}(x:Int×List Str×List Str)(hn:∀y∈r,y.1<x.1)(hl:r.length<=1000):D.put (VI h r) (.int x.1) (QR (WL h x))=some (VI h (r++[x])):=by show(if(r.map λx=>(Sum.inl x.1:Kd)).length<lI then some (Xb _ _ (.inl x.1) (QR (WL h x)))else none)=_;rw[if_pos (by rw[Qo];exact WM (by omega))];unfold Xb;rw[if_neg (λz=>by obtain⟨y,hy,e⟩:=(D4 _ _).mp z;have:=hn y hy;omega)];unfold VI;rw[YQ,YQ];rfl
theorem D0{h:Int}:∀{M:SM},M.Pairwise (λa b=>a.1<b.1)->∀x∈M,D.dget (VI h M) (.int x.1)=some (QR (WL h x))
 |[],_,_,hx=>nomatch hx|y::M,hp,x,hx=>by
  obtain⟨h1,h2⟩:=List.pairwise_cons.mp hp;show(if(Sum.inl y.1:Kd)=.inl x.1 then some (QR (WL h y))else XD (M.map λx=>.inl x.1) (M.map λx=>QR (WL h x)) (.inl x.1))=_;rcases q_5.mp hx with z|z;·subst z;rw[if_pos rfl]
  ·have:=h1 x z;rw[if_neg (λw=>by have:=Sum.inl.inj w;omega)];exact D0 h2 x z
def OT(a b:Str):(a++b).cps.toList=a.cps.toList++b.cps.toList:=by show(a.cps++b.cps).toList=_;simp
def Qbc(x b:Str):Zw (x++b) none (some (x.length:Int))=x:=by unfold Zw J2 ZK;rw[OT];simp only[];have lx:x.length=x.cps.toList.length:=rfl;rw[if_neg (by omega),show min (x.length:Int).toNat (x.cps.toList++b.cps.toList).length=x.cps.toList.length by simp only[Qe];omega,drop_zero,sub_zero,List.take_left]
def Qbb(a x:Str):Zw (a++x) (some (a.length:Int)) none=x:=by unfold Zw J2 ZK;rw[OT];simp only[];have la:a.length=a.cps.toList.length:=rfl;rw[if_neg (by omega),show min (a.length:Int).toNat (a.cps.toList++x.cps.toList).length=a.cps.toList.length by simp only[Qe];omega,List.drop_left,List.take_of_length_le (by simp)]
def Qba(a x b:Str):Zw (a++x++b) (some (a.length:Int)) (some ((a.length:Int)+x.length))=x:=by have la:a.length=a.cps.toList.length:=rfl;have lx:x.length=x.cps.toList.length:=rfl;unfold Zw J2 ZK;rw[OT,OT];simp only[];rw[if_neg (by omega),if_neg (by omega)];rw[show min (a.length:Int).toNat (a.cps.toList++x.cps.toList++b.cps.toList).length=a.cps.toList.length by simp only[Qe];omega,show min ((a.length:Int)+x.length).toNat (a.cps.toList++x.cps.toList++b.cps.toList).length=a.cps.toList.length+x.cps.toList.length by simp only[Qe];omega,Vy,List.drop_left,Nat.add_sub_cancel_left,List.take_left]
def CB{x:Str}(h:x.length=0):x=Str.ofString "":=by obtain⟨c⟩:=x;have:c=#[]:=Array.size_eq_zero_iff.mp h;subst this;rfl
theorem Good.sit:∀{os:List Op}{m:SM},Good m os->∀o∈os,∃L,Sits L o
 |[],_,_,_,h=>nomatch h|o::os,m,h,q,hq=>by
  rcases q_5.mp hq with z|z
  ·subst z;obtain⟨r,L,N,_,_,_,_,_,s⟩:=h.1;exact⟨L,s⟩
  ·exact Good.sit h.2 q z
def nk(ns:List Int):List Int:=J2 (J2 ns none (some 3)++[0,0,0]) none (some 3)++[1]++J2 ns (some 4) none
def Qe3(ns:List Int)(hl:ns.length<=63)(t:QG):QJ (QJ (JM (QJ (JM (eV 0) JX (JJ (Q4 3))) (QF (JI (Q4 0) (Q4 0) (Q4 0)))) JX (JJ (Q4 3))) (QF (QU (Q4 1)))) (JM (eV 0) (JJ (Q4 4)) JX) (some (.scr ns)::t)=QA ((nk ns).map .int):=by
 have l3:∀xs:List Int,(J2 xs none (some 3)).length<=3:=λxs=>by unfold J2 ZK;rw[Yy];simp only[];rw[if_neg (by decide)];show min (min 3 xs.length-0) _<=3;omega
 have l4:(J2 ns (some 4) none).length<=63:=by unfold J2;rw[Yy,US];omega
 have h3:=l3 ns;have h3':=l3 (J2 ns none (some 3)++[0,0,0]);have a1:D.add (.lst ((J2 ns none (some 3)).map .int)) (.lst (([0,0,0]:List Int).map .int))=QA ((J2 ns none (some 3)++[0,0,0]).map .int):=U0 (f:=D.int) (lB (by simp;omega));have c1:ZD (.lst ((J2 ns none (some 3)++[0,0,0]).map .int)) none (some 3)=QA ((J2 (J2 ns none (some 3)++[0,0,0]) none (some 3)).map .int):=by
  show some (D.lst (J2 ((J2 ns none (some 3)++[0,0,0]).map D.int) none (some 3)))=_;rw[Fu]
 have a2:D.add (.lst ((J2 (J2 ns none (some 3)++[0,0,0]) none (some 3)).map .int)) (.lst (([1]:List Int).map .int))=QA ((J2 (J2 ns none (some 3)++[0,0,0]) none (some 3)++[1]).map .int):=U0 (f:=D.int) (lB (by simp;omega));have a3:D.add (.lst ((J2 (J2 ns none (some 3)++[0,0,0]) none (some 3)++[1]).map .int)) (.lst ((J2 ns (some 4) none).map .int))=QA ((nk ns).map .int):=U0 (f:=D.int) (lB (by rw[Qe,Tr];omega));exact Q1 (Q1 (XZ (Q1 (XZ (x:=.scr ns) rfl rfl rfl rfl) (y:=.lst (([0,0,0]:List Int).map .int)) rfl a1) rfl rfl c1) (y:=.lst (([1]:List Int).map .int)) rfl a2) (XZ (x:=.scr ns) (l:=some 4) (h:=none) rfl rfl rfl rfl) a3
def Qe4(ns:List Int):JE (nk ns)=true:=by
 have l3:(J2 (J2 ns none (some 3)++[0,0,0]) none (some 3)).length=3:=by
  unfold J2;rw[Yy,US];show min (ZK _ _ (some 3)-ZK _ 0 none) (_-ZK _ 0 none)=3;unfold ZK;simp only[Qe,JV,WT];rw[if_neg (by decide)];show min (min 3 _-0) (_-0)=3;omega
 have:cell (nk ns) 3=1:=by
  unfold cell nk;rw[Vy,Yb,Vx (by omega),l3];rfl
 unfold JE;rw[this];rfl
def Qel(ns:List Int)(hl:ns.length<=63):SN [.scr ns]=QS true:=by
 have dr:Rg [.lst ((nk ns).map .int)]=some (.tup [Q9 (QK (nk ns)),S0 (nk ns),.int (dR (nk ns))]):=QcF (nk ns);have ar:=Qe3 ns hl;have li:=Qe4 ns;generalize nk ns=n at*;have fw:=Xa n;have hh:=XC n;have hw:=Ug n;obtain⟨lo,la,b4,fx,mn⟩:=Qep n;have jz:=Qeh n lo b4.1;obtain⟨c,rows,T,M,k⟩:=QaJ n lo b4 fx;rw[k.set_]at jz;have pr:=k.rows_at b4 la;have ops:=k.ops;have Ml:M.length<=1000:=by
  rw[k.eM];have:=k.good.len;rw[Qe,WT]at this;omega
 have tt:=Qei (QK n) c rows fw k.len (λq hq=>(k.pls q hq).1);rw[<-k.eT]at tt;have ga:=k.good.all;rw[<-k.eM]at ga;have cl:c.length=T.length:=by have:=k.cl;rw[li]at this;exact this
 have Tl:T.length<=400:=by
  have h2:T.length<=(QK n).length:=by rw[k.eT];have:=Mc ((QK n).zip rows);rw[Xp]at this;omega
  have:=(Ei n).1;omega
 have key:∀(i:Nat)(h1:i<c.length)(h2:i<T.length),c[i].c=0/\0<=c[i].l/\∃e∈M,e.1=c[i].p/\e.2.1[c[i].l.toNat]?=some (YU T[i].1 T[i].2 (dW n)):=λi h1 h2=>by
  have mem:NU (dW n) c[i] T[i]∈WN (dW n) c T++((QK n).zip rows).flatMap (VT (YH n lo)):=by
   refine Vi _ (q_19.mpr ⟨(c[i],T[i]),?_,rfl⟩);have hz:i<(c.zip T).length:=by rw[Xp];omega
   have:=YB hz;rw[getElem_zip]at this;exact this
  obtain⟨L,s1,s2,_⟩:=k.good.sit _ mem;have tl:=(k.tit T[i] (YB h2)).1;have rl:=Kb tl;obtain⟨e,he,e1,_,row,e2,a,b,e3,e4,_⟩:=ga.2 _ mem (⟨c[i].p,c[i].l+((0:Nat):Int),c[i].c⟩,YU T[i].1 T[i].2 (dW n),[]) (List.mem_mapIdx.mpr ⟨0,by simp,rfl⟩);have e4':(a.length:Int)=c[i].c:=e4;have d6:row=a++YU T[i].1 T[i].2 (dW n)++b:=e3;have wd:=k.wid e he row (VL e2);rw[d6,Yq,Yq]at wd;have ea:=CB (x:=a) (by omega);have eb:=CB (x:=b) (by omega);have dI:e.2.1[(c[i].l+((0:Nat):Int)).toNat]?=some row:=e2;rw[show(c[i].l+((0:Nat):Int))=c[i].l from add_zero _,d6,ea,eb,TC,IY]at dI;exact⟨s1,by omega,e,he,e1,dI⟩
 have tit:=k.tit;have up:=k.up;have ki:=Dr n;have iW:D.ix (S0 n) (.int 0)=Q0 (dW n):=rfl;have iC:D.ix (Qs (c::rows)) (.int 0)=some (QP c):=AQ (c::rows) 0 (by simp);generalize Qs (c::rows)=TT at*;clear k ga mn b4 fx;generalize S0 n=S at*;generalize Q9 (QK n)=B at*;generalize dH n=h at*;generalize dW n=w at*;generalize dR n=R at*;unfold SN K2;refine JS rfl ?_;refine st (e1:=[some (.scr ns),some B,some S,Q0 R,none,none,none,none,none,none,none,none,none,none,none,none]) (J0 (JD (ar _) dr) rfl) ?_;refine st (e1:=[some (.scr ns),some B,some S,Q0 R,some TT,none,none,none,none,none,none,none,none,none,none,none]) (J0 (YE rfl rfl (Zv rfl rfl la) jz) rfl) ?_;refine st (e1:=[some (.scr ns),some B,some S,Q0 R,some TT,some (Je T),none,none,none,none,none,none,none,none,none,none]) (J0 (Zv rfl rfl tt) rfl) ?_;have lT:D.len (Je T)=Q0 T.length:=by show some (D.int (T.map _).length)=_;rw[Qo]
 refine st (e1:=[some (.scr ns),some B,some S,Q0 R,some TT,some (Je T),none,none,none,none,none,none,none,none,none,none]) (QY (Q1 (x:=.int T.length) (JK (Q1 (x:=TT) rfl rfl iC) (by rw[DY,cl])) (JK (x:=Je T) rfl lT) (IP _)) rfl) ?_;refine st (e1:=[some (.scr ns),some B,some S,Q0 R,some TT,some (Je T),some (VI h []),none,none,none,none,none,none,none,none,none]) rfl ?_;refine XQ (ME h) M (λi e=>∃a7 a8,e=[some (.scr ns),some B,some S,Q0 R,some TT,some (Je T),some (VI h (M.take i)),a7,a8,none,none,none,none,none,none,none]) ?_ ⟨none,none,rfl⟩ ?_ ?_
 ·unfold J1;rw[Zv (x:=B) (y:=S) rfl rfl pr];rfl
 ·rintro i hi' e⟨a7,a8,rfl⟩;have hp:=Qhv (h:=h) (r:=M.take i) M[i] (λy hy=>by
   obtain⟨j,hj,rfl⟩:=List.mem_iff_getElem.mp hy;rw[Yy]at hj;rw[List.getElem_take];exact List.pairwise_iff_getElem.mp up j i (by omega) hi' (by omega)) (by rw[Yy];omega);rw[List.take_append_getElem hi']at hp;exact⟨_,.inl (Jg (e1:=[some (.scr ns),some B,some S,Q0 R,some TT,some (Je T),some (VI h (M.take i)),some (.int M[i].1),some (QR (WL h M[i])),none,none,none,none,none,none,none]) rfl (QcE rfl rfl rfl hp)),_,_,rfl⟩
 rintro e⟨a7,a8,rfl⟩;rw[VV];refine Hg T.length (λi e=>∃a7 a9 gP gO fM fL d8 dM,e=[some (.scr ns),some B,some S,Q0 R,some TT,some (Je T),some (VI h M),a7,a8,a9,gP,gO,fM,fL,d8,dM]) ?_ ⟨a7,none,none,none,none,none,none,none,rfl⟩ ?_ ?_
 ·unfold VE;rw[JK (x:=Je T) rfl lT];exact if_pos (show(T.length:Int).natAbs<4611686018427387904 by omega)
 ·rintro i hi e⟨a7,a9,gP,gO,fM,fL,d8,dM,rfl⟩;have jF:i<c.length:=by omega
  obtain⟨k1,k2,e,he,k3,k4⟩:=key i jF hi;have pc:=QdS c i jF;have pt:=QdV T i hi;obtain⟨t1,t2,t3⟩:=tit T[i] (YB hi);generalize c[i]=q at*;generalize hT:T[i]=tp at*;obtain⟨t,p⟩:=tp;dsimp only at t1 t2 t3 k4;have hd:=D0 (h:=h) up e he;rw[k3]at hd;have ij:D.dNotIn (.int q.p) (VI h M)=QS false:=by
   show some (D.bl (!hasK (.inl q.p) (M.map λx=>(Sum.inl x.1:Kd))))=_;rw[(D4 q.p M).mpr ⟨e,he,k3⟩];rfl
  have lt:q.l.toNat<e.2.1.length:=(q_18.mp k4).1;have jN:(WL h e)[q.l.toNat]?=some (YU t p w):=by
   unfold WL;rw[Vy,YO lt];exact k4
  have cT:q.l.toNat<(WL h e).length:=(q_18.mp jN).1;have lg:D.ix (QR (WL h e)) (.int q.l)=QQ (YU t p w):=by
   have:=QdT (WL h e) q.l.toNat cT;rw[show 0+((q.l.toNat:Nat):Int)=q.l by omega,(q_18.mp jN).2]at this;exact this
  have rl:=Kb t1;have sl:=Hj (n:=p) (by omega) (by omega);have es:=Hi (n:=p) (by omega) (by omega);have lR:=Yp (x:=YU t p w) (by omega);rw[rl]at lR;have lt':=Yp (x:=t) (by omega);have lp:=Yp (x:=Jd p) (by omega);have cu:∀lo hi,ZD (.str (YU t p w)) lo hi=QQ (Zw (YU t p w) lo hi):=λlo hi=>if_pos (lB (by omega));have dl:=Kn (w-t.length-(Jd p).length-2);have ms:D.mulA (.str (Str.ofString ".")) (.int (w-t.length-(Jd p).length-2))=QQ (Y0 (Str.ofString ".") (w-t.length-(Jd p).length-2)):=NN ⟨by omega,by omega,lB (by rw[show(Str.ofString ".").length=1 from by decide+kernel];omega)⟩;have sp:(Str.ofString " ").length=1:=rfl;generalize hX:Y0 (Str.ofString ".") (w-t.length-(Jd p).length-2)=X at*;have er:YU t p w=t++((Str.ofString " ")++X++(Str.ofString " "))++Jd p:=by unfold YU;rw[show w-(t.length:Int)-2-(Jd p).length=w-t.length-(Jd p).length-2 by omega,hX];simp only[RJ]
  have lm:(((Str.ofString " ")++X++(Str.ofString " ")).length:Int)=w-t.length-(Jd p).length:=by rw[Yq,Yq,sp,dl];omega
  have u1:Zw (YU t p w) none (some (t.length:Int))=t:=by rw[er,RJ];exact Qbc _ _
  have u2:Zw (YU t p w) (some (w-(Jd p).length)) none=Jd p:=by
   have:=Qbb (t++((Str.ofString " ")++X++(Str.ofString " "))) (Jd p);rw[Yq,<-er,show(((t.length+((Str.ofString " ")++X++(Str.ofString " ")).length:Nat)):Int)=w-(Jd p).length by omega]at this;exact this
  have u3:Zw (YU t p w) (some (t.length:Int)) (some (w-(Jd p).length))=(Str.ofString " ")++X++(Str.ofString " "):=by
   have:=Qba t ((Str.ofString " ")++X++(Str.ofString " ")) (Jd p);rw[<-er,lm,show(t.length:Int)+(w-t.length-(Jd p).length)=w-(Jd p).length by omega]at this;exact this
  generalize YU t p w=bN at*;refine⟨[some (.scr ns),some B,some S,Q0 R,some TT,some (Je T),some (VI h M),Q0 q.p,a8,Q0 (0+(i:Int)),Q0 q.l,Q0 q.c,QQ t,Q0 p,QQ bN,Q0 (w-t.length-(Jd p).length-2)],.inl (Jg (e1:=[some (.scr ns),some B,some S,Q0 R,some TT,some (Je T),some (VI h M),a7,a8,Q0 (0+(i:Int)),gP,gO,fM,fL,d8,dM]) rfl ?_),_,_,_,_,_,_,_,_,rfl⟩;refine st (e1:=[some (.scr ns),some B,some S,Q0 R,some TT,some (Je T),some (VI h M),Q0 q.p,a8,Q0 (0+(i:Int)),Q0 q.l,Q0 q.c,fM,fL,d8,dM]) (J0 (Q1 (Q1 (x:=TT) rfl rfl iC) rfl pc) rfl) ?_;refine st (e1:=[some (.scr ns),some B,some S,Q0 R,some TT,some (Je T),some (VI h M),Q0 q.p,a8,Q0 (0+(i:Int)),Q0 q.l,Q0 q.c,QQ t,Q0 p,d8,dM]) (J0 (Q1 (x:=Je T) rfl rfl pt) rfl) ?_;refine st (e1:=[some (.scr ns),some B,some S,Q0 R,some TT,some (Je T),some (VI h M),Q0 q.p,a8,Q0 (0+(i:Int)),Q0 q.l,Q0 q.c,QQ t,Q0 p,d8,dM]) (QY (Sf (Th (b:=true) (JD rfl (Qi4 p))) (Sf (Q1 (x:=.int q.p) (y:=VI h M) rfl rfl ij) (Q1 (x:=.int q.c) (y:=.int 0) rfl rfl (by rw[k1];exact IP 0)))) rfl) ?_;refine st (e1:=[some (.scr ns),some B,some S,Q0 R,some TT,some (Je T),some (VI h M),Q0 q.p,a8,Q0 (0+(i:Int)),Q0 q.l,Q0 q.c,QQ t,Q0 p,QQ bN,dM]) (J0 (Q1 (Q1 (x:=VI h M) (y:=.int q.p) rfl rfl hd) rfl lg) rfl) ?_;refine st (e1:=[some (.scr ns),some B,some S,Q0 R,some TT,some (Je T),some (VI h M),Q0 q.p,a8,Q0 (0+(i:Int)),Q0 q.l,Q0 q.c,QQ t,Q0 p,QQ bN,Q0 (w-t.length-(Jd p).length-2)]) (J0 (Q1 (Q1 (Q1 (Q1 (x:=S) rfl rfl iW) (JK (x:=.str t) rfl lt') rfl) (JK (JK (x:=.int p) rfl es) lp) rfl) rfl rfl) rfl) ?_;refine st (e1:=[some (.scr ns),some B,some S,Q0 R,some TT,some (Je T),some (VI h M),Q0 q.p,a8,Q0 (0+(i:Int)),Q0 q.l,Q0 q.c,QQ t,Q0 p,QQ bN,Q0 (w-t.length-(Jd p).length-2)]) (QY (Sf (Q1 (JK (x:=.str bN) rfl lR) (Q1 (x:=S) rfl rfl iW) (IP w)) (Sf (Q1 (x:=.str t) (XZ (x:=.str bN) rfl rfl (Uc (JK (x:=.str t) rfl lt')) (by rw[cu,u1])) rfl (IQ t)) (Q1 (x:=.str (Jd p)) (XZ (x:=.str bN) rfl (Uc (Q1 (JK (x:=.str bN) rfl lR) (JK (JK (x:=.int p) rfl es) lp) rfl)) rfl (by rw[cu,u2])) (JK (x:=.int p) rfl es) (IQ _)))) rfl) ?_;refine QY (Sf (Q1 (x:=.int (w-t.length-(Jd p).length-2)) (y:=.int 0) rfl rfl (II (by omega))) (Q1 (x:=.str ((Str.ofString " ")++X++(Str.ofString " "))) (XZ (x:=.str bN) rfl (Uc (JK (x:=.str t) rfl lt')) (Uc (Q1 (JK (x:=.str bN) rfl lR) (JK (JK (x:=.int p) rfl es) lp) rfl)) (by rw[cu,u3])) (Q1 (Q1 (x:=.str (Str.ofString " ")) rfl (Q1 (x:=.str (Str.ofString ".")) rfl rfl ms) (OI (by rw[sp,dl];omega))) (y:=.str (Str.ofString " ")) rfl (OI (by rw[Yq,sp,dl];omega))) (IQ _))) rfl
 ·rintro e⟨a7,a9,gP,gO,fM,fL,d8,dM,rfl⟩;exact ret rfl
end
section
open PySem PySem.Spec PyProof.Rows L2 Wd
noncomputable def Qp(i:Nat):Stmt:=PySem.Challenge.pw_leastbook_k24_rows_of_contents.main.body.getD i (.Pass ⟨0,0,0,0⟩)
abbrev BG:Stmt:=Qp 18
abbrev BC:Stmt:=Qp 19
abbrev BI:Stmt:=Qp 20
abbrev BJ:Stmt:=Qp 21
abbrev Bq:Stmt:=Qp 22
abbrev Bg:Stmt:=Qp 23
abbrev BF:Stmt:=Qp 24
abbrev Be:Stmt:=Qp 25
abbrev Bc:Stmt:=Qp 26
abbrev Bb:Stmt:=Qp 27
abbrev Bf:Stmt:=Qp 28
abbrev BO:Stmt:=Qp 30
abbrev BP:Stmt:=Qp 31
abbrev BN:Stmt:=Qp 32
abbrev BV:Stmt:=Qp 33
abbrev BU:Stmt:=Qp 34
abbrev HU:Stmt:=Qp 35
abbrev HS:Stmt:=Qp 36
abbrev HR:Stmt:=Qp 37
abbrev Bh:Stmt:=Qp 38
abbrev HL:Stmt:=Qp 39
abbrev BQ:Stmt:=Qp 40
abbrev BR:Stmt:=Qp 41
abbrev BL:Stmt:=Qp 42
abbrev BM:Stmt:=Qp 43
abbrev HI:Stmt:=Qp 44
abbrev HN:Stmt:=Qp 45
abbrev HP:Stmt:=Qp 46
abbrev MS:Stmt:=Qp 47
abbrev Ba:Stmt:=Qp 48
abbrev BZ:Stmt:=Qp 49
abbrev Bl:Stmt:=Qp 51
abbrev Bm:Stmt:=Qp 52
abbrev Bi:Stmt:=Qp 53
abbrev Bj:Stmt:=Qp 54
abbrev Bd:Stmt:=Qp 55
abbrev BW:Stmt:=Qp 56
abbrev Bp:Stmt:=Qp 57
abbrev BX:Stmt:=Qp 58
abbrev HM:Stmt:=Qp 60
abbrev Bo:Stmt:=Qp 61
abbrev BY:Stmt:=Qp 62
abbrev Bn:Stmt:=Qp 63
abbrev HV:Stmt:=Qp 65
abbrev HJ:Stmt:=Qp 66
abbrev HK:Stmt:=Qp 67
abbrev MQ:Stmt:=Qp 68
abbrev HH:Stmt:=Qp 69
abbrev BD:Stmt:=Qp 70
abbrev BH:Stmt:=Qp 71
abbrev HQ:Stmt:=Qp 72
abbrev B3:Stmt:=Qp 74
abbrev BB:Stmt:=Qp 75
abbrev B6:Stmt:=Qp 76
abbrev B5:Stmt:=Qp 77
abbrev B7:Stmt:=Qp 78
abbrev B9:Stmt:=Qp 79
abbrev MO:Stmt:=Qp 80
abbrev B8:Stmt:=Qp 81
abbrev B4:Stmt:=Qp 82
abbrev HF:Stmt:=Qp 83
abbrev T3:Stmt:=Qp 84
abbrev HG:Stmt:=Qp 85
abbrev MP:Stmt:=Qp 86
abbrev BA:Stmt:=Qp 87
abbrev MR:Stmt:=Qp 88
structure Txt(K:Fg)(mg:Str->Option Value):Prop where
 g_COLUMN:∃t,mg "COLUMN"=some (.int 2 t)g_FOOT:∃t,mg "FOOT"=some (.int 3 t)g_HEIGHT:∃t,mg "HEIGHT"=some (.int 1 t)g_LINE:∃t,mg "LINE"=some (.int 1 t)g_LISTED:∃t,mg "LISTED"=some (.int 3 t)g_ODD:∃t,mg "ODD"=some (.int 2 t)g_PAGE:∃t,mg "PAGE"=some (.int 0 t)g_USED:∃t,mg "USED"=some (.int 2 t)g_WIDTH:∃t,mg "WIDTH"=some (.int 0 t)b_any:mg "any"=none
 b_bool:mg "bool"=none
 b_enumerate:mg "enumerate"=none
 b_int:mg "int"=none
 b_isinstance:mg "isinstance"=none
 b_len:mg "len"=none
 b_max:mg "max"=none
 b_range:mg "range"=none
 b_str:mg "str"=none
 b_sum:mg "sum"=none
 b_zip:mg "zip"=none
 z:True
section
variable{P:Program}{w:World}{K:Fg}{mg:Str->Option Value}{ab:Heap}
abbrev PX:List Str:=["number"]
abbrev PU:List Str:=["page"]
noncomputable abbrev PY:List Str:=["style","state","lines"]
noncomputable abbrev PZ:List Str:=["style","state","size"]
noncomputable abbrev Pr:List Str:=["page","line","column","size","foot"]
noncomputable abbrev M5:List Str:=["style","state","size","rows"]
noncomputable abbrev Qai:List Str:=["style","state","size","rows","page","line","used","foot","column"]
abbrev PV:List Str:=["state"]
noncomputable abbrev M3:List Str:=["style","state","rows","keep"]
noncomputable abbrev Qag:List Str:=["style","state","rows","keep","start","place"]
abbrev Pn:List Str:=["state"]
abbrev Nx:List Str:=["style","state"]
noncomputable abbrev Qae:List Str:=["style","state","start"]
abbrev M4:List Str:=["state","many"]
noncomputable abbrev Qah:List Str:=["state","many","page"]
abbrev Pd:List Str:=["style"]
abbrev Pe:List Str:=["block"]
abbrev Pc:List Str:=["item"]
abbrev Ph:List Str:=["block"]
abbrev Pg:List Str:=["block"]
abbrev M6:List Str:=["book"]
noncomputable abbrev Gy:List Str:=["book","labels","block"]
abbrev Si:List Str:=["block","style"]
abbrev Sh:List Str:=["book","style"]
abbrev Po:List Str:=["book","style"]
abbrev Sg:List Str:=["texts","width"]
noncomputable abbrev Nt:List Str:=["block","style","room"]
noncomputable abbrev Qaa:List Str:=["block","style","room","beside"]
noncomputable abbrev Pf:List Str:=["item","style","room"]
abbrev Pa:List Str:=["block","style"]
abbrev Pb:List Str:=["item","style"]
noncomputable abbrev Tj:List Str:=["label","number","known"]
noncomputable abbrev Tn:List Str:=["block","number","style","room","known"]
noncomputable abbrev To:List Str:=["item","number","style","room","known"]
noncomputable abbrev Pl:List Str:=["items","number","style","room","known"]
noncomputable abbrev L7:List Str:=["items","number","style","room","known","words_left","item"]
abbrev Nw:List Str:=["book","known"]
noncomputable abbrev Qad:List Str:=["book","known","number","block","label"]
abbrev Nv:List Str:=["book","style"]
noncomputable abbrev Qac:List Str:=["book","style","room","known","number","block"]
abbrev M8:List Str:=["book","style"]
abbrev Qak:List Str:=["book","style","places","state","block","put"]
noncomputable abbrev M9:List Str:=["items","style","state","rooms"]
abbrev Qal:List Str:=["items","style","state","rooms","places","refs_set","item","size","put"]
noncomputable abbrev Pp:List Str:=["block","style","state"]
noncomputable abbrev M7:List Str:=["book","style","rooms"]
abbrev Qaj:List Str:=["book","style","rooms","put","told","state","refs_set","block"]
noncomputable abbrev Nz:List Str:=["items","places","kind"]
noncomputable abbrev Qaf:List Str:=["items","places","kind","found","words_set","item"]
abbrev Nu:List Str:=["book","told"]
noncomputable abbrev Qab:List Str:=["book","told","pages","block","places","label","page"]
abbrev MC:List Str:=["book","told"]
noncomputable abbrev Qan:List Str:=["book","told","titles","block","places"]
noncomputable abbrev Pj:List Str:=["book","style","rooms"]
noncomputable abbrev Nq:List Str:=["book","style","rooms"]
noncomputable abbrev Gv:List Str:=["book","style","rooms","pages"]
noncomputable abbrev MA:List Str:=["book","style","first"]
noncomputable abbrev Qam:List Str:=["book","style","first","rooms","wanted"]
abbrev Pk:List Str:=["book","style"]
abbrev Pq:List Str:=["book","style"]
abbrev MB:List Str:=["sheets","page"]
noncomputable abbrev PR:List Str:=["sheets","place","lines"]
noncomputable abbrev Nn:List Str:=["sheets","place","text","notes"]
noncomputable abbrev Ax:List Str:=["sheets","place","text","notes","sheet","lines"]
noncomputable abbrev Nm:List Str:=["sheets","items","places","pages"]
noncomputable abbrev Gu:List Str:=["sheets","items","places","pages","words","item","place"]
noncomputable abbrev PQ:List Str:=["sheets","block","places","pages"]
noncomputable abbrev Np:List Str:=["title","page","width"]
noncomputable abbrev Ay:List Str:=["title","page","width","number","dots"]
abbrev Nr:List Str:=["sheet","height"]
noncomputable abbrev Az:List Str:=["sheet","height","empty"]
abbrev Ny:List Str:=["book","style"]
noncomputable abbrev Gx:List Str:=["book","style","told","pages","sheets","place","titled","block","places"]
noncomputable abbrev PM:List Str:=["_law_script","_law_k"]
abbrev PN:List Str:=["_law_found"]
noncomputable abbrev Nf:List Str:=["_law_cell","_law_turn"]
noncomputable abbrev Ar:List Str:=["_law_cell","_law_turn","_law_number"]
abbrev Nd:List Str:=["_law_k"]
noncomputable abbrev Aq:List Str:=["_law_k","_law_some"]
noncomputable abbrev Ni:List Str:=["_law_cell","_law_number"]
noncomputable abbrev As:List Str:=["_law_cell","_law_number","_law_ten","_law_k"]
noncomputable abbrev Nk:List Str:=["_law_number","_law_size","_law_gaps"]
noncomputable abbrev Av:List Str:=["_law_number","_law_size","_law_gaps","_law_some","_law_found","_law_k","_law_at","_law_sign"]
noncomputable abbrev NZ:List Str:=["_law_cell","_law_k"]
noncomputable abbrev L5:List Str:=["_law_cell","_law_k","_law_number","_law_kind","_law_size","_law_many","_law_text","_law_word","_law_label_here","_law_name"]
noncomputable abbrev Nj:List Str:=["_law_atoms","_law_cells"]
noncomputable abbrev Au:List Str:=["_law_atoms","_law_cells","_law_labels","_law_atom_here","_law_found","_law_k","_law_label_here"]
abbrev Nc:List Str:=["_law_atoms"]
noncomputable abbrev Ap:List Str:=["_law_atoms","_law_book","_law_row","_law_atom_here"]
noncomputable abbrev Nb:List Str:=["_law_script","_law_style"]
noncomputable abbrev Gq:List Str:=["_law_script","_law_style","_law_many","_law_ten","_law_k","_law_row"]
noncomputable abbrev Nh:List Str:=["_law_book","_law_room"]
noncomputable abbrev T9:List Str:=["_law_book","_law_room","_law_wide","_law_high","_law_block","_law_notes","_law_rows"]
noncomputable abbrev Ng:List Str:=["_law_book","_law_listed"]
noncomputable abbrev Gs:List Str:=["_law_book","_law_listed","_law_most_here","_law_block"]
abbrev Na:List Str:=["_law_script"]
noncomputable abbrev L6:List Str:=["_law_script","_law_every","_law_cells","_law_book","_law_listed","_law_edge_here","_law_room","_law_wide","_law_high","_law_width","_law_height","_law_style"]
noncomputable abbrev Nl:List Str:=["_law_book","_law_places"]
noncomputable abbrev Aw:List Str:=["_law_book","_law_places","_law_found","_law_k"]
abbrev CN:List Str:=["_law_script"]
noncomputable abbrev Gw:List Str:=["_law_script","_law_book","_law_style","_law_room","_law_places","_law_titles_here","_law_sheets","_law_page","_law_rows","_law_k","_law_line","_law_column","_law_title","_law_due","_law_row","_law_many"]
section
variable(P:Program)(w:World)(K:Fg)(mg:Str->Option Value)(ab:Heap)
abbrev Mp:=Qg P w K mg ab 1 "figures" PX (Qw K SJ)
abbrev S1:=Qg P w K mg ab 1 "bare" PU (Qw K UG)
abbrev Mq:=Qg P w K mg ab 1 "has_height" PY (Qw K SK)
abbrev GG:=Qg P w K mg ab 1 "has_width" PZ (Qw K Ov)
abbrev Gh:=Qg P w K mg ab 1 "word_at" Pr (Qw K SU)
abbrev GY:=Qg P w K mg ab 2 "put_word" M5 (Qw K Rx)
abbrev Mo:=Qg P w K mg ab 1 "end_line" PV (Qw K Ro)
abbrev Mx:=Qg P w K mg ab 2 "put_block" M3 (Qw K Tc)
abbrev Mw:=Qg P w K mg ab 2 "new_page" Pn (Qw K Rv)
abbrev Mv:=Qg P w K mg ab 3 "new_chapter" Nx (Qw K Ru)
abbrev GX:=Qg P w K mg ab 3 "put_plates" M4 (Qw K N3)
abbrev GJ:=Qg P w K mg ab 1 "is_style" Pd (Qw K Oy)
abbrev RC:=Qg P w K mg ab 1 "is_titled" Pe (Qw K Xf)
abbrev S2:=Qg P w K mg ab 1 "is_set" Pc (Qw K Wf)
abbrev Mr:=Qg P w K mg ab 1 "label_of" Ph (Qw K Um)
abbrev RD:=Qg P w K mg ab 1 "items_of" Pg (Qw K Wg)
abbrev RE:=Qg P w K mg ab 2 "refs" M6 (Qw K Vp)
abbrev GV:=Qg P w K mg ab 2 "pages_for" Si (Qw K SQ)
abbrev GU:=Qg P w K mg ab 3 "pages_at_most" Sh (Qw K N1)
abbrev GZ:=Qg P w K mg ab 4 "room_at_most" Po (Qw K N4)
abbrev Mn:=Qg P w K mg ab 1 "any_longer" Sg (Qw K Rm)
abbrev GK:=Qg P w K mg ab 2 "is_wide_block" Nt (Qw K Ul)
abbrev GL:=Qg P w K mg ab 2 "is_wide_item" Pf (Qw K Oz)
abbrev GH:=Qg P w K mg ab 1 "is_high_block" Pa (Qw K Ow)
abbrev GI:=Qg P w K mg ab 1 "is_high_item" Pb (Qw K Ox)
abbrev Mm:=Qg P w K mg ab 1 "add_label" Tj (R1 K Rl)
abbrev GO:=Qg P w K mg ab 3 "look_at_block" Tn (R1 K Rp)
abbrev GP:=Qg P w K mg ab 3 "look_at_item" To (R1 K Rq)
abbrev GQ:=Qg P w K mg ab 4 "look_at_items" Pl (R1 K Rr)
abbrev GR:=Qg P w K mg ab 3 "look_at_refs" Nw (Qw K Rt)
abbrev Mu:=Qg P w K mg ab 5 "look" Nv (Qw K Uo)
abbrev Gb:=Qg P w K mg ab 4 "set_contents" M8 (Qw K N5)
abbrev Gd:=Qg P w K mg ab 3 "set_items" M9 (Qw K Rz)
abbrev Ga:=Qg P w K mg ab 4 "set_block" Pp (Qw K Ry)
abbrev OB:=Qg P w K mg ab 5 "set_book" M7 (Qw K UI)
abbrev GW:=Qg P w K mg ab 2 "pages_with" Nz (Qw K SR)
abbrev Ms:=Qg P w K mg ab 3 "label_pages" Nu (Qw K UH)
abbrev Gg:=Qg P w K mg ab 2 "title_pages" MC (Qw K SS)
abbrev GN:=Qg P w K mg ab 6 "laid" Pj (Qw K N0)
abbrev GD:=Qg P w K mg ab 6 "figures_told" Nq (Qw K Tb)
abbrev Gf:=Qg P w K mg ab 7 "settled" MA (Qw K N6)
abbrev Mt:=Qg P w K mg ab 8 "least" Pk (Qw K SO)
abbrev Ge:=Qg P w K mg ab 9 "set_least" Pq (Qw K P0)
abbrev GC:=Qg P w K mg ab 1 "contents_row" Np (Qw K Rn)
abbrev GF:=Qg P w K mg ab 1 "filled" Nr (Qw K Ou)
abbrev GS:=Qg P w K mg ab 10 "page_rows" Ny (Qw K Rw)
abbrev Mk:=Qg P w K mg ab 1 "_law_cell_at" PM (Qw K VR)
abbrev GA:=Qg P w K mg ab 1 "_law_whole" PN (Qw K Ot)
abbrev RB:=Qg P w K mg ab 1 "_law_mix" Nf (Qw K We)
abbrev G3:=Qg P w K mg ab 1 "_law_label" Nd (Qw K SG)
abbrev G6:=Qg P w K mg ab 1 "_law_plates" Ni (Qw K Om)
abbrev G8:=Qg P w K mg ab 1 "_law_signs" Nk (Qw K UE)
abbrev Hz:=Qg P w K mg ab 2 "_law_atom" NZ (Qw K Uk)
abbrev G7:=Qg P w K mg ab 2 "_law_pointed" Nj (Qw K Oo)
abbrev G2:=Qg P w K mg ab 1 "_law_grouped" Nc (Qw K Ta)
abbrev G1:=Qg P w K mg ab 2 "_law_edge" Nb (Qw K Rh)
abbrev G5:=Qg P w K mg ab 1 "_law_needs" Nh (Qw K Rj)
abbrev G4:=Qg P w K mg ab 1 "_law_most" Ng (Qw K Ri)
abbrev G0:=Qg P w K mg ab 3 "_law_drawn" Na (Qw K Rg)
abbrev G9:=Qg P w K mg ab 1 "_law_titles" Nl (Qw K Oq)
end
section
variable(P:Program)(w:World)(K:Fg)(mg:Str->Option Value)(ab:Heap)
abbrev Mz:=Qg P w K mg ab 2 "add_lines" PR (R4 K Xe)
abbrev Gk:=Qg P w K mg ab 2 "add_word" Nn (R4 K Wx)
abbrev Gj:=Qg P w K mg ab 3 "add_items" Nm (R4 K Rk)
abbrev Gi:=Qg P w K mg ab 4 "add_block" PQ (R4 K SI)
end
def QfA(h:Df K mg "figures" BG PX)(T:Txt K mg):Mp P w K mg ab:=J4 PX PX Lm 0 h λnd=>λhr=>So (QZ (J5 JP rfl T.b_len boot_len (dr (Xc Ud rfl T.b_str boot_str (dv 0)))))
def Qfx(h:Df K mg "bare" BC PU)(T:Txt K mg):S1 P w K mg ab:=J4 PU PU Li 0 h λnd=>λhr=>So (QZ (JZ (dn 0 (Dk Qy (Dk Qy (Dk Qy Dz)))) X1))
def QfD(h:Df K mg "has_height" BI PY)(T:Txt K mg):Mq P w K mg ab:=J4 PY PY Lp 0 h λnd=>λhr=>So (QZ (VB (Sd hr.units0) (dr (Q8 QX (dr (Q8 QX (dr (Qh (dv 1) (dr (JW T.g_LINE rfl)))) (dr (Qh (dv 1) (dr (JW T.g_FOOT rfl)))))) (dv 2))) (dr (Qh (dv 0) (dr (JW T.g_HEIGHT rfl)))) (Zr _)))
def QfE(h:Df K mg "has_width" BJ PZ)(T:Txt K mg):GG P w K mg ab:=J4 PZ PZ Lq 0 h λnd=>λhr=>So (QZ (Qcx (dr (VB (Xm hr.units) (dr (Qh (dv 1) (dr (JW T.g_USED rfl)))) dq (Zr _))) (TN (VB (Sd hr.units0) (dr (Q8 QX (dr (Q8 QX (dr (Qh (dv 1) (dr (JW T.g_USED rfl)))) dq)) (dv 2))) (dr (Qh (dv 0) (dr (JW T.g_WIDTH rfl)))) (Zr _)))))
def Qgg(h:Df K mg "word_at" Bq Pr)(T:Txt K mg):Gh P w K mg ab:=J4 Pr Pr KY 0 h λnd=>λhr=>So (QZ (JZ (Dt (JZ (dn 0 (dn 1 (dn 2 Dz))) Yr) (Dt (JZ (dn 0 (dn 1 (Db (Q8 QX (dv 2) (dv 3)) (dn 4 Dz)))) X1) Dz)) YL))
def Qf5(h:Df K mg "put_word" Bg M5)(T:Txt K mg)(aw:Mq P w K mg ab)(bB:GG P w K mg ab)(bh:Gh P w K mg ab):GY P w K mg ab:=J4 Qai M5 KJ 1 h (λnd=>λhr=>(by refine Ss (O1:=[]) ?_ ?_;exact(QT 4 nd (Qh (dv 1) (dr (JW T.g_PAGE rfl))));refine Ss (O1:=[]) ?_ ?_;exact(QT 5 nd (Qh (dv 1) (dr (JW T.g_LINE rfl))));refine Ss (O1:=[]) ?_ ?_;exact(QT 6 nd (Qh (dv 1) (dr (JW T.g_USED rfl))));refine Ss (O1:=[]) ?_ ?_;exact(QT 7 nd (Q8 QX (dr (Qh (dv 1) (dr (JW T.g_FOOT rfl)))) (dv 3)));refine Ss (O1:=[]) ?_ ?_;exact(Qk (PW.pt (UC (Zi (dr (dc bB hr (dn 0 (dn 1 (dn 2 Dz)))))) (VP (Zi (dr (dc aw hr (dn 0 (dn 1 (Db (Q8 QX dq (dv 3)) Dz))))))))) (Ss (O1:=[]) (QT 8 nd (Ob (dE hr (dv 6) dq) Qy (Q8 QX (dv 6) dq))) (So (QZ (dc bh hr (dn 4 (dn 5 (dn 8 (dn 2 (dn 7 Dz))))))))) Sn);refine Ss (O1:=[]) ?_ ?_;exact(Qk (PW.pt (UC (Wv Uv (dv 6) dq (Zr _)) (VP (Zi (dr (dc aw hr (dn 0 (dn 1 (Db (Q8 QX dq (dv 3)) Dz))))))))) (So (QZ (dc bh hr (dn 4 (Db (Q8 QX (dv 5) dq) (Dk Qy (dn 2 (dn 7 Dz)))))))) Sn);exact(So (QZ (dc bh hr (Db (Q8 QX (dv 4) dq) (Dk Qy (Dk Qy (dn 2 (dn 3 Dz))))))))))
def Qfz(h:Df K mg "end_line" BF PV)(T:Txt K mg):Mo P w K mg ab:=J4 PV PV Lk 0 h λnd=>λhr=>Ss (O1:=[]) (Qk (dE hr (dr (Qh (dv 0) (dr (JW T.g_USED rfl)))) dq) (So (QZ (Ql 0))) Sn) (So (QZ (JZ (Du (Qh (dv 0) (dr (JW T.g_PAGE rfl))) (Db (Q8 QX (dr (Qh (dv 0) (dr (JW T.g_LINE rfl)))) dq) (Dk Qy (Du (Qh (dv 0) (dr (JW T.g_FOOT rfl))) Dz)))) X1)))
def Qf3(h:Df K mg "put_block" Be M3)(T:Txt K mg)(aE:S1 P w K mg ab)(aL:Mo P w K mg ab)(aw:Mq P w K mg ab):Mx P w K mg ab:=J4 Qag M3 KH 1 h λnd=>λhr=>by refine Ss (O1:=[]) ? _ ? _;exact QT 4 nd (dc aL hr (dn 1 Dz));refine Ss (O1:=[]) ? _ ? _;exact Qk (Oi (Zi (dr (dc aw hr (dn 0 (dn 4 (Db (Q8 QX (dv 2) (dv 3)) Dz))))))) (So (QT 4 nd (dc aE hr (Db (Q8 QX (dr (Qh (dv 4) (dr (JW T.g_PAGE rfl)))) dq) Dz)))) Sn;exact Ss (O1:=[]) (QT 5 nd (JZ (Du (Qh (dv 4) (dr (JW T.g_PAGE rfl))) (Du (Qh (dv 4) (dr (JW T.g_LINE rfl))) (Dk Qy Dz))) Yr)) (So (QZ (JZ (dn 5 (Dt (JZ (Du (Qh (dv 4) (dr (JW T.g_PAGE rfl))) (Db (Q8 QX (dr (Qh (dv 4) (dr (JW T.g_LINE rfl)))) (dv 2)) (Dk Qy (Du (Qh (dv 4) (dr (JW T.g_FOOT rfl))) Dz)))) X1) Dz)) YL)))
def QfY(h:Df K mg "new_page" Bc Pn)(T:Txt K mg)(aE:S1 P w K mg ab):Mw P w K mg ab:=J4 Pn Pn K9 1 h λnd=>λhr=>Ss (O1:=[]) (Qk (dE hr (dv 0) (dr (dc aE hr (Du (Qh (dv 0) (dr (JW T.g_PAGE rfl))) Dz)))) (So (QZ (Ql 0))) Sn) (So (QZ (dc aE hr (Db (Q8 QX (dr (Qh (dv 0) (dr (JW T.g_PAGE rfl)))) dq) Dz))))
def QfX(h:Df K mg "new_chapter" Bb Nx)(T:Txt K mg)(aE:S1 P w K mg ab)(aK:Mw P w K mg ab):Mv P w K mg ab:=J4 Qae Nx K8 2 h λnd=>λhr=>by refine Ss (O1:=[]) ? _ ? _;exact QT 2 nd (dc aK hr (dn 1 Dz));refine Ss (O1:=[]) ? _ ? _;exact Qk (PW.pt (UC (Zi (dr (Qh (dv 0) (dr (JW T.g_ODD rfl))))) (VP (dE hr (dr (Q8 Js (dr (Qh (dv 2) (dr (JW T.g_PAGE rfl)))) dq)) dq)))) (So (QZ (dc aE hr (Db (Q8 QX (dr (Qh (dv 2) (dr (JW T.g_PAGE rfl)))) dq) Dz)))) Sn;exact So (QZ (Ql 2))
def Qf4(h:Df K mg "put_plates" Bf M4)(T:Txt K mg)(aE:S1 P w K mg ab)(aK:Mw P w K mg ab):GX P w K mg ab:=J4 Qah M4 KI 2 h λnd=>λhr=>Ss (O1:=[]) (QT 2 nd (Qh (dr (dc aK hr (dn 0 Dz))) (dr (JW T.g_PAGE rfl)))) (So (QZ (JZ (Dt (JZ (dn 2 (Dk Qy (Dk Qy Dz))) Yr) (Dl (dc aE hr (Db (Q8 QX (dv 2) (dv 1)) Dz)) Dz)) YL)))
def QfI(h:Df K mg "is_style" BO Pd)(T:Txt K mg):GJ P w K mg ab:=J4 Pd Pd Lv 0 h λnd=>λhr=>So (QZ (SD (dr (E5 (Sd hr.units0) (Sd hr.units0) dq (dr (Qh (dv 0) (dr (JW T.g_WIDTH rfl)))) dq)) (TN (E5 (Sd hr.units0) (Sd hr.units0) dq (dr (Qh (dv 0) (dr (JW T.g_HEIGHT rfl)))) dq))))
def QfJ(h:Df K mg "is_titled" BP Pe)(T:Txt K mg):RC P w K mg ab:=J4 Pe Pe Lw 0 h λnd=>λhr=>So (QZ (VB NX (dx 0) (dr (JZ (Dk QM (Dk QM Dz)) YL)) (by with_unfolding_all rfl)))
def QfH(h:Df K mg "is_set" BN Pc)(T:Txt K mg):S2 P w K mg ab:=J4 Pc Pc Lu 0 h λnd=>λhr=>So (QZ (VB NX (dx 0) (dr (JZ (Dk QM (Dk QM Dz)) YL)) (by with_unfolding_all rfl)))
def QfN(h:Df K mg "label_of" BV Ph)(T:Txt K mg):Mr P w K mg ab:=J4 Ph Ph Lz 0 h λnd=>λhr=>So (QZ (Ob (dE hr (dx 0) (dr QM)) QM (Qh (dv 0) (dr (Oc dq)))))
def QfM(h:Df K mg "items_of" BU Pg)(T:Txt K mg):RD P w K mg ab:=J4 Pg Pg Ly 0 h λnd=>λhr=>So (QZ (Ob (dE hr (dx 0) (dr QM)) (dy 0) (Jr Dz YK)))
def Qf6(h:Df K mg "refs" HU M6)(T:Txt K mg)(ao:RD P w K mg ab):RE P w K mg ab:=J4 Gy M6 KL 1 h (λnd=>λhr=>(by refine Ss (O1:=[1]) ?_ ?_;exact(Vn 1 nd (Wr Dz YK));refine Ss (O1:=[1]) ?_ ?_;refine Zx rfl PassesOwn.never ?_ ?_ ?_;exact(Za (Ql 0));exact Qq 2 nd;refine So ?_;refine QcI 1 (by decide) ?_;refine dr ?_;refine Ve ?_;refine Vc rfl rfl (Yh (show YF (Qr HU) Gy _ 1 ["item"] []=true by decide+kernel)) (by decide) ?_ ?_ ?_ ?_;exact(VC (Za (dc ao hr (dn 2 Dz))));exact λ_ _ _ _ _ _=>Qq 0 (show List.Nodup (["item"]:List Str)by decide+kernel);exact λ_ _ _ _ _ _=>(Uh (dE hr (dx 0) (dr QM)));exact λ_ _ _ _ _ _=>(dy 0);exact(Vo 1 (So (QZ (Ql 1))))))
def Qf1(h:Df K mg "pages_for" HS Si)(T:Txt K mg)(aq:S2 P w K mg ab)(aj:RC P w K mg ab)(ao:RD P w K mg ab):GV P w K mg ab:=J4 Si Si KD 1 h (λnd=>λhr=>(by refine Ss (O1:=[]) ?_ ?_;exact(Qk (dE hr (dx 0) (dr QM)) (So (QZ (Q8 QX dq (dx 0)))) Sn);refine Ss (O1:=[]) ?_ ?_;exact(Qk (PW.pt (UC (Zi (dr (dc aj hr (dn 0 Dz)))) (VP (Zi (dr (Qh (dv 1) (dr (JW T.g_LISTED rfl)))))))) (So (QZ Qy)) Sn);refine So ?_;refine QZ ?_;refine Q8 QX ?_ ?_;exact dq;refine dr ?_;refine Q8 VG ?_ ?_;exact dq;refine dr ?_;refine J5 JP rfl T.b_len boot_len ?_;refine dr ?_;refine Ve ?_;refine Vc rfl rfl (Yh (show YF (Qr HS) Si _ 1 ["item"] []=true by decide+kernel)) (by decide) ?_ ?_ ?_ ?_;exact(VC (Za (dc ao hr (dn 0 Dz))));exact λ_ _ _ _ _ _=>Qq 0 (show List.Nodup (["item"]:List Str)by decide+kernel);exact λ_ _ _ _ _ _=>(Uh (Zi (dr (dc aq hr (dn 0 Dz)))));exact λ_ _ _ _ _ _=>Ql 0))
def Qf0(h:Df K mg "pages_at_most" HR Sh)(T:Txt K mg)(bz:GV P w K mg ab):GU P w K mg ab:=J4 Sh Sh KC 2 h (λnd=>λhr=>(by refine So ?_;refine QZ ?_;refine Q8 QX ?_ ?_;exact dq;refine dr ?_;refine J5 (QaU rfl) rfl T.b_sum boot_sum ?_;refine dr ?_;refine Ve ?_;refine Vc rfl rfl (Yh (show YF (Qr HR) Sh _ 1 ["block","style"] [1]=true by decide+kernel)) (by decide) ?_ ?_ ?_ ?_;exact(VC (Za (Ql 0)));exact λ_ _ _ _ _ _=>Qq 0 (show List.Nodup (["block","style"]:List Str)by decide+kernel);exact λ_ _ _ _ _ _=>Wt;exact λ_ _ _ _ _ _=>(dc bz hr (dn 0 (dn 1 Dz)))))
def Qf7(h:Df K mg "room_at_most" Bh Po)(T:Txt K mg)(aS:Mp P w K mg ab)(aN:GU P w K mg ab):GZ P w K mg ab:=J4 Po Po KN 3 h λnd=>λhr=>So (QZ (dc aS hr (Dl (dc aN hr (dn 0 (dn 1 Dz))) Dz)))
def Qfw(h:Df K mg "any_longer" HL Sg)(T:Txt K mg):Mn P w K mg ab:=J4 Sg Sg Lh 0 h (λnd=>λhr=>(by refine So ?_;refine QZ ?_;refine J5 (QaL rfl) rfl T.b_any boot_any ?_;refine dr ?_;refine Ve ?_;refine Vc rfl rfl (Yh (show YF (Qr HL) Sg _ 1 ["text","width"] [1]=true by decide+kernel)) (by decide) ?_ ?_ ?_ ?_;exact(VC (Za (Ql 0)));exact λ_ _ _ _ _ _=>Qq 0 (show List.Nodup (["text","width"]:List Str)by decide+kernel);exact λ_ _ _ _ _ _=>Wt;exact λ_ _ _ _ _ _=>(VB Uv (dr (J5 JP rfl T.b_len boot_len (dv 0))) (dv 1) (Zr _))))
def QfK(h:Df K mg "is_wide_block" BQ Nt)(T:Txt K mg)(aD:Mn P w K mg ab)(aj:RC P w K mg ab):GK P w K mg ab:=J4 Qaa Nt S6 1 h λnd=>λhr=>by refine Ss (O1:=[]) ? _ ? _;exact Qk (Zi (dr (dc aj hr (dn 0 Dz)))) (Ss (O1:=[]) (QT 3 nd (Ob (Zi (dr (Qh (dv 1) (dr (JW T.g_LISTED rfl))))) (Q8 QX dq (dv 2)) Qy)) (So (QZ (VB Uv (dr (Q8 QX (dr (J5 JP rfl T.b_len boot_len (dx 0))) (dv 3))) (dr (Qh (dv 1) (dr (JW T.g_WIDTH rfl)))) (Zr _))))) Sn;exact So (QZ (SD (dr (VB (Xm hr.units) (dx 0) (dr QM) (Zr _))) (TN (dc aD hr (Du (dy 0) (Du (Qh (dv 1) (dr (JW T.g_WIDTH rfl))) Dz))))))
def QfL(h:Df K mg "is_wide_item" BR Pf)(T:Txt K mg)(aD:Mn P w K mg ab):GL P w K mg ab:=J4 Pf Pf Lx 1 h λnd=>λhr=>by refine Ss (O1:=[]) ? _ ? _;exact Qk (dE hr (dx 0) (dr QM)) (So (QZ (dc aD hr (Db (Q8 QX (dr (Jr (Du (dy 0) Dz) Vg)) (dx 0)) (Du (Qh (dv 1) (dr (JW T.g_WIDTH rfl))) Dz))))) Sn;refine So ? _;refine QZ ? _;exact SD (dr (VB (Xm hr.units) (dx 0) (dr QM) (Zr _))) (TN (VB Uv (dr (Q8 QX (dr (Q8 QX (dr (J5 JP rfl T.b_len boot_len (dx 0))) (dv 2))) (dr (J5 JP rfl T.b_len boot_len (dx 0))))) (dr (Qh (dv 1) (dr (JW T.g_WIDTH rfl)))) (Zr _)))
def QfF(h:Df K mg "is_high_block" BL Pa)(T:Txt K mg):GH P w K mg ab:=J4 Pa Pa Lr 0 h λnd=>λhr=>Ss (O1:=[]) (Qk (dE hr (dx 0) (dr QM)) (So (QZ (VB Uv (dr (Q8 QX (dx 0) dq)) (dr (Qh (dv 1) (dr (JW T.g_HEIGHT rfl)))) (Zr _)))) Sn) (So (QZ (SD (dr (VB (Xm hr.units) (dx 0) (dr QM) (Zr _))) (TN (VB Uv (dr (J5 JP rfl T.b_len boot_len (dx 0))) (dr (Qh (dv 1) (dr (JW T.g_HEIGHT rfl)))) (Zr _))))))
def QfG(h:Df K mg "is_high_item" BM Pb)(T:Txt K mg):GI P w K mg ab:=J4 Pb Pb Ls 0 h λnd=>λhr=>So (QZ (SD (dr (VB (Xm hr.units) (dx 0) (dr QM) (Zr _))) (TN (VB Uv (dr (Q8 QX (dr (J5 JP rfl T.b_len boot_len (dx 0))) dq)) (dr (Qh (dv 1) (dr (JW T.g_HEIGHT rfl)))) (Zr _)))))
def Bt:FnScope Tj Tj (Qr HI):=by constructor<;>first|rfl|decide+kernel
def Qft(h:Df K mg "add_label" HI Tj)(T:Txt K mg):Mm P w K mg ab:=have nd:=(Bt).nd
 NQ (b:=Lg) (k:=0) (N:=Tj) (ps:=Tj) (O':=[2,1002]) (OL:=[]) h Bt (by decide) (by decide) (by decide) (by decide) (by decide) λf aA A ag s H E hr=>Ss (O1:=[2,1002]) (Qk (QcQ hr.units1 (dv 0) (Wu 2)) (So Ui) Sn) (So (Og 2 (by decide) hr.units1 (dv 0) TM))
def Bw:FnScope Tn Tn (Qr HN):=by constructor<;>first|rfl|decide+kernel
def QfT(h:Df K mg "look_at_block" HN Tn)(T:Txt K mg)(aG:Mm P w K mg ab)(aR:GH P w K mg ab)(aQ:GK P w K mg ab)(aB:Mr P w K mg ab):GO P w K mg ab:=have nd:=(Bw).nd
 NQ (b:=K5) (k:=2) (N:=Tn) (ps:=Tn) (O':=[4,1004]) (OL:=[]) h Bw (by decide) (by decide) (by decide) (by decide) (by decide) (λf aA A ag s H E hr=>(by refine Ss (O1:=[4,1004]) ?_ ?_;exact(Qk (Zi (dr (dc aQ hr (dn 0 (dn 2 (dn 3 Dz)))))) (So Ui) Sn);refine Ss (O1:=[4,1004]) ?_ ?_;exact(Qk (Zi (dr (dc aR hr (dn 0 (dn 2 Dz))))) (So Ui) Sn);refine So ?_;refine Qk ?_ ?_ ?_;exact(dF hr (dr (dc aB hr (dn 0 Dz))) (dr QM));refine So ?_;refine Rb 4 (by decide) aG (hr.mono (by decide)) rfl ?_;refine Vk ?_ ?_ ?_;exact(dc aB hr (dn 0 Dz));refine Vk ?_ ?_ ?_;exact Ql 1;exact(RY 4);exact WB;exact HW;exact Sn))
def Bx:FnScope To To (Qr HP):=by constructor<;>first|rfl|decide+kernel
def QfU(h:Df K mg "look_at_item" HP To)(T:Txt K mg)(aG:Mm P w K mg ab)(aZ:GI P w K mg ab)(aY:GL P w K mg ab):GP P w K mg ab:=have nd:=(Bx).nd
 NQ (b:=K6) (k:=2) (N:=To) (ps:=To) (O':=[4,1004]) (OL:=[]) h Bx (by decide) (by decide) (by decide) (by decide) (by decide) (λf aA A ag s H E hr=>(by refine Ss (O1:=[4,1004]) ?_ ?_;exact(Qk (Zi (dr (dc aY hr (dn 0 (dn 2 (dn 3 Dz)))))) (So Ui) Sn);refine Ss (O1:=[4,1004]) ?_ ?_;exact(Qk (Zi (dr (dc aZ hr (dn 0 (dn 2 Dz))))) (So Ui) Sn);refine So ?_;refine Qk ?_ ?_ ?_;exact(dE hr (dx 0) (dr QM));refine So ?_;refine Rb 4 (by decide) aG (hr.mono (by decide)) rfl ?_;refine Vk ?_ ?_ ?_;exact(dy 0);refine Vk ?_ ?_ ?_;exact Ql 1;exact(RY 4);exact WB;exact A0;exact Sn))
def By:FnScope L7 Pl (Qr MS):=by constructor<;>first|rfl|decide+kernel
def QfV(h:Df K mg "look_at_items" MS Pl)(T:Txt K mg)(aq:S2 P w K mg ab)(aX:GP P w K mg ab):GQ P w K mg ab:=have nd:=(By).nd
 NQ (b:=OP) (k:=3) (N:=L7) (ps:=Pl) (O':=[4,1004]) (OL:=[]) h By (by decide) (by decide) (by decide) (by decide) (by decide) (λf aA A ag s H E hr=>(by refine Ss (O1:=[4,1004]) ?_ ?_;refine QT 5 nd ?_;refine J5 JP rfl T.b_len boot_len ?_;refine dr ?_;refine Ve ?_;refine Vc rfl rfl (Yh (show YF (Qr MS) L7 _ 1 ["item"] []=true by decide+kernel)) (by decide) ?_ ?_ ?_ ?_;exact(VC (Za (Ql 0)));exact λ_ _ _ _ _ _=>Qq 0 (show List.Nodup (["item"]:List Str)by decide+kernel);exact λ_ _ _ _ _ _=>(Uh (Zi (dr (dc aq hr (dn 0 Dz)))));exact λ_ _ _ _ _ _=>Ql 0;refine So ?_;refine Zx rfl PassesOwn.never ?_ ?_ ?_;exact(Za (Ql 0));exact Qq 6 nd;refine Ss (O1:=[4,1004]) ?_ ?_;refine Rb 4 (by decide) aX (hr.mono (by decide)) rfl ?_;refine Vk ?_ ?_ ?_;exact Ql 6;refine Vk ?_ ?_ ?_;exact Ql 1;refine Vk ?_ ?_ ?_;exact Ql 2;refine Vk ?_ ?_ ?_;exact Ql 3;exact(RY 4);exact WB;exact WB;exact WB;exact WB;exact(So (Qk (Zi (dr (dc aq hr (dn 6 Dz)))) (So (Of 5 nd (by decide) dq QdL)) (So (Qk (dE hr (dv 5) dq) (So Ui) Sn))))))
def QfW(h:Df K mg "look_at_refs" Ba Nw)(T:Txt K mg)(aM:RE P w K mg ab):GR P w K mg ab:=J4 Qad Nw K7 2 h λnd=>λhr=>by refine So ? _;exact Zx rfl PassesOwn.never (Od rfl T.b_enumerate (Ql 0)) (W4 rfl (Z3 (O1:=[]) (Qq 2 nd) (Z3 (O1:=[]) (Qq 3 nd) W5)) rfl) (So (Zx rfl PassesOwn.never (Za (dc aM hr (U8 (Jr (dn 3 Dz) Vg) Dz))) (Qq 4 nd) (So (Qk (EL hr.units1 (dv 4) (dv 1)) (So Ui) Sn))))
def QfS(h:Df K mg "look" BZ Nv)(T:Txt K mg)(bG:GJ P w K mg ab)(ao:RD P w K mg ab)(aP:GO P w K mg ab)(aO:GQ P w K mg ab)(aW:GR P w K mg ab)(aV:GZ P w K mg ab):Mu P w K mg ab:=J4 Qac Nv K4 4 h (λnd=>λhr=>(by refine Ss (O1:=[]) ?_ ?_;exact(Qk (Oi (Zi (dr (dc bG hr (dn 1 Dz))))) (So Ui) Sn);refine Ss (O1:=[]) ?_ ?_;exact(QT 2 nd (dc aV hr (dn 0 (dn 1 Dz))));refine Ss (O1:=[3]) ?_ ?_;exact(Vn 3 nd OX);refine Ss (O1:=[3]) ?_ ?_;refine Zx rfl PassesOwn.never ?_ ?_ ?_;exact(Od rfl T.b_enumerate (Ql 0));exact(W4 rfl (Z3 (O1:=[3]) (Qq 4 nd) (Z3 (O1:=[3]) (Qq 5 nd) W5)) rfl);refine Ss (O1:=[3]) ?_ ?_;refine Rb 3 (by decide) aP (hr.mono (by decide)) rfl ?_;refine Vk ?_ ?_ ?_;exact Ql 5;refine Vk ?_ ?_ ?_;exact Ql 4;refine Vk ?_ ?_ ?_;exact Ql 1;refine Vk ?_ ?_ ?_;exact Ql 2;exact(RY 3);exact WB;exact WB;exact WB;exact WB;refine So ?_;refine Rb 3 (by decide) aO (hr.mono (by decide)) rfl ?_;refine Vk ?_ ?_ ?_;exact(dc ao hr (dn 5 Dz));refine Vk ?_ ?_ ?_;exact Ql 4;refine Vk ?_ ?_ ?_;exact Ql 1;refine Vk ?_ ?_ ?_;exact Ql 2;exact(RY 3);exact WB;exact WB;exact WB;exact HW;exact(Vo 3 (So (Ko (dc aW hr (dn 0 (dn 3 Dz))))))))
def Qga(h:Df K mg "set_contents" Bl M8)(T:Txt K mg)(aE:S1 P w K mg ab)(aj:RC P w K mg ab)(ax:Mv P w K mg ab)(au:Mx P w K mg ab):Gb P w K mg ab:=J4 Qak M8 KQ 3 h (λnd=>λhr=>(by refine Ss (O1:=[2]) ?_ ?_;exact(Vn 2 nd (Wr Dz YK));refine Ss (O1:=[2]) ?_ ?_;exact(QT 3 nd (dc aE hr (Dk Qy Dz)));refine Ss (O1:=[2]) ?_ ?_;exact(Qk (Oi (Zi (dr (Qh (dv 1) (dr (JW T.g_LISTED rfl)))))) (Vo 2 (So (QZ (JZ (dn 2 (dn 3 Dz)) YL)))) Sn);refine Ss (O1:=[2]) ?_ ?_;refine Zx rfl PassesOwn.never ?_ ?_ ?_;exact(Za (Ql 0));exact Qq 4 nd;refine So ?_;exact(Qk (Zi (dr (dc aj hr (dn 4 Dz)))) (Ss (O1:=[2]) (QT 5 nd (dc au hr (dn 1 (dn 3 (Dk Qy (Dk Qy Dz)))))) (Ss (O1:=[2]) (Vm 2 (by decide) (dy 5)) (So (QT 3 nd (dy 5))))) Sn);exact(Ss (O1:=[2]) (Qk (Wv Uv (dr (J5 JP rfl T.b_len boot_len (Wu 2))) dq (Zr _)) (So (QT 3 nd (dc ax hr (dn 1 (dn 3 Dz))))) Sn) (Vo 2 (So (QZ (JZ (dn 2 (dn 3 Dz)) YL)))))))
def Qgb(h:Df K mg "set_items" Bm M9)(T:Txt K mg)(aL:Mo P w K mg ab)(aq:S2 P w K mg ab)(bo:GY P w K mg ab):Gd P w K mg ab:=J4 Qal M9 KR 2 h (λnd=>λhr=>(by refine Ss (O1:=[4]) ?_ ?_;exact(Vn 4 nd (Wr Dz YK));refine Ss (O1:=[4]) ?_ ?_;exact(QT 5 nd Qy);refine Ss (O1:=[4]) ?_ ?_;refine Zx rfl PassesOwn.never ?_ ?_ ?_;exact(Za (Ql 0));exact Qq 6 nd;refine So ?_;refine Qk ?_ ?_ ?_;exact(Zi (dr (dc aq hr (dn 6 Dz))));refine Ss (O1:=[4]) ?_ ?_;refine Qk ?_ ?_ ?_;exact(dE hr (dx 6) (dr QM));exact(Ss (O1:=[4]) (QT 7 nd (Q8 QX (dr (Q8 QX (dr (J5 JP rfl T.b_len boot_len (dx 6))) (dr (Qh (dv 3) (dv 5))))) (dr (J5 JP rfl T.b_len boot_len (dx 6))))) (Ss (O1:=[4]) (QT 8 nd (dc bo hr (dn 1 (dn 2 (dn 7 (Dk Qy Dz)))))) (So (Of 5 nd (by decide) dq ID))));exact(So (QT 8 nd (dc bo hr (dn 1 (dn 2 (Dl (J5 JP rfl T.b_len boot_len (dx 6)) (Dl (J5 JP rfl T.b_len boot_len (dx 6)) Dz)))))));exact(Ss (O1:=[4]) (Vm 4 (by decide) (dy 8)) (So (QT 2 nd (dy 8))));exact Sn;exact(Vo 4 (So (QZ (JZ (dn 4 (Dl (dc aL hr (dn 2 Dz)) Dz)) YL))))))
def Qf8(h:Df K mg "set_block" Bi Pp)(T:Txt K mg)(ax:Mv P w K mg ab)(au:Mx P w K mg ab)(bq:GX P w K mg ab):Ga P w K mg ab:=J4 Pp Pp KO 3 h λnd=>λhr=>by refine Ss (O1:=[]) ? _ ? _;exact Qk (dE hr (dx 0) (dr QM)) (So (QZ (dc bq hr (dn 2 (Du (dy 0) Dz))))) Sn;refine Ss (O1:=[]) ? _ ? _;exact Qk (dE hr (dx 0) (dr QM)) (So (QZ (dc au hr (dn 1 (dn 2 (Dl (J5 JP rfl T.b_len boot_len (dx 0)) (Dk Qy Dz))))))) Sn;exact Ss (O1:=[]) (Qk (dE hr (dx 0) (dr QM)) (So (QZ (dc au hr (dn 1 (dn 2 (Dk Qy (Du (dy 0) Dz))))))) Sn) (So (QZ (dc au hr (dn 1 (Dl (dc ax hr (dn 1 (dn 2 Dz))) (Dk Qy (Dk Qy Dz)))))))
def Qf9(h:Df K mg "set_book" Bj M7)(T:Txt K mg)(aM:RE P w K mg ab)(bx:Ga P w K mg ab)(aU:Gb P w K mg ab)(bw:Gd P w K mg ab):OB P w K mg ab:=J4 Qaj M7 KP 4 h (λnd=>λhr=>(by refine Ss (O1:=[]) ?_ ?_;exact(QT 3 nd (dc aU hr (dn 0 (dn 1 Dz))));refine Ss (O1:=[4]) ?_ ?_;exact(Vn 4 nd (Wr (Du (dy 3) Dz) Vg));refine Ss (O1:=[4]) ?_ ?_;exact(QT 5 nd (dy 3));refine Ss (O1:=[4]) ?_ ?_;exact(QT 6 nd Qy);refine Ss (O1:=[4]) ?_ ?_;refine Zx rfl PassesOwn.never ?_ ?_ ?_;exact(Za (Ql 0));exact Qq 7 nd;refine Ss (O1:=[4]) ?_ ?_;refine Qk ?_ ?_ ?_;exact(dE hr (dx 7) (dr QM));exact(Ss (O1:=[4]) (QT 3 nd (dc bw hr (Du (dy 7) (dn 1 (dn 5 (Du (Vd (dv 2) (VO (dv 6)) Vl) Dz)))))) (Ss (O1:=[4]) (Vm 4 (by decide) (dy 3)) (So (Of 6 nd (by decide) (dr (J5 JP rfl T.b_len boot_len (dr (dc aM hr (U8 (Jr (dn 7 Dz) Vg) Dz))))) ID))));exact(Ss (O1:=[4]) (QT 3 nd (dc bx hr (dn 7 (dn 1 (dn 5 Dz))))) (So (Vm 4 (by decide) (Jr (Du (dy 3) Dz) Vg))));exact(So (QT 5 nd (dy 3)));exact(Vo 4 (So (QZ (Ql 4))))))
def Qf2(h:Df K mg "pages_with" Bd Nz)(T:Txt K mg)(aq:S2 P w K mg ab):GW P w K mg ab:=J4 Qaf Nz KG 1 h (λnd=>λhr=>(by refine Ss (O1:=[3]) ?_ ?_;exact(Vn 3 nd (Wr Dz YK));refine Ss (O1:=[3]) ?_ ?_;exact(QT 4 nd Qy);refine Ss (O1:=[3]) ?_ ?_;refine Zx rfl PassesOwn.never ?_ ?_ ?_;exact(Za (Ql 0));exact Qq 5 nd;refine So ?_;exact(Qk (Zi (dr (dc aq hr (dn 5 Dz)))) (So (Of 4 nd (by decide) dq ID)) (So (Qk (dE hr (dx 5) (dv 2)) (So (Vm 3 (by decide) (JZ (Du (dy 5) (Du (Qh (dr (Qh (dv 1) (dv 4))) (dr (JW T.g_PAGE rfl))) Dz)) YL))) Sn)));exact(Vo 3 (So (QZ (Ql 3))))))
def QfO(h:Df K mg "label_pages" BW Nu)(T:Txt K mg)(ao:RD P w K mg ab)(aB:Mr P w K mg ab)(br:GW P w K mg ab):Ms P w K mg ab:=J4 Qab Nu K0 2 h λnd=>λhr=>by refine Ss (O1:=[2]) ? _ ? _;exact Vn 2 nd OX;refine Ss (O1:=[2]) ? _ ? _;refine Zx rfl PassesOwn.never ? _ ? _ ? _;exact RZ rfl T.b_zip (Ql 0) (Vd (dv 1) (VO dq) Vl);exact W4 rfl (Z3 (O1:=[2]) (Qq 3 nd) (Z3 (O1:=[2]) (Qq 4 nd) W5)) rfl;refine Ss (O1:=[2]) ? _ ? _;exact Qk (dF hr (dr (dc aB hr (dn 3 Dz))) (dr QM)) (So (Og 2 (by decide) hr.units1 (dr (dc aB hr (dn 3 Dz))) (Qh (dx 4) (dr (JW T.g_PAGE rfl))))) Sn;exact So (Zx rfl PassesOwn.never (Za (dc br hr (Dl (dc ao hr (dn 3 Dz)) (dn 4 (Dk QM Dz))))) (W4 rfl (Z3 (O1:=[2]) (Qq 5 nd) (Z3 (O1:=[2]) (Qq 6 nd) W5)) rfl) (So (Og 2 (by decide) hr.units1 (dv 5) (Ql 6))));exact Vo 2 (So (QZ (Ql 2)))
def Qgf(h:Df K mg "title_pages" Bp MC)(T:Txt K mg)(aj:RC P w K mg ab):Gg P w K mg ab:=J4 Qan MC KW 1 h λnd=>λhr=>by refine Ss (O1:=[2]) ? _ ? _;exact Vn 2 nd (Wr Dz YK);refine Ss (O1:=[2]) ? _ ? _;exact Zx rfl PassesOwn.never (RZ rfl T.b_zip (Ql 0) (Vd (dv 1) (VO dq) Vl)) (W4 rfl (Z3 (O1:=[2]) (Qq 3 nd) (Z3 (O1:=[2]) (Qq 4 nd) W5)) rfl) (So (Qk (Zi (dr (dc aj hr (dn 3 Dz)))) (So (Vm 2 (by decide) (JZ (Du (dy 3) (Du (Qh (dx 4) (dr (JW T.g_PAGE rfl))) Dz)) YL))) Sn));exact Vo 2 (So (QZ (Ql 2)))
def QfP(h:Df K mg "laid" BX Pj)(T:Txt K mg)(bP:Mu P w K mg ab)(av:OB P w K mg ab):GN P w K mg ab:=J4 Pj Pj K1 5 h λnd=>λhr=>Ss (O1:=[]) (Ko (dc bP hr (dn 0 (dn 1 Dz)))) (So (QZ (dc av hr (dn 0 (dn 1 (dn 2 Dz))))))
def QfB(h:Df K mg "figures_told" HM Nq)(T:Txt K mg)(aS:Mp P w K mg ab)(az:Ms P w K mg ab)(aM:RE P w K mg ab)(av:OB P w K mg ab):GD P w K mg ab:=J4 Gv Nq Ln 5 h (λnd=>λhr=>(by refine Ss (O1:=[]) ?_ ?_;exact(QT 3 nd (dc az hr (dn 0 (Dl (dc av hr (dn 0 (dn 1 (dn 2 Dz)))) Dz))));refine So ?_;refine QZ ?_;refine Ve ?_;refine Vc rfl rfl (Yh (show YF (Qr HM) Gv _ 1 ["label","pages"] [3]=true by decide+kernel)) (by decide) ?_ ?_ ?_ ?_;exact(VC (Za (dc aM hr (dn 0 Dz))));exact λ_ _ _ _ _ _=>Qq 0 (show List.Nodup (["label","pages"]:List Str)by decide+kernel);exact λ_ _ _ _ _ _=>Wt;exact λ_ _ _ _ _ _=>(dc aS hr (Du (Oa hr.units1 (dv 1) (dv 0)) Dz))))
def Qgd(h:Df K mg "settled" Bo MA)(T:Txt K mg)(aH:GD P w K mg ab):Gf P w K mg ab:=J4 Qam MA KU 6 h λnd=>λhr=>by refine Ss (O1:=[]) ? _ ? _;exact QT 3 nd (Ql 2);exact Ss (O1:=[]) (QT 4 nd (dc aH hr (dn 0 (dn 1 (dn 3 Dz))))) (Ss (O1:=[]) (QcK PassesOwn.never (dF hr (dv 4) (dv 3)) (Ss (O1:=[]) (QT 3 nd (Ql 4)) (So (QT 4 nd (dc aH hr (dn 0 (dn 1 (dn 3 Dz)))))))) (So (QZ (Ql 3))))
def QfR(h:Df K mg "least" BY Pk)(T:Txt K mg)(bP:Mu P w K mg ab)(aM:RE P w K mg ab)(bQ:Gf P w K mg ab):Mt P w K mg ab:=J4 Pk Pk K3 7 h λnd=>λhr=>Ss (O1:=[]) (Ko (dc bP hr (dn 0 (dn 1 Dz)))) (So (QZ (dc bQ hr (dn 0 (dn 1 (Db (Q8 VG (dr (Jr (Dk Qy Dz) Vg)) (dr (J5 JP rfl T.b_len boot_len (dr (dc aM hr (dn 0 Dz)))))) Dz))))))
def Qgc(h:Df K mg "set_least" Bn Pq)(T:Txt K mg)(bE:Mt P w K mg ab)(av:OB P w K mg ab):Ge P w K mg ab:=J4 Pq Pq KS 8 h λnd=>λhr=>So (QZ (dc av hr (dn 0 (dn 1 (Dl (dc bE hr (dn 0 (dn 1 Dz))) Dz)))))
def Bz:FnScope MB MB (Qr HV):=by constructor<;>first|rfl|decide+kernel
def Qge(h:Df K mg "sheet_of" HV MB)(T:Txt K mg):Qg P w K mg ab 1 "sheet_of" ["sheets","page"] R3:=have nd:=(Bz).nd
 okQ (k:=0) h Bz λf aA A ag s H E hr=>Sl (Cc (Sj PySem.F.plainAttrs_dict PySem.F.slot_dict_setdefault PySem.F.type_dict_setdefault QeM (Zt rfl (by first|exact Or.inl rfl|exact Or.inr (Or.inl rfl)|exact Or.inr (Or.inr rfl))) (ZJ (Zt rfl (by first|exact Or.inl rfl|exact Or.inr (Or.inl rfl)|exact Or.inr (Or.inr rfl))) (ZJ (CQ (ZJ (MD Vw) (ZJ (MD Vw) Vw))) Vw))))
def Bu:FnScope PR PR (Qr HJ):=by constructor<;>first|rfl|decide+kernel
def Qfu(h:Df K mg "add_lines" HJ PR)(T:Txt K mg)(aJ:Qg P w K mg ab 1 "sheet_of" ["sheets","page"] R3):Mz P w K mg ab:=have nd:=(Bu).nd
 NR (b:=RN) (k:=1) h Bu λf aA A ag s H E hr=>by refine Wa (QcG (i:=0) (WQ (Sj PySem.F.plainAttrs_list PySem.F.slot_list_extend PySem.F.type_list_extend IK (Pu P6 (UR aJ ? _ rfl (ZJ (Zt rfl (by first|exact Or.inl rfl|exact Or.inr (Or.inl rfl)|exact Or.inr (Or.inr rfl))) (ZJ ? _ Vw))) Sk λ_ _=>rfl) (ZJ ? _ Vw))));exact hr.mono (by decide);exact Qh (dv 1) (dr (JW T.g_PAGE rfl));exact Ql 2
def Bv:FnScope Ax Nn (Qr HK):=by constructor<;>first|rfl|decide+kernel
def Qfv(h:Df K mg "add_word" HK Nn)(T:Txt K mg)(aJ:Qg P w K mg ab 1 "sheet_of" ["sheets","page"] R3):Gk P w K mg ab:=have nd:=(Bv).nd
 NR (b:=RO) (k:=1) h Bv λf aA A ag s H E hr=>by refine QcP (Tp (MF nd rfl (by first|exact Or.inl rfl|exact Or.inr rfl) (UR aJ ? _ rfl (ZJ (Zt rfl (by first|exact Or.inl rfl|exact Or.inr (Or.inl rfl)|exact Or.inr (Or.inr rfl))) (ZJ ? _ Vw)))) (Tp (MF nd rfl (by first|exact Or.inl rfl|exact Or.inr rfl) (Pu P6 (Zt rfl (by first|exact Or.inl rfl|exact Or.inr (Or.inl rfl)|exact Or.inr (Or.inr rfl))) Sk λ_ _=>rfl)) (Tp (Il ? _ (Sl (WQ (Sj PySem.F.plainAttrs_list PySem.F.slot_list_append PySem.F.type_list_append IJ (Zt rfl (by first|exact Or.inl rfl|exact Or.inr (Or.inl rfl)|exact Or.inr (Or.inr rfl))) (ZJ (Zt rfl (by first|exact Or.inl rfl|exact Or.inr (Or.inl rfl)|exact Or.inr (Or.inr rfl))) Vw)))) (Sl (Ca (Ij Ic (Ij Ic (Pu P6 (Zt rfl (by first|exact Or.inl rfl|exact Or.inr (Or.inl rfl)|exact Or.inr (Or.inr rfl))) (Ik Hu Sk) λ_ _=>rfl) CP) (Zt rfl (by first|exact Or.inl rfl|exact Or.inr (Or.inl rfl)|exact Or.inr (Or.inr rfl)))) (Qg1 (Zt rfl (by first|exact Or.inl rfl|exact Or.inr (Or.inl rfl)|exact Or.inr (Or.inr rfl))) (Ik Hu Sk) Qib)))) (Sl (WQ (Sj PySem.F.plainAttrs_list PySem.F.slot_list_extend PySem.F.type_list_extend IK (Pu P6 (Zt rfl (by first|exact Or.inl rfl|exact Or.inr (Or.inl rfl)|exact Or.inr (Or.inr rfl))) Sk λ_ _=>rfl) (ZJ (Zt rfl (by first|exact Or.inl rfl|exact Or.inr (Or.inl rfl)|exact Or.inr (Or.inr rfl))) Vw)))))));exact hr.mono (by decide);exact Qh (dv 1) (dr (JW T.g_PAGE rfl));exact dE hr (dr (Qh (dv 1) (dr (JW T.g_COLUMN rfl)))) dq
def Bs:FnScope Gu Nm (Qr MQ):=by constructor<;>first|rfl|decide+kernel
def Qfs(h:Df K mg "add_items" MQ Nm)(T:Txt K mg)(bp:Gk P w K mg ab)(aq:S2 P w K mg ab):Gj P w K mg ab:=have nd:=(Bs).nd
 NR (b:=RL) (k:=2) h Bs (λf aA A ag s H E hr=>(by refine QcL (i:=0) ?_ ?_;refine QcJ (OL:=[]) (w:=false) (i:=0) (j:=4) ?_;refine Kq 4 nd rfl rfl (Yh (show YF (Qr MQ) Gu _ 1 ["item"] []=true by decide+kernel)) (by decide) ?_ ?_ ?_ ?_;exact(VC (Za (Ql 1)));exact λ_ _ _ _ _ _=>Qq 0 (show List.Nodup (["item"]:List Str)by decide+kernel);exact λ_ _ _ _ _ _=>(Uh (Zi (dr (dc aq hr (dn 0 Dz)))));exact λ_ _ _ _ _ _=>Ql 0;refine Wa ?_;refine Kp SRes.gr rfl PassesOwn.never ?_ ?_ ?_;exact(RZ rfl T.b_zip (Ql 4) (Ql 2));exact(W4 rfl (Z3 (O1:=[1000]) (Qq 5 nd) (Z3 (O1:=[1000]) (Qq 6 nd) W5)) rfl);refine Wa ?_;refine Oh (i:=0) ?_ ?_ ?_;exact(dE hr (dx 5) (dr QM));refine Wa ?_;refine TR (i:=0) (f:=Wx) (WQ (UR bp ?_ rfl (ZJ (Zt rfl (by first|exact Or.inl rfl|exact Or.inr (Or.inl rfl)|exact Or.inr (Or.inr rfl))) ?_)));exact hr.mono (by decide);exact(dn 6 (Db (Q8 QX (dr (Q8 QX (dx 5) (dr (Xc Ud rfl T.b_str boot_str (dr (Oa hr.units1 (dv 3) (dx 5))))))) (dx 5)) (U8 (Jr Dz YK) Dz)));refine Wa ?_;refine TR (i:=0) (f:=Wx) (WQ (UR bp ?_ rfl (ZJ (Zt rfl (by first|exact Or.inl rfl|exact Or.inr (Or.inl rfl)|exact Or.inr (Or.inr rfl))) ?_)));exact hr.mono (by decide);exact(dn 6 (Du (dy 5) (Du (dy 5) Dz)))))
def Br:FnScope PQ PQ (Qr HH):=by constructor<;>first|rfl|decide+kernel
def Qfr(h:Df K mg "add_block" HH PQ)(T:Txt K mg)(bC:Gj P w K mg ab)(aC:Mz P w K mg ab):Gi P w K mg ab:=have nd:=(Br).nd
 NR (b:=RK) (k:=3) h Br (λf aA A ag s H E hr=>(by refine Wa ?_;refine Oh (i:=0) ?_ ?_ ?_;exact(dE hr (dx 1) (dr QM));refine Wa ?_;refine TR (i:=0) (f:=Rk) (WQ (UR bC ?_ rfl (ZJ (Zt rfl (by first|exact Or.inl rfl|exact Or.inr (Or.inl rfl)|exact Or.inr (Or.inr rfl))) ?_)));exact hr.mono (by decide);exact(Du (dy 1) (dn 2 (dn 3 Dz)));refine Wa ?_;refine Oh (i:=0) ?_ ?_ ?_;exact(dE hr (dx 1) (dr QM));refine Wa ?_;refine TR (i:=0) (f:=Xe) (WQ (UR aC ?_ rfl (ZJ (Zt rfl (by first|exact Or.inl rfl|exact Or.inr (Or.inl rfl)|exact Or.inr (Or.inr rfl))) ?_)));exact hr.mono (by decide);exact(Du (dy 2) (Du (dy 1) Dz));refine Wa ?_;refine Oh (i:=0) ?_ ?_ ?_;exact(dF hr (dx 1) (dr QM));refine Wa ?_;refine TR (i:=0) (f:=Xe) (WQ (UR aC ?_ rfl (ZJ (Zt rfl (by first|exact Or.inl rfl|exact Or.inr (Or.inl rfl)|exact Or.inr (Or.inr rfl))) ?_)));exact hr.mono (by decide);exact(Du (dy 2) (U8 (Jr (Du (dy 1) Dz) Vg) Dz));exact QcN))
def Qfy(h:Df K mg "contents_row" BD Np)(T:Txt K mg):GC P w K mg ab:=J4 Ay Np Lj 0 h λnd=>λhr=>Ss (O1:=[]) (QT 3 nd (Xc Ud rfl T.b_str boot_str (dv 1))) (Ss (O1:=[]) (QT 4 nd (Q8 VG (dr QM) (dr (Q8 VH (dr (Q8 VH (dr (Q8 VH (dv 2) (dr (J5 JP rfl T.b_len boot_len (dv 0))))) dq)) (dr (J5 JP rfl T.b_len boot_len (dv 3))))))) (So (QZ (Qcu (Ql 0) (Ql 4) (Ql 3)))))
def QfC(h:Df K mg "filled" BH Nr)(T:Txt K mg):GF P w K mg ab:=J4 Az Nr Lo 0 h λnd=>λhr=>Ss (O1:=[]) (QT 2 nd (Q8 VH (dr (Q8 VH (dv 1) (dr (J5 JP rfl T.b_len boot_len (dx 0))))) (dr (J5 JP rfl T.b_len boot_len (dx 0))))) (So (QZ (Q8 QX (dr (Q8 QX (dx 0) (dr (Q8 VG (dr (Jr (Dk QM Dz) Vg)) (dv 2))))) (dx 0))))
def QfZ(h:Df K mg "page_rows" HQ Ny)(T:Txt K mg)(bD:Gi P w K mg ab)(aC:Mz P w K mg ab)(bc:GC P w K mg ab)(b7:GF P w K mg ab)(az:Ms P w K mg ab)(bu:Ge P w K mg ab)(bg:Gg P w K mg ab):GS P w K mg ab:=J4 Gx Ny KA 9 h (λnd=>λhr=>(by refine Ss (O1:=[]) ?_ ?_;exact(QT 2 nd (dc bu hr (dn 0 (dn 1 Dz))));refine Ss (O1:=[]) ?_ ?_;exact(QT 3 nd (dc az hr (dn 0 (dn 2 Dz))));refine Ss (O1:=[4]) ?_ ?_;exact(Vn 4 nd OX);refine QcM (i:=4) ?_ ?_ ?_;refine Kp SRes.gr rfl PassesOwn.never ?_ ?_ ?_;exact(RZ rfl T.b_zip (dy 2) (dc bg hr (dn 0 (dn 2 Dz))));exact(W4 rfl (Z3 (O1:=[1004]) (Qq 5 nd) (Z3 (O1:=[1004]) (Qq 6 nd) W5)) rfl);refine Wa ?_;refine TR (i:=4) (f:=Xe) (WQ (UR aC ?_ rfl (ZJ (Zt rfl (by first|exact Or.inl rfl|exact Or.inr (Or.inl rfl)|exact Or.inr (Or.inr rfl))) ?_)));exact hr.mono (by decide);exact(dn 5 (U8 (Jr (Dl (dc bc hr (Du (dy 6) (Du (dy 6) (Du (Qh (dv 1) (dr (JW T.g_WIDTH rfl))) Dz)))) Dz) Vg) Dz));refine Kp SRes.gr rfl PassesOwn.never ?_ ?_ ?_;exact(RZ rfl T.b_zip (Ql 0) (Vd (dv 2) (VO dq) Vl));exact(W4 rfl (Z3 (O1:=[1004]) (Qq 7 nd) (Z3 (O1:=[1004]) (Qq 8 nd) W5)) rfl);refine Wa ?_;refine TR (i:=4) (f:=SI) (WQ (UR bD ?_ rfl (ZJ (Zt rfl (by first|exact Or.inl rfl|exact Or.inr (Or.inl rfl)|exact Or.inr (Or.inr rfl))) ?_)));exact hr.mono (by decide);exact(dn 7 (dn 8 (dn 3 Dz)));refine Vo 4 ?_;refine So ?_;refine QZ ?_;refine Ve ?_;refine Vc rfl rfl (Yh (show YF (Qr HQ) Gx _ 1 ["page","sheets","style"] [4,1]=true by decide+kernel)) (by decide) ?_ ?_ ?_ ?_;exact(VC (QcA (Ql 4)));exact λ_ _ _ _ _ _=>Qq 0 (show List.Nodup (["page","sheets","style"]:List Str)by decide+kernel);exact λ_ _ _ _ _ _=>Wt;exact λ_ _ _ _ _ _=>(JZ (dn 0 (Dl (dc b7 hr (Du (Oa hr.units1 (dv 1) (dv 0)) (Du (Qh (dv 2) (dr (JW T.g_HEIGHT rfl))) Dz))) Dz)) YL)))
def Qfe(h:Df K mg "_law_cell_at" B3 PM)(T:Txt K mg):Mk P w K mg ab:=J4 PM PM LU 0 h λnd=>λhr=>Ss (O1:=[]) (Qk (Wv NY (dv 1) (dr (J5 JP rfl T.b_len boot_len (dv 0))) (Zr _)) (So (QZ (Qh (dv 0) (dv 1)))) Sn) (So (QZ Qy))
def Qfq(h:Df K mg "_law_whole" BB PN)(T:Txt K mg):GA P w K mg ab:=J4 PN PN Lf 0 h λnd=>λhr=>So (QZ (SD (dr (E6 (Qd5 _) rfl T.b_isinstance boot_isinstance rfl T.b_int boot_int (dv 0))) (TN (Qcw (dr (E6 (Qd4 _) rfl T.b_isinstance boot_isinstance rfl T.b_bool boot_bool (dv 0)))))))
def Qfj(h:Df K mg "_law_mix" B6 Nf)(T:Txt K mg):RB P w K mg ab:=J4 Ar Nf LY 0 h λnd=>λhr=>Ss (O1:=[]) (QT 2 nd (Q8 Js (dr (Q8 VG (dr (Q8 QX (dr (Q8 QX (dr (Q8 Js (dv 0) dq)) (dr (Q8 VG (dr (Q8 VG (dv 1) (dv 1))) dq)))) dq)) dq)) dq)) (So (QZ (Q8 Js (dr (Q8 QX (dr (Q8 VG (dv 2) (dv 2))) (dr (Q8 VG dq (dv 1))))) dq)))
def Qfi(h:Df K mg "_law_label" B5 Nd)(T:Txt K mg):G3 P w K mg ab:=J4 Aq Nd FO 0 h λnd=>λhr=>by refine Ss (O1:=[]) ? _ ? _;exact QT 1 nd QM;refine So ? _;refine QZ ? _;exact Q8 QX (dr (Q8 QX (dr (Q8 QX (dr (Vd (dr QM) Vl (VO (dr (Q8 Js (dr (Q8 VG (dv 0) dq)) dq))))) (dr (Qh (dv 1) (dr (Q8 Js (dr (Q8 VF (dv 0) dq)) dq)))))) (dr (Qh (dv 1) (dr (Q8 Js (dv 0) dq)))))) (dr (Vd (dr QM) Vl (VO (dr (Q8 Js (dr (Q8 VG (dv 0) dq)) dq)))))
def Qfm(h:Df K mg "_law_plates" B7 Ni)(T:Txt K mg):G6 P w K mg ab:=J4 As Ni Lb 0 h (λnd=>λhr=>(by refine Ss (O1:=[]) ?_ ?_;exact(QT 2 nd Qy);refine Ss (O1:=[]) ?_ ?_;exact(Zx rfl PassesOwn.never (UB rfl T.b_range (dr (Q8 Js (dr (Q8 VF (dv 1) dq)) dq))) (Qq 3 nd) (So (QT 2 nd (Q8 VG (dv 2) dq))));refine Ss (O1:=[]) ?_ ?_;exact(Qk (dE hr (dr (Q8 Js (dr (Q8 VF (dv 1) dq)) dq)) dq) (So (QT 2 nd (Q8 CL dq dq))) Sn);refine So ?_;refine QZ ?_;refine Qh ?_ ?_;refine dr ?_;refine Jr ?_ ?_;exact(Db (Q8 QX dq (dr (Q8 Js (dr (Q8 VF (dv 1) dq)) dq))) (Db (Q8 VH (dr (Q8 VH (dv 2) dq)) (dr (Q8 Js (dr (Q8 VF (dv 1) dq)) dq))) (Db (Q8 QX dq (dr (Q8 Js (dv 0) (dr (Q8 CL dq dq))))) Dz)));exact Yr;exact(dr (Q8 Js (dr (Q8 VF (dv 1) dq)) dq))))
def Qfo(h:Df K mg "_law_signs" B9 Nk)(T:Txt K mg):G8 P w K mg ab:=J4 Av Nk Ld 0 h (λnd=>λhr=>(by refine Ss (O1:=[]) ?_ ?_;exact(QT 3 nd QM);refine Ss (O1:=[]) ?_ ?_;exact(QT 3 nd (Q8 QX (dv 3) (dr QM)));refine Ss (O1:=[]) ?_ ?_;exact(QT 4 nd QM);refine Ss (O1:=[]) ?_ ?_;refine Zx rfl PassesOwn.never ?_ ?_ ?_;exact(UB rfl T.b_range (dv 1));exact Qq 5 nd;refine Ss (O1:=[]) ?_ ?_;exact(QT 6 nd (Q8 QX (dr (Q8 QX (dr (Q8 VF (dv 0) dq)) (dr (Q8 VG (dv 5) (dr (Q8 QX dq (dr (Q8 Js (dv 0) dq)))))))) (dr (Q8 VG (dv 5) (dv 5)))));refine Ss (O1:=[]) ?_ ?_;exact(QT 7 nd (Qh (dv 3) (dr (Q8 Js (dv 6) (dr (Q8 QX (dr (Q8 VH (dr (J5 JP rfl T.b_len boot_len (dv 3))) dq)) (dv 2)))))));exact(Ss (O1:=[]) (Qk (PW.pt (UC (dE hr (dv 2) dq) (VP (dE hr (dr (Q8 Js (dr (Q8 QX (dr (Q8 VF (dv 0) dq)) (dv 5))) dq)) dq)))) (So (QT 7 nd QM)) Sn) (So (QT 4 nd (Q8 QX (dv 4) (dv 7)))));exact(So (QZ (Ql 4)))))
def Qfd(h:Df K mg "_law_atom" MO NZ)(T:Txt K mg)(cb:G3 P w K mg ab)(aF:RB P w K mg ab)(bS:G6 P w K mg ab)(bt:G8 P w K mg ab):Hz P w K mg ab:=J4 L5 NZ LR 1 h (λnd=>λhr=>(by refine Ss (O1:=[]) ?_ ?_;exact(QT 2 nd (dc aF hr (dn 0 (Db (Q8 QX (dv 1) dq) Dz))));refine Ss (O1:=[]) ?_ ?_;exact(QT 3 nd (Q8 Js (dv 2) dq));refine Ss (O1:=[]) ?_ ?_;exact(QT 4 nd (Q8 QX dq (dr (Q8 Js (dr (Q8 VF (dv 2) dq)) (dr (Qh (dr (Jr (Dk Qy (Dk Qy Dz)) YL)) (dr (Xc Ff rfl T.b_int boot_int (dr (VB (Xm hr.units) (dr (Q8 Js (dr (Q8 VF (dv 2) dq)) dq)) dq (Zr _)))))))))));refine Ss (O1:=[]) ?_ ?_;exact(QT 5 nd (Q8 QX dq (dr (Q8 Js (dr (Q8 VF (dv 2) dq)) (dr (Qh (dr (Jr (Dk Qy (Dk Qy Dz)) YL)) (dr (Xc Ff rfl T.b_int boot_int (dr (VB (Xm hr.units) (dr (Q8 Js (dr (Q8 VF (dv 2) dq)) dq)) dq (Zr _)))))))))));refine Ss (O1:=[]) ?_ ?_;exact(QT 6 nd (dc bt hr (Db (Q8 VF (dv 2) dq) (dn 4 (Dk Qy Dz)))));refine Ss (O1:=[]) ?_ ?_;exact(QT 7 nd (dc bt hr (Db (Q8 VF (dv 2) dq) (dn 4 (Dk Qy Dz)))));refine Ss (O1:=[]) ?_ ?_;exact(QT 8 nd (dc cb hr (dn 1 Dz)));refine Ss (O1:=[]) ?_ ?_;exact(QT 9 nd (Ql 8));refine Ss (O1:=[]) ?_ ?_;exact(Qk (dE hr (dr (Q8 Js (dr (Q8 VF (dv 2) dq)) dq)) dq) (So (QT 9 nd QM)) Sn);refine Ss (O1:=[]) ?_ ?_;exact(Qk (dE hr (dv 3) dq) (So (QZ (JZ (Dk QM (Db (Q8 QX (dx 7) (dr (E7 (dv 6)))) (dn 9 Dz))) Yr))) Sn);refine Ss (O1:=[]) ?_ ?_;exact(Qk (dE hr (dv 3) dq) (So (QZ (JZ (Dk QM (Db (Q8 QX (dx 7) (dr (E7 (dv 6)))) (Db (Q8 VH (dv 5) dq) (dn 9 Dz)))) X1))) Sn);refine Ss (O1:=[]) ?_ ?_;refine Qk ?_ ?_ ?_;exact(dE hr (dv 3) dq);refine So ?_;refine QZ ?_;refine JZ ?_ ?_;refine Dk ?_ ?_;exact QM;refine OZ ?_ ?_;refine Ve ?_;refine Vc rfl rfl (Yh (show YF (Qr MO) L5 _ 1 ["_law_j","_law_text","_law_size"] [6,4]=true by decide+kernel)) (by decide) ?_ ?_ ?_ ?_;exact(VC (UB rfl T.b_range (dv 5)));exact λ_ _ _ _ _ _=>Qq 0 (show List.Nodup (["_law_j","_law_text","_law_size"]:List Str)by decide+kernel);exact λ_ _ _ _ _ _=>Wt;exact λ_ _ _ _ _ _=>(Vd (dv 1) Vl (VO (dr (UA (U4 rfl) rfl T.b_max boot_max dq (dr (Q8 VH (dv 2) (dv 0)))))));exact(dn 9 Dz);exact Yr;exact Sn;refine Ss (O1:=[]) ?_ ?_;exact(Qk (dE hr (dv 3) dq) (So (QZ (JZ (Dk QM (Dl (dc bS hr (dn 0 (dn 2 Dz))) (dn 9 Dz))) Yr))) Sn);refine Ss (O1:=[]) ?_ ?_;exact(Qk (dE hr (dv 3) dq) (So (QZ (JZ (Dk QM (Dk QM (Dk QM Dz))) Yr))) Sn);refine Ss (O1:=[]) ?_ ?_;exact(Qk (Wv NY (dv 3) dq (Zr _)) (So (QZ (JZ (Dk QM (dn 8 Dz)) YL))) Sn);refine Ss (O1:=[]) ?_ ?_;exact(Qk (dE hr (dv 3) dq) (So (QZ (JZ (Dk QM (Du (Vd (dr (Q8 VG (dv 7) dq)) Vl (VO (dr (Q8 QX dq (dr (Q8 Js (dr (Q8 VF (dv 2) dq)) dq)))))) Dz)) YL))) Sn);refine Ss (O1:=[]) ?_ ?_;refine Qk ?_ ?_ ?_;exact(Wv NY (dv 3) dq (Zr _));refine So ?_;refine QZ ?_;refine JZ ?_ ?_;refine Dk ?_ ?_;exact QM;exact(Dk QM (Du (Vd (dv 7) Vl (VO (dr (Q8 Js (dr (Q8 VF (dv 2) dq)) dq)))) (Dl (dc bt hr (Db (Q8 VF (dv 2) dq) (Db (Q8 Js (dr (Q8 VF (dv 2) dq)) dq) (Dk Qy Dz)))) Dz)));exact X1;exact Sn;refine Ss (O1:=[]) ?_ ?_;refine Qk ?_ ?_ ?_;exact(dE hr (dv 3) dq);refine So ?_;refine QZ ?_;refine JZ ?_ ?_;refine Dk ?_ ?_;exact QM;refine E4 ?_ ?_;exact Ql 7;refine OZ ?_ ?_;refine Ve ?_;refine Vc rfl rfl (Yh (show YF (Qr MO) L5 _ 1 ["_law_j","_law_text"] [6]=true by decide+kernel)) (by decide) ?_ ?_ ?_ ?_;exact(VC (UB rfl T.b_range (dv 5)));exact λ_ _ _ _ _ _=>Qq 0 (show List.Nodup (["_law_j","_law_text"]:List Str)by decide+kernel);exact λ_ _ _ _ _ _=>Wt;exact λ_ _ _ _ _ _=>(Vd (dv 1) (VO (dv 0)) Vl);exact Dz;exact Yr;exact Sn;exact(So (QZ (JZ (Dk QM (dn 7 (U8 (Jr Dz YK) Dz))) Yr)))))
def Qfn(h:Df K mg "_law_pointed" B8 Nj)(T:Txt K mg)(aF:RB P w K mg ab):G7 P w K mg ab:=J4 Au Nj Lc 1 h (λnd=>λhr=>(by refine Ss (O1:=[2]) ?_ ?_;exact(Vn 2 nd (Wr Dz YK));refine Ss (O1:=[2]) ?_ ?_;refine Zx rfl PassesOwn.never ?_ ?_ ?_;exact(Za (Ql 0));exact Qq 3 nd;refine So ?_;refine Qk ?_ ?_ ?_;exact(dE hr (dx 3) (dr QM));exact(So (Vm 2 (by decide) (dy 3)));refine So ?_;exact(Qk (PW.pt (UC (Wv CK (dx 3) (dr (Jr (Dk QM (Dk QM (Dk QM (Dk QM Dz)))) X1)) (by with_unfolding_all rfl)) (VP (dF hr (dr (Qh (dv 3) (dr (Oc dq)))) (dr QM))))) (So (Vm 2 (by decide) (Qh (dv 3) (dr (Oc dq))))) Sn);refine Ss (O1:=[2,4]) ?_ ?_;exact(Vn 4 nd (Wr Dz YK));refine Ss (O1:=[2,4]) ?_ ?_;refine Zx rfl PassesOwn.never ?_ ?_ ?_;exact(Od rfl T.b_enumerate (Ql 0));exact(W4 rfl (Z3 (O1:=[2,4]) (Qq 5 nd) (Z3 (O1:=[2,4]) (Qq 3 nd) W5)) rfl);refine So ?_;refine Qk ?_ ?_ ?_;exact(PW.pt (UC (dE hr (dx 3) (dr QM)) (VP (dE hr (Wu 2) (dr (Jr Dz YK))))));exact(So (Vm 4 (by decide) (JZ (Dk QM (Dk QM (U8 (Jr Dz YK) Dz))) Yr)));refine So ?_;refine Qk ?_ ?_ ?_;exact(dE hr (dx 3) (dr QM));exact(Ss (O1:=[2,4]) (QT 6 nd (Qh (Wu 2) (dr (Q8 Js (dr (dc aF hr (Du (Qh (dv 1) (dv 5)) (Db (Q8 QX (dv 5) dq) Dz)))) (dr (J5 JP rfl T.b_len boot_len (Wu 2))))))) (So (Vm 4 (by decide) (JZ (Dk QM (dn 6 (Du (dy 3) (Du (dy 3) Dz)))) X1))));exact(So (Vm 4 (by decide) (Ql 3)));exact(Vo 4 (So (QZ (Ql 4))))))
def Qfh(h:Df K mg "_law_grouped" B4 Nc)(T:Txt K mg):G2 P w K mg ab:=J4 Ap Nc LX 0 h (λnd=>λhr=>(by refine Ss (O1:=[1]) ?_ ?_;exact(Vn 1 nd (Wr Dz YK));refine Ss (O1:=[1,2]) ?_ ?_;exact(Vn 2 nd (Wr Dz YK));refine Ss (O1:=[1,2]) ?_ ?_;refine Zx rfl PassesOwn.never ?_ ?_ ?_;exact(Za (Q8 QX (dv 0) (dr (Jr (Dt (JZ (Dk QM (Dk QM (Dk QM Dz))) Yr) Dz) Vg))));exact Qq 3 nd;refine Ss (O1:=[1,2]) ?_ ?_;exact(Qk (Wv NX (dx 3) (dr (Jr (Dk QM (Dk QM (Dk QM (Dk QM Dz)))) X1)) (by with_unfolding_all rfl)) (Ss (O1:=[1,2]) (Vm 2 (by decide) (Ql 3)) (So QcH)) Sn);refine Ss (O1:=[1,2]) ?_ ?_;exact(Qk (PW.pt (UC (dF hr (Wu 2) (dr (Jr Dz YK))) (VP (Wv NX (dr (Qh (dr (Qh (Wu 2) (dr (Oc dq)))) dq)) (dr (Jr (Dk QM (Dk QM Dz)) YL)) (by with_unfolding_all rfl))))) (So (Vm 2 (by decide) (JZ (Dk QM (Dk QM (U8 (Jr Dz YK) Dz))) Yr))) Sn);exact(Ss (O1:=[1]) (Qk (PW.pt (XG (dF hr (Wu 2) (dr (Jr Dz YK))) (VP (dE hr (dx 3) (dr QM))))) (Vo 2 (So (Vm 1 (by decide) (JZ (Dk QM (dn 2 Dz)) YL)))) (QcO 2 [1,2] Sn)) (Ss (O1:=[1,2]) (Vn 2 nd (Wr Dz YK)) (So (Qk (Wv CK (dx 3) (dr (Jr (Dk QM (Dk QM Dz)) YL)) (by with_unfolding_all rfl)) (So (Vm 1 (by decide) (Ql 3))) Sn))));exact(Vo 1 (So (QZ (Ql 1))))))
def Qfg(h:Df K mg "_law_edge" HF Nb)(T:Txt K mg)(ak:Mk P w K mg ab)(aF:RB P w K mg ab):G1 P w K mg ab:=J4 Gq Nb LW 1 h (λnd=>λhr=>(by refine Ss (O1:=[]) ?_ ?_;exact(Qk (PW.pt (XG (Zi (dx 1)) (VP (dF hr (dr (Q8 Js (dr (dc ak hr (dn 0 (Dk Qy Dz)))) dq)) dq)))) (So (QZ (Jr Dz YK))) Sn);refine Ss (O1:=[]) ?_ ?_;exact(QT 2 nd (Q8 QX dq (dr (Q8 Js (dr (dc aF hr (Dl (dc ak hr (dn 0 (Dk Qy Dz))) (Dk Qy Dz)))) dq))));refine Ss (O1:=[]) ?_ ?_;exact(QT 3 nd Qy);refine Ss (O1:=[]) ?_ ?_;exact(Zx rfl PassesOwn.never (UB rfl T.b_range (dv 2)) (Qq 4 nd) (So (QT 3 nd (Q8 VG (dv 3) dq))));refine Ss (O1:=[]) ?_ ?_;refine QT 5 nd ?_;refine Jr ?_ ?_;exact(Dt (JZ (Dk QM (Db (Q8 VG (dr QM) (dr (UA (U4 rfl) rfl T.b_max boot_max dq (dr (Q8 VH (dr (Q8 VH (dx 1) dq)) (dv 2)))))) (U8 (Jr Dz YK) Dz))) Yr) (Dt (JZ (Dk QM (Dk QM Dz)) YL) (Dt (JZ (Dk QM (Dk QM (Dk QM (Dk QM Dz)))) X1) Dz)));exact Yr;refine So ?_;refine QZ ?_;refine Jr ?_ ?_;refine Dt ?_ ?_;exact(JZ (Dk QM (Db (Q8 VH (dv 3) dq) (Dk QM Dz))) Yr);refine Dt ?_ ?_;refine JZ ?_ ?_;refine Dk ?_ ?_;exact QM;refine OZ ?_ ?_;refine Ve ?_;refine Vc rfl rfl (Yh (show YF (Qr HF) Gq _ 1 ["_law_k"] []=true by decide+kernel)) (by decide) ?_ ?_ ?_ ?_;exact(VC (UB rfl T.b_range (dr (Q8 VH (dx 1) dq))));exact λ_ _ _ _ _ _=>Qq 0 (show List.Nodup (["_law_k"]:List Str)by decide+kernel);exact λ_ _ _ _ _ _=>Wt;exact λ_ _ _ _ _ _=>QM;exact(Dk QM Dz);exact Yr;exact(Dt (JZ (Dk QM (dn 5 Dz)) YL) Dz);exact Yr))
def Qfl(h:Df K mg "_law_needs" T3 Nh)(T:Txt K mg):G5 P w K mg ab:=J4 T9 Nh La 0 h (λnd=>λhr=>(by refine Ss (O1:=[]) ?_ ?_;exact(QT 2 nd Qy);refine Ss (O1:=[]) ?_ ?_;exact(QT 3 nd Qy);refine Ss (O1:=[]) ?_ ?_;refine Zx rfl PassesOwn.never ?_ ?_ ?_;exact(Za (Ql 0));exact Qq 4 nd;refine Ss (O1:=[]) ?_ ?_;exact(Qk (PW.pt (XG (dE hr (dx 4) (dr QM)) (VP (dE hr (dx 4) (dr QM))))) (So (QT 2 nd (UA (U4 rfl) rfl T.b_max boot_max (dv 2) (dr (Q8 QX (dr (Q8 QX (dr (J5 JP rfl T.b_len boot_len (dx 4))) dq)) (dv 1)))))) Sn);refine Ss (O1:=[]) ?_ ?_;exact(Qk (dE hr (dx 4) (dr QM)) (So (QT 3 nd (UA (U4 rfl) rfl T.b_max boot_max (dv 3) (dr (Q8 QX (dx 4) dq))))) Sn);refine Ss (O1:=[]) ?_ ?_;refine Qk ?_ ?_ ?_;exact(dE hr (dx 4) (dr QM));refine Ss (O1:=[]) ?_ ?_;exact(QT 3 nd (UA (U4 rfl) rfl T.b_max boot_max (dv 3) (dr (J5 JP rfl T.b_len boot_len (dx 4)))));refine So ?_;refine QT 2 nd ?_;refine J5 (RQ rfl) rfl T.b_max boot_max ?_;refine dr ?_;refine Q8 QX ?_ ?_;exact(dr (Jr (dn 2 Dz) Vg));refine dr ?_;refine Ve ?_;refine Vc rfl rfl (Yh (show YF (Qr T3) T9 _ 1 ["_law_row"] []=true by decide+kernel)) (by decide) ?_ ?_ ?_ ?_;exact(VC (Za (dy 4)));exact λ_ _ _ _ _ _=>Qq 0 (show List.Nodup (["_law_row"]:List Str)by decide+kernel);exact λ_ _ _ _ _ _=>Wt;exact λ_ _ _ _ _ _=>(J5 JP rfl T.b_len boot_len (dv 0));exact Sn;refine So ?_;refine Qk ?_ ?_ ?_;exact(dE hr (dx 4) (dr QM));refine Ss (O1:=[]) ?_ ?_;refine QT 2 nd ?_;refine J5 (RQ rfl) rfl T.b_max boot_max ?_;refine dr ?_;refine Q8 QX ?_ ?_;exact(dr (Jr (dn 2 Dz) Vg));refine dr ?_;refine Ve ?_;refine Vc rfl rfl (Yh (show YF (Qr T3) T9 _ 1 ["_law_item","_law_room"] [1]=true by decide+kernel)) (by decide) ?_ ?_ ?_ ?_;exact(VC (Za (dy 4)));exact λ_ _ _ _ _ _=>Qq 0 (show List.Nodup (["_law_item","_law_room"]:List Str)by decide+kernel);exact λ_ _ _ _ _ _=>(Uh (dE hr (dx 0) (dr QM)));exact λ_ _ _ _ _ _=>(Q8 QX (dr (Q8 QX (dr (J5 JP rfl T.b_len boot_len (dx 0))) (dv 1))) (dr (J5 JP rfl T.b_len boot_len (dx 0))));refine Ss (O1:=[]) ?_ ?_;refine QT 2 nd ?_;refine J5 (RQ rfl) rfl T.b_max boot_max ?_;refine dr ?_;refine Q8 QX ?_ ?_;exact(dr (Jr (dn 2 Dz) Vg));refine dr ?_;refine Ve ?_;refine Vc rfl rfl (Yh (show YF (Qr T3) T9 _ 1 ["_law_item"] []=true by decide+kernel)) (by decide) ?_ ?_ ?_ ?_;exact(VC (Za (dy 4)));exact λ_ _ _ _ _ _=>Qq 0 (show List.Nodup (["_law_item"]:List Str)by decide+kernel);exact λ_ _ _ _ _ _=>(Uh (dE hr (dx 0) (dr QM)));exact λ_ _ _ _ _ _=>(J5 JP rfl T.b_len boot_len (dx 0));refine Ss (O1:=[5]) ?_ ?_;refine Kq 5 nd rfl rfl (Yh (show YF (Qr T3) T9 _ 1 ["_law_item"] []=true by decide+kernel)) (by decide) ?_ ?_ ?_ ?_;exact(VC (Za (dy 4)));exact λ_ _ _ _ _ _=>Qq 0 (show List.Nodup (["_law_item"]:List Str)by decide+kernel);exact λ_ _ _ _ _ _=>(Uh (dE hr (dx 0) (dr QM)));exact λ_ _ _ _ _ _=>(dy 0);refine Ss (O1:=[5]) ?_ ?_;refine QT 3 nd ?_;refine J5 (RQ rfl) rfl T.b_max boot_max ?_;refine dr ?_;refine Q8 QX ?_ ?_;exact(dr (Jr (dn 3 Dz) Vg));refine dr ?_;refine Ve ?_;refine Vc rfl rfl (Yh (show YF (Qr T3) T9 _ 1 ["_law_rows"] []=true by decide+kernel)) (by decide) ?_ ?_ ?_ ?_;exact QcB 5;exact λ_ _ _ _ _ _=>Qq 0 (show List.Nodup (["_law_rows"]:List Str)by decide+kernel);exact λ_ _ _ _ _ _=>Wt;exact λ_ _ _ _ _ _=>(Q8 QX dq (dr (J5 JP rfl T.b_len boot_len (dv 0))));refine Vo 5 ?_;refine So ?_;refine Zx rfl PassesOwn.never ?_ ?_ ?_;exact(Za (Ql 5));exact Qq 6 nd;refine So ?_;refine QT 2 nd ?_;refine J5 (RQ rfl) rfl T.b_max boot_max ?_;refine dr ?_;refine Q8 QX ?_ ?_;exact(dr (Jr (dn 2 Dz) Vg));refine dr ?_;refine Ve ?_;refine Vc rfl rfl (Yh (show YF (Qr T3) T9 _ 1 ["_law_row"] []=true by decide+kernel)) (by decide) ?_ ?_ ?_ ?_;exact(VC (Za (Ql 6)));exact λ_ _ _ _ _ _=>Qq 0 (show List.Nodup (["_law_row"]:List Str)by decide+kernel);exact λ_ _ _ _ _ _=>Wt;exact λ_ _ _ _ _ _=>(J5 JP rfl T.b_len boot_len (dv 0));exact Sn;exact(So (QZ (JZ (dn 2 (dn 3 Dz)) YL)))))
def Qfk(h:Df K mg "_law_most" HG Ng)(T:Txt K mg):G4 P w K mg ab:=J4 Gs Ng LZ 0 h (λnd=>λhr=>(by refine Ss (O1:=[]) ?_ ?_;exact(QT 2 nd Qy);refine Ss (O1:=[]) ?_ ?_;refine Zx rfl PassesOwn.never ?_ ?_ ?_;exact(Za (Ql 0));exact Qq 3 nd;refine Ss (O1:=[]) ?_ ?_;exact(QT 2 nd (Q8 QX (dv 2) dq));refine Ss (O1:=[]) ?_ ?_;exact(Qk (PW.pt (UC (Zi (dv 1)) (VP (PW.pt (XG (dE hr (dx 3) (dr QM)) (VP (dE hr (dx 3) (dr QM)))))))) (So (QT 2 nd (Q8 QX (dv 2) dq))) Sn);refine Ss (O1:=[]) ?_ ?_;exact(Qk (dE hr (dx 3) (dr QM)) (So (QT 2 nd (Q8 QX (dv 2) (dx 3)))) Sn);refine So ?_;refine Qk ?_ ?_ ?_;exact(dE hr (dx 3) (dr QM));refine So ?_;refine QT 2 nd ?_;refine Q8 QX ?_ ?_;exact(dv 2);refine dr ?_;refine Q8 VG ?_ ?_;exact dq;refine dr ?_;refine J5 JP rfl T.b_len boot_len ?_;refine dr ?_;refine Ve ?_;refine Vc rfl rfl (Yh (show YF (Qr HG) Gs _ 1 ["_law_item"] []=true by decide+kernel)) (by decide) ?_ ?_ ?_ ?_;exact(VC (Za (dy 3)));exact λ_ _ _ _ _ _=>Qq 0 (show List.Nodup (["_law_item"]:List Str)by decide+kernel);exact λ_ _ _ _ _ _=>(Uh (PW.pt (XG (dE hr (dx 0) (dr QM)) (VP (dE hr (dx 0) (dr QM))))));exact λ_ _ _ _ _ _=>Ql 0;exact Sn;exact(So (QZ (Ql 2)))))
def Qff(h:Df K mg "_law_drawn" MP Na)(T:Txt K mg)(cw:Hz P w K mg ab)(ak:Mk P w K mg ab)(bV:G1 P w K mg ab)(bI:G2 P w K mg ab)(aF:RB P w K mg ab)(cq:G4 P w K mg ab)(b9:G5 P w K mg ab)(bH:G7 P w K mg ab):G0 P w K mg ab:=J4 L6 Na LV 2 h (λnd=>λhr=>(by refine Ss (O1:=[]) ?_ ?_;exact(QT 1 nd (Q8 QX (dr (Vd (dv 0) Vl (VO dq))) (dr (Jr (Dk Qy Dz) Vg))));refine Ss (O1:=[2]) ?_ ?_;refine Kq 2 nd rfl rfl (Yh (show YF (Qr MP) L6 _ 1 ["_law_k","_law_every"] [1]=true by decide+kernel)) (by decide) ?_ ?_ ?_ ?_;exact(VC (UB rfl T.b_range (dr (Q8 Js (dr (dc aF hr (Dl (dc ak hr (dn 0 (Dk Qy Dz))) (Dk Qy Dz)))) dq))));exact λ_ _ _ _ _ _=>Qq 0 (show List.Nodup (["_law_k","_law_every"]:List Str)by decide+kernel);exact λ_ _ _ _ _ _=>Wt;exact λ_ _ _ _ _ _=>(Qh (dv 1) (dr (Q8 Js (dv 0) (dr (J5 JP rfl T.b_len boot_len (dv 1))))));refine Vo 2 ?_;refine Ss (O1:=[]) ?_ ?_;refine QT 3 nd ?_;refine dc bI hr ?_;refine Dl ?_ ?_;refine dc bH hr ?_;refine OZ ?_ ?_;refine Ve ?_;refine Vc rfl rfl (Yh (show YF (Qr MP) L6 _ 2 ["_law_k","_law_cell"] []=true by decide+kernel)) (by decide) ?_ ?_ ?_ ?_;exact(VC (Od rfl T.b_enumerate (Ql 2)));exact λ_ _ _ _ _ _=>(W4 rfl (Z3 (O1:=[]) (Qq 0 (show List.Nodup (["_law_k","_law_cell"]:List Str)by decide+kernel)) (Z3 (O1:=[]) (Qq 1 (show List.Nodup (["_law_k","_law_cell"]:List Str)by decide+kernel)) W5)) rfl);exact λ_ _ _ _ _ _=>Wt;exact λ_ _ _ _ _ _=>(dc cw hr (dn 1 (dn 0 Dz)));exact(dn 2 Dz);exact Dz;refine Ss (O1:=[]) ?_ ?_;exact(QT 4 nd (VB (Xm hr.units) (dr (Q8 Js (dr (dc ak hr (dn 0 (Dk Qy Dz)))) dq)) dq (Zr _)));refine Ss (O1:=[]) ?_ ?_;exact(QT 5 nd (dc bV hr (dn 0 (Dt (JZ (Dk Qy (Dk Qy (Dk TM (dn 4 Dz)))) X1) Dz))));refine Ss (O1:=[]) ?_ ?_;exact(QT 6 nd (J5 JP rfl T.b_len boot_len (dr (Xc Ud rfl T.b_str boot_str (dr (dc cq hr (Db (Q8 QX (dv 5) (dv 3)) (dn 4 Dz))))))));refine Ss (O1:=[]) ?_ ?_;exact(Oe (dc b9 hr (Db (Q8 QX (dv 3) (dv 5)) (dn 6 Dz))) (W4 rfl (Z3 (O1:=[]) (Qq 7 nd) (Z3 (O1:=[]) (Qq 8 nd) W5)) rfl));refine Ss (O1:=[]) ?_ ?_;exact(Qk (dF hr (dv 5) (dr (Jr Dz YK))) (So (QT 7 nd (UA (U4 rfl) rfl T.b_max boot_max (dv 7) (dr (Q8 QX (dv 6) dq))))) Sn);refine Ss (O1:=[]) ?_ ?_;exact(QT 9 nd (UA (U4 rfl) rfl T.b_max boot_max (dv 7) (dr (Q8 QX dq (dr (Q8 Js (dr (dc aF hr (Dl (dc ak hr (dn 0 (Dk Qy Dz))) (Dk Qy Dz)))) dq))))));refine Ss (O1:=[]) ?_ ?_;exact(QT 10 nd (UA (U4 rfl) rfl T.b_max boot_max (dv 8) (dr (Q8 QX dq (dr (Q8 Js (dr (dc aF hr (Dl (dc ak hr (dn 0 (Dk Qy Dz))) (Dk Qy Dz)))) dq))))));refine Ss (O1:=[]) ?_ ?_;exact(Qk (dE hr (dr (Q8 Js (dr (dc ak hr (dn 0 (Dk Qy Dz)))) dq)) dq) (So (QT 10 nd (UA (U4 rfl) rfl T.b_max boot_max (dv 8) (dr (Q8 QX dq (dr (Q8 Js (dr (dc aF hr (Dl (dc ak hr (dn 0 (Dk Qy Dz))) (Dk Qy Dz)))) dq))))))) Sn);exact(Ss (O1:=[]) (QT 11 nd (JZ (dn 9 (dn 10 (Qcs (VB (Xm hr.units) (dr (Q8 Js (dr (dc ak hr (dn 0 (Dk Qy Dz)))) dq)) dq (Zr _)) (dn 4 Dz)))) X1)) (So (QZ (JZ (Db (Q8 QX (dr (dc bV hr (dn 0 (dn 11 Dz)))) (dv 3)) (dn 11 (dn 6 Dz))) Yr))))))
def Qfp(h:Df K mg "_law_titles" BA Nl)(T:Txt K mg):G9 P w K mg ab:=J4 Aw Nl Le 0 h (λnd=>λhr=>(by refine Ss (O1:=[2]) ?_ ?_;exact(Vn 2 nd (Wr Dz YK));refine Ss (O1:=[2]) ?_ ?_;refine Zx rfl PassesOwn.never ?_ ?_ ?_;exact(UB rfl T.b_range (dr (J5 JP rfl T.b_len boot_len (dv 0))));exact Qq 3 nd;refine So ?_;exact(Qk (PW.pt (XG (dE hr (dr (Qh (dr (Qh (dv 0) (dv 3))) dq)) (dr QM)) (VP (dE hr (dr (Qh (dr (Qh (dv 0) (dv 3))) dq)) (dr QM))))) (So (Vm 2 (by decide) (JZ (Du (Qh (dr (Qh (dv 0) (dv 3))) dq) (Du (Qh (dr (Qh (dr (Qh (dv 1) (dr (Q8 QX (dv 3) dq)))) dq)) dq) Dz)) YL))) Sn);exact(Vo 2 (So (QZ (Ql 2))))))
def sc_law:FnScope Gw CN (Qr MR):=by constructor<;>first|rfl|decide+kernel
def QfQ{f:Addr}{fd:FuncData}(h:Fun K "law" "law" MR f fd)(T:Txt K mg)(cc:G0 P w K mg ab)(bR:G9 P w K mg ab)(b8:GA P w K mg ab)(cB:GN P w K mg ab)(bE:Mt P w K mg ab)(bA:GS P w K mg ab):FnOk P w K mg ab V8 11 f fd ["_law_script"] (Qw K SN):=have nd:=sc_law.nd
 okF (b:=K2) (k:=10) (N:=Gw) (ps:=CN) (O':=[]) (OL:=[]) h sc_law λaA A ag s H E hr=>(by refine Ss (O1:=[]) ?_ ?_;refine Oe ?_ ?_;exact(dc cc hr (Db (Q8 QX (dr (Q8 QX (dr (Vd (dr (Q8 QX (dr (Vd (dv 0) Vl (VO dq))) (dr (Jr (Dk Qy (Dk Qy (Dk Qy Dz))) Yr)))) Vl (VO dq))) (dr (Jr (Dk Qy Dz) Vg)))) (dr (Vd (dv 0) (VO dq) Vl))) Dz));exact(W4 rfl (Z3 (O1:=[]) (Qq 1 nd) (Z3 (O1:=[]) (Qq 2 nd) (Z3 (O1:=[]) (Qq 3 nd) W5))) rfl);refine Ss (O1:=[]) ?_ ?_;exact(QT 4 nd (dc cB hr (dn 1 (dn 2 (Dl (dc bE hr (dn 1 (dn 2 Dz))) Dz)))));refine Ss (O1:=[]) ?_ ?_;exact(QT 5 nd (dc bR hr (dn 1 (dn 4 Dz))));refine Ss (O1:=[]) ?_ ?_;exact(Qk (dF hr (dr (J5 JP rfl T.b_len boot_len (dx 4))) (dr (J5 JP rfl T.b_len boot_len (dv 5)))) (So (QZ TM)) Sn);refine Ss (O1:=[6]) ?_ ?_;exact(Vn 6 nd OX);refine Ss (O1:=[6]) ?_ ?_;exact(Zx rfl PassesOwn.never (Za (dc bA hr (dn 1 (dn 2 Dz)))) (W4 rfl (Z3 (O1:=[6]) (Qq 7 nd) (Z3 (O1:=[6]) (Qq 8 nd) W5)) rfl) (So (Og 6 (by decide) hr.units1 (dv 7) (Ql 8))));refine Ss (O1:=[6]) ?_ ?_;refine Zx rfl PassesOwn.never ?_ ?_ ?_;exact(UB rfl T.b_range (dr (J5 JP rfl T.b_len boot_len (dv 5))));exact Qq 9 nd;refine Ss (O1:=[6]) ?_ ?_;exact(Oe (Qh (dx 4) (dv 9)) (W4 rfl (Z3 (O1:=[6]) (Qq 7 nd) (Z3 (O1:=[6]) (Qq 10 nd) (Z3 (O1:=[6]) (Qq 11 nd) W5))) rfl));refine Ss (O1:=[6]) ?_ ?_;exact(Oe (Qh (dv 5) (dv 9)) (W4 rfl (Z3 (O1:=[6]) (Qq 12 nd) (Z3 (O1:=[6]) (Qq 13 nd) W5)) rfl));refine Ss (O1:=[6]) ?_ ?_;exact(Qk (PW.pt (XG (Oi (Zi (dr (dc b8 hr (dn 13 Dz))))) (XG (EL hr.units1 (dv 7) (Wu 6)) (VP (dF hr (dv 11) dq))))) (So (QZ TM)) Sn);refine Ss (O1:=[6]) ?_ ?_;exact(QT 14 nd (Qh (dr (Oa hr.units1 (Wu 6) (dv 7))) (dv 10)));refine Ss (O1:=[6]) ?_ ?_;exact(QT 15 nd (Q8 VH (dr (Q8 VH (dr (Q8 VH (dx 2) (dr (J5 JP rfl T.b_len boot_len (dv 12))))) (dr (J5 JP rfl T.b_len boot_len (dr (Xc Ud rfl T.b_str boot_str (dv 13))))))) dq));refine Ss (O1:=[6]) ?_ ?_;refine Qk ?_ ?_ ?_;refine PW.pt ?_;refine XG ?_ ?_;exact(dF hr (dr (J5 JP rfl T.b_len boot_len (dv 14))) (dx 2));exact(XG (dF hr (dr (Vd (dv 14) Vl (VO (dr (J5 JP rfl T.b_len boot_len (dv 12)))))) (dv 12)) (VP (dF hr (dr (Vd (dv 14) (VO (dr (Q8 VH (dr (J5 JP rfl T.b_len boot_len (dv 14))) (dr (J5 JP rfl T.b_len boot_len (dr (Xc Ud rfl T.b_str boot_str (dv 13)))))))) Vl)) (dr (Xc Ud rfl T.b_str boot_str (dv 13))))));exact(So (QZ TM));exact Sn;refine So ?_;refine Qk ?_ ?_ ?_;refine PW.pt ?_;refine XG ?_ ?_;exact(Wv NY (dv 15) dq (Zr _));refine VP ?_;exact(dF hr (dr (Vd (dv 14) (VO (dr (J5 JP rfl T.b_len boot_len (dv 12)))) (VO (dr (Q8 VH (dr (J5 JP rfl T.b_len boot_len (dv 14))) (dr (J5 JP rfl T.b_len boot_len (dr (Xc Ud rfl T.b_str boot_str (dv 13)))))))))) (dr (Q8 QX (dr (Q8 QX (dr QM) (dr (Q8 VG (dr QM) (dv 15))))) (dr QM))));exact(So (QZ TM));exact Sn;exact(So (QZ TM)))
end
end
open PySem PySem.Spec PyProof.Rows L2 Wd
def walk{l:W.OpenLaw}{q:Program}{loose:List Str}{XP:(Str->Option Value)->Heap->Prop}{YP:World->Heap->Prop}{d:DefRec}{K:Params->W.Frag}(hn:l.most=some 63)(fE:d.params.defaults=[])(hY:∀(w:World)(h:Heap),YP w h->(K w.params).In h)(F:∀(w:World)(mg:Str->Option Value)(fa:Addr)(h:Heap),(K w.params).In h->h.Ns mainGlobals mg->mg d.name=some (.ref fa)->∃fd:FuncData,(∀(s:Shared)(u:Value),BindsTo s fd ⟨[u],[]⟩ [("_law_script",u)])/\∀ab:Heap,(K w.params).In ab->ab.Ns mainGlobals mg->FnOk l.prog w (K w.params) mg ab V8 11 fa fd ["_law_script"] (Qw (K w.params) SN)):W.WalkO q loose XP YP l.row.toRowW d [] λf vs=>PySem.call f vs:=L2.walk_of (n:=63) (k:=11) (x:="_law_script") (CX:=λ_=>V8) (sp:=λw=>Qw (K w.params) SN) hn (by decide) fE ⟨rfl,by decide,by decide⟩ hY F (λw H a ns hl _ hS=>Qek (K w.params) SN H a ns (Qel ns hl) hS) λ_ _ _ _ _ z=>z
end My
namespace Hd
open PySem PySem.W PySem.Calls PyProof.Rows My L2
theorem A1{tb:String->Option Builtin}{p:Program}{w:World}{n₀:Nat}{ann:Option Value}:∀{n:Nat}{s s':Shared}{t:Thread}{f:Flow}{c:Code}{q:Pos},segRun tb p w n₀ ann 0 n s t=some (f,s',c,q)->topRun tb p w n₀ ann n s t=some s'
 |0,_,_,_,_,_,_,h=>by cases h|n+1,s,s',t,f,c,q,h=>by
  unfold segRun at h;unfold topRun;have hz:(endAt 0 t).isSome=through t:=by
   obtain⟨cur,code,pos,st⟩:=t;cases st with
   |nil=>cases cur with|pure x=>cases x<;>rfl|_=>rfl
   |cons a b=>rfl
  cases he:endAt 0 t with
  |some g=>rw[he]at h hz;rw[<-hz];cases h;rfl|none=>rw[he]at h hz;rw[<-hz];cases hk:stepOk n₀ ann t with|false=>rw[hk]at h;cases h|true=>rw[hk]at h;cases hs:step (denote tb) p w s t with|halt o s₂=>rw[hs]at h;cases h|go s₂ t₂=>rw[hs]at h;exact A1 h
noncomputable def T0(P:Params):BT:=(boot_heap P).objs.toList.foldl (λx o=>(x.1.ins x.2 o,x.2+1)) (BT.nil,0)|>.1
noncomputable def Hf(w:World)(os:OsState):SharedT:=⟨T0 w.params,11,{},Array.mk [],boot_drawn,boot_toks,os⟩
def A5(w:World)(os:OsState):(Hf w os).abs=⟨boot_heap w.params,Array.mk [],boot_drawn,boot_toks,os⟩:=by kernel_rfl
noncomputable def runs(p:Program)(M:Nat)(w:World)(os:OsState):Option Shared:=(segRunT treeTable p w 11 (some (.ref 6)) 0 M (Hf w os) (topStub p)).map λr=>r.2.1.abs
noncomputable def chk(p:Program)(w:World)(s:Shared):Bool:=staticsOk (importedModules p.main.body) (boot_heap w.params) s.heap&&namesBound p s.heap&&gensDone s&&laidKept (boot_heap w.params) s.heap
def left{p q:Program}{loose:List Str}{Xt:Shared->Bool}{α:Type}{Yf:Shared->α}{Ya:World->α}{N:Nat}{g0:Bool}{M:Nat}(e:opening p=plainProg p.main.scope.names)(f:∀s,fenceModules? p s=some s)(hN:Nat.ble 600 N=true)(le:Nat.ble M N=true)(size:∀w:World,((boot_heap w.params).isNs mainGlobals,(boot_heap w.params).objs.size,(boot_heap w.params).nsMap mainGlobals "__annotations__")=(true,11,some (.ref 6)))(ra:∀(w:World)(os:OsState),(runs p M w os).map (chk p w)=some true)(rb:∀(w:World)(os:OsState),(runs p M w os).map (openSeen q loose (importedModules p.main.body) Xt g0)=some (openGood q loose))(rc:∀(w:World)(os:OsState),(runs p M w os).map Yf=some (Ya w)):LeftO p q loose Xt Yf Ya N g0:=λw=>by
 obtain⟨u,e1,e2⟩:=q_78.mp (boot_open e hN f w);obtain⟨v,r1,l1⟩:=q_78.mp (ra w u.os);obtain⟨⟨_,v',_⟩,r2,r3⟩:=q_78.mp r1;have l2:=rb w u.os;have l3:=rc w u.os;rw[r1]at l2 l3;have hu:u=(Hf w u.os).abs:=by
  rw[A5];cases u;cases e2;rfl
 have go:=topRun_mono (N-M) _ _ _ _ (A1 (segRun_of r2));rw[Nat.add_sub_of_le (Nat.le_of_ble_eq_true le)]at go;have t:topFrom treeTable p w N u=some v:=by
  have z:=size w;simp only[Prod.mk.injEq]at z;rw[hu];unfold topFrom;rw[A5]at go⊢;simp only[z.1,z.2.1,z.2.2,go];simp only[<-r3]at l1⊢;unfold chk at l1;simp[l1]
 simp only[openEnds,e1,ZU,t,WV];rw[Option.some.inj l2,Option.some.inj l3]
noncomputable abbrev p:=PySem.Challenge.pw_leastbook_k24_rows_of_contents
noncomputable section
noncomputable def IZ(s:Stmt):Str:=match s with|.FunctionDef n _ _ _ _ _ _ _ _ _=>n|_=>""
def Qhg(s:Stmt):Pos:=match s with|.FunctionDef _ _ _ _ _ _ _ _ _ p=>p|_=>⟨0,0,0,0⟩
noncomputable abbrev m0:Value:=.str "leastbook.places" 348
noncomputable abbrev m1:Value:=.str "leastbook.books" 470
noncomputable abbrev m2:Value:=.str "leastbook.setting" 634
noncomputable abbrev m3:Value:=.str "leastbook.least" 731
noncomputable abbrev m4:Value:=.str "leastbook.pages" 766
noncomputable abbrev m5:Value:=.str "law_leastbook_k24_rows_of_contents" 839
def tb:List (Nat×Nat×Nat×Nat×Nat×Value):=[(18,141,368,372,1),(19,148,375,379,1),(20,155,382,388,1),(21,162,391,397,1),(22,169,400,408,1),(23,176,411,423,1),(24,183,426,430,1),(25,190,433,442,1),(26,197,445,449,1),(27,204,452,458,1),(28,211,461,467,1)].map (λx=>(x.1,x.2.1,x.2.2.1,x.2.2.2.1,x.2.2.2.2,m0))++[(30,218,472,476,1),(31,225,479,483,1),(32,232,486,490,1),(33,239,493,497,1),(34,246,500,504,1),(35,251,507,510,0),(36,256,513,516,0),(37,261,519,522,0),(38,268,525,530,1),(39,273,533,536,0),(40,280,539,546,1),(41,287,549,555,1),(42,294,558,563,1),(43,301,566,571,1),(44,308,574,580,1),(45,315,583,591,1),(46,322,594,602,1),(47,327,605,608,0),(48,334,611,619,1),(49,341,622,631,1)].map (λx=>(x.1,x.2.1,x.2.2.1,x.2.2.2.1,x.2.2.2.2,m1))++[(51,348,636,645,1),(52,355,648,660,1),(53,362,663,669,1),(54,369,672,683,1),(55,376,686,695,1),(56,383,698,708,1),(57,390,711,719,1),(58,397,722,728,1)].map (λx=>(x.1,x.2.1,x.2.2.1,x.2.2.2.1,x.2.2.2.2,m2))++[(60,402,733,736,0),(61,409,739,747,1),(62,416,750,755,1),(63,423,758,763,1)].map (λx=>(x.1,x.2.1,x.2.2.1,x.2.2.2.1,x.2.2.2.2,m3))++[(65,430,768,773,1),(66,437,776,782,1),(67,444,785,794,1),(68,449,797,800,0),(69,456,803,810,1),(70,463,813,821,1),(71,470,824,830,1),(72,475,833,836,0)].map (λx=>(x.1,x.2.1,x.2.2.1,x.2.2.2.1,x.2.2.2.2,m4))++[(74,482,841,846,1),(75,489,849,853,1),(76,496,856,862,1),(77,503,865,870,1),(78,510,873,880,1),(79,517,883,894,1),(80,522,897,900,0),(81,529,903,913,1),(82,536,916,923,1),(83,541,926,929,0),(84,546,932,935,0),(85,551,938,941,0),(86,556,944,947,0),(87,563,950,957,1),(88,570,960,979,1)].map (λx=>(x.1,x.2.1,x.2.2.1,x.2.2.2.1,x.2.2.2.2,m5))
noncomputable def en(P:Params)(x:Str)(t:Nat)(v:Value):DictEntry:=⟨PyData.keyHash P x,.str x t,v⟩
def ns(P:Params):List DictEntry:=([en P "__name__" 165 (.str "law_leastbook_k24_rows_of_contents" 839),en P "__doc__" 166 (.none),en P "__package__" 167 (.none),en P "__loader__" 168 (.builtin "__main__.__loader__#opaque"),en P "__spec__" 169 (.none),en P "__annotations__" 170 (.ref 6),en P "__builtins__" 171 (.ref 4),en P "__file__" 173 (.str "/claim/cut.py" 172),en P "__cached__" 174 (.none),en P "BookError" 206 (.ref 24),en P "NoStyle" 222 (.ref 37),en P "TooWide" 247 (.ref 56),en P "TooHigh" 272 (.ref 75),en P "Twice" 297 (.ref 94),en P "Loose" 322 (.ref 113),en P "NoLabel" 347 (.ref 132),en P "WIDTH" 351 (.int 0 350),en P "HEIGHT" 353 (.int 1 352),en P "ODD" 355 (.int 2 354),en P "LISTED" 357 (.int 3 356),en P "PAGE" 359 (.int 0 358),en P "LINE" 361 (.int 1 360),en P "USED" 363 (.int 2 362),en P "FOOT" 365 (.int 3 364),en P "COLUMN" 367 (.int 2 366)])++(((tb.drop 0).take 66).map λr=>en P (IZ (Qp r.1)) (r.2.2.2.1+2) (.ref r.2.1))
def ob(r:Nat×Nat×Nat×Nat×Nat×Value):List (Nat×Obj):=let(i,f,t,u,b,m):=r
 let s:=Qp i
 let x:=IZ s
 let l:Value:=.int (Qhg s).line 0
 let c:Str:="/claim/cut.py"
 let n:Value:=.int 0 0
 [(f-1,⟨.type "code",none,.fields #[.str x t,.str x (t+1),.str c (t+2),l,.int (Ws s).args.length 0,n,n,.int 3 0,.ref (if b=1 then f-6 else f-4),.bool true,.int 181 0,.ref (if b=1 then f-5 else f-3),.none,if b=1 then .ref (f-4)else .none,if b=1 then .ref (f-3)else .none,.ref (f-2),.int u 0,l,.str c (u+1)],#[]⟩),(f,⟨.type "function",none,.func (fnOf x x (Ws s) (VN s) (Qr s) .none .none .none m none (.ref (f-1)) .none),#[]⟩)]
def K(P:Params):List (Nat×Obj):=(3,⟨.type "dict",none,.dict (ns P).toArray 91,#[]⟩)::tb.flatMap ob
noncomputable def as:List Nat:=3::tb.flatMap (λr=>[r.2.1-1,r.2.1])
def Qaz(P:Params):as=(K P).map (·.1):=by kernel_rfl
noncomputable abbrev rw_:=PySem.Challenge.rw_leastbook_k24_rows_of_contents.row
def vw:Program:=view p [88]
def ls:List Str:=(["BookError","NoStyle","TooWide","TooHigh","Twice","Loose","NoLabel","WIDTH","HEIGHT","ODD","LISTED","PAGE","LINE","USED","FOOT","COLUMN"]:List Str)++tb.dropLast.map λr=>IZ (Qp r.1)
def Xt(s:Shared):Bool:=xlAt vw [] s&&recOk (RowW.records rw_.toRowW) s
abbrev rn:=Hd.runs p 7622
def ha(w:World)(os:OsState):=(rn w os).map (Hd.chk p w)
def hb(w:World)(os:OsState):=(rn w os).map (openSeen vw ls (importedModules p.main.body) Xt true)
def hc(w:World)(os:OsState):=(rn w os).map λs=>as.map s.heap.get?
def wb:=some (openGood vw ls)
def wc(w:World):=some ((K w.params).map λp=>some p.2)
def ha_r:ha=ha:=rfl
def hb_r:hb=hb:=rfl
def hc_r:hc=hc:=rfl
def wb_r:wb=wb:=rfl
def wc_r:wc=wc:=rfl
end
section
variable{P:Params}{h:Heap}{mg:Str->Option Value}{x:Str}{st:Stmt}{ps:List Str}{y:Str}{fa:Addr}
abbrev fx(P:Params)(x:Str)(f:Nat):=(nsIn (K P) mainGlobals x,List.lookup f (K P),codeIn (K P) (.ref (f-1)) x,keepIn (K P) (.ref f))
abbrev fw(x:Str)(st:Stmt)(f:Nat)(m:Value):Option (Option Value)×Option Obj×Bool×Bool:=(some (some (.ref f)),some ⟨.type "function",none,.func (fnOf x x (Ws st) (VN st) (Qr st) .none .none .none m none (.ref (f-1)) .none),#[]⟩,true,true)
def dk(f:Nat)(m:Value)(X:Frag.In (K P) h)(G:h.Ns mainGlobals mg)(hb:∀(kV doc pm:Value)(an:Option Addr)(aA ct:Value)(us:List Value),us.length=ps.length->bindArgs (fnOf x x (Ws st) (VN st) (Qr st) .none kV doc pm an aA ct) ⟨us,[]⟩=pure (ps.zip us):=by intro _ _ _ _ _ _ us hl;rcases us with _|⟨_,_|⟨_,_|⟨_,_|⟨_,_|⟨_,_|⟨_,_⟩⟩⟩⟩⟩⟩<;>first|(exfalso;simp at hl;done)|rfl)(e:fx P x f=fw x st f m:=by kernel_rfl):Wd.Df (K P) mg x st ps:=by
 obtain⟨a,l,c,k⟩:_/\_/\_/\_:=by simpa only[Prod.mk.injEq]using e
 exact Wd.df_mk X G hb a l c k
def gk{i:Int}(t:Nat)(X:Frag.In (K P) h)(G:h.Ns mainGlobals mg)(a:nsIn (K P) mainGlobals x=some (some (.int i t)):=by kernel_rfl):∃t,mg x=some (.int i t):=Wd.gint_mk X G a ⟨_,rfl⟩
variable(X:Frag.In (K P) h)(G:h.Ns mainGlobals mg)
include X G
def QbH:Wd.Df (K P) mg "figures" BG PX:=dk 141 m0 X G
def QbE:Wd.Df (K P) mg "bare" BC PU:=dk 148 m0 X G
def QbL:Wd.Df (K P) mg "has_height" BI PY:=dk 155 m0 X G
def QbM:Wd.Df (K P) mg "has_width" BJ PZ:=dk 162 m0 X G
def Qcr:Wd.Df (K P) mg "word_at" Bq Pr:=dk 169 m0 X G
def Qcf:Wd.Df (K P) mg "put_word" Bg M5:=dk 176 m0 X G
def QbG:Wd.Df (K P) mg "end_line" BF PV:=dk 183 m0 X G
def Qcd:Wd.Df (K P) mg "put_block" Be M3:=dk 190 m0 X G
def Qb7:Wd.Df (K P) mg "new_page" Bc Pn:=dk 197 m0 X G
def Qb6:Wd.Df (K P) mg "new_chapter" Bb Nx:=dk 204 m0 X G
def Qce:Wd.Df (K P) mg "put_plates" Bf M4:=dk 211 m0 X G
def QbR:Wd.Df (K P) mg "is_style" BO Pd:=dk 218 m1 X G
def QbS:Wd.Df (K P) mg "is_titled" BP Pe:=dk 225 m1 X G
def QbQ:Wd.Df (K P) mg "is_set" BN Pc:=dk 232 m1 X G
def QbW:Wd.Df (K P) mg "label_of" BV Ph:=dk 239 m1 X G
def QbV:Wd.Df (K P) mg "items_of" BU Pg:=dk 246 m1 X G
def Qcg:Wd.Df (K P) mg "refs" HU M6:=dk 251 m1 X G
def Qcb:Wd.Df (K P) mg "pages_for" HS Si:=dk 256 m1 X G
def Qca:Wd.Df (K P) mg "pages_at_most" HR Sh:=dk 261 m1 X G
def Qch:Wd.Df (K P) mg "room_at_most" Bh Po:=dk 268 m1 X G
def QbD:Wd.Df (K P) mg "any_longer" HL Sg:=dk 273 m1 X G
def QbT:Wd.Df (K P) mg "is_wide_block" BQ Nt:=dk 280 m1 X G
def QbU:Wd.Df (K P) mg "is_wide_item" BR Pf:=dk 287 m1 X G
def QbO:Wd.Df (K P) mg "is_high_block" BL Pa:=dk 294 m1 X G
def QbP:Wd.Df (K P) mg "is_high_item" BM Pb:=dk 301 m1 X G
def QbA:Wd.Df (K P) mg "add_label" HI Tj:=dk 308 m1 X G
def Qb2:Wd.Df (K P) mg "look_at_block" HN Tn:=dk 315 m1 X G
def Qb3:Wd.Df (K P) mg "look_at_item" HP To:=dk 322 m1 X G
def Qb4:Wd.Df (K P) mg "look_at_items" MS Pl:=dk 327 m1 X G
def Qb5:Wd.Df (K P) mg "look_at_refs" Ba Nw:=dk 334 m1 X G
def Qb1:Wd.Df (K P) mg "look" BZ Nv:=dk 341 m1 X G
def Qcl:Wd.Df (K P) mg "set_contents" Bl M8:=dk 348 m2 X G
def Qcm:Wd.Df (K P) mg "set_items" Bm M9:=dk 355 m2 X G
def Qcj:Wd.Df (K P) mg "set_block" Bi Pp:=dk 362 m2 X G
def Qck:Wd.Df (K P) mg "set_book" Bj M7:=dk 369 m2 X G
def Qcc:Wd.Df (K P) mg "pages_with" Bd Nz:=dk 376 m2 X G
def QbX:Wd.Df (K P) mg "label_pages" BW Nu:=dk 383 m2 X G
def Qcq:Wd.Df (K P) mg "title_pages" Bp MC:=dk 390 m2 X G
def QbY:Wd.Df (K P) mg "laid" BX Pj:=dk 397 m2 X G
def QbI:Wd.Df (K P) mg "figures_told" HM Nq:=dk 402 m3 X G
def Qco:Wd.Df (K P) mg "settled" Bo MA:=dk 409 m3 X G
def Qb0:Wd.Df (K P) mg "least" BY Pk:=dk 416 m3 X G
def Qcn:Wd.Df (K P) mg "set_least" Bn Pq:=dk 423 m3 X G
def Qcp:Wd.Df (K P) mg "sheet_of" HV MB:=dk 430 m4 X G
def QbB:Wd.Df (K P) mg "add_lines" HJ PR:=dk 437 m4 X G
def QbC:Wd.Df (K P) mg "add_word" HK Nn:=dk 444 m4 X G
def Qbz:Wd.Df (K P) mg "add_items" MQ Nm:=dk 449 m4 X G
def Qby:Wd.Df (K P) mg "add_block" HH PQ:=dk 456 m4 X G
def QbF:Wd.Df (K P) mg "contents_row" BD Np:=dk 463 m4 X G
def QbJ:Wd.Df (K P) mg "filled" BH Nr:=dk 470 m4 X G
def Qb9:Wd.Df (K P) mg "page_rows" HQ Ny:=dk 475 m4 X G
def Qbl:Wd.Df (K P) mg "_law_cell_at" B3 PM:=dk 482 m5 X G
def Qbx:Wd.Df (K P) mg "_law_whole" BB PN:=dk 489 m5 X G
def Qbq:Wd.Df (K P) mg "_law_mix" B6 Nf:=dk 496 m5 X G
def Qbp:Wd.Df (K P) mg "_law_label" B5 Nd:=dk 503 m5 X G
def Qbt:Wd.Df (K P) mg "_law_plates" B7 Ni:=dk 510 m5 X G
def Qbv:Wd.Df (K P) mg "_law_signs" B9 Nk:=dk 517 m5 X G
def Qbk:Wd.Df (K P) mg "_law_atom" MO NZ:=dk 522 m5 X G
def Qbu:Wd.Df (K P) mg "_law_pointed" B8 Nj:=dk 529 m5 X G
def Qbo:Wd.Df (K P) mg "_law_grouped" B4 Nc:=dk 536 m5 X G
def Qbn:Wd.Df (K P) mg "_law_edge" HF Nb:=dk 541 m5 X G
def Qbs:Wd.Df (K P) mg "_law_needs" T3 Nh:=dk 546 m5 X G
def Qbr:Wd.Df (K P) mg "_law_most" HG Ng:=dk 551 m5 X G
def Qbm:Wd.Df (K P) mg "_law_drawn" MP Na:=dk 556 m5 X G
def Qbw:Wd.Df (K P) mg "_law_titles" BA Nl:=dk 563 m5 X G
def QbZ(hm:mg "law"=some (.ref fa)):∃fd,(∀(s:Shared)(u:Value),BindsTo s fd ⟨[u],[]⟩ [("_law_script",u)])/\L2.Fun (K P) "law" "law" MR fa fd:=by
 have e:fx P "law" 570=fw "law" MR 570 m5:=by kernel_rfl
 obtain⟨a,l,c,k⟩:_/\_/\_/\_:=by simpa only[Prod.mk.injEq]using e
 exact Wd.law_mk X G hm (λ_ _ _ _ _ _ u=>rfl) a l c k
def txt:Txt (K P) mg:=⟨gk 366 X G,gk 364 X G,gk 352 X G,gk 360 X G,gk 356 X G,gk 354 X G,gk 358 X G,gk 362 X G,gk 350 X G,mg_none_of X G (by kernel_rfl),mg_none_of X G (by kernel_rfl),mg_none_of X G (by kernel_rfl),mg_none_of X G (by kernel_rfl),mg_none_of X G (by kernel_rfl),mg_none_of X G (by kernel_rfl),mg_none_of X G (by kernel_rfl),mg_none_of X G (by kernel_rfl),mg_none_of X G (by kernel_rfl),mg_none_of X G (by kernel_rfl),mg_none_of X G (by kernel_rfl),trivial⟩
end
end Hd
open PySem PySem.W PyProof.Rows
name_quick haQ for Hd.ha by Hd.ha_r
name_quick hbQ for Hd.hb by Hd.hb_r
name_quick hcQ for Hd.hc by Hd.hc_r
name_quick wbQ for Hd.wb by Hd.wb_r
name_quick wcQ for Hd.wc by Hd.wc_r
namespace Hd
def oa(w:World)(os:OsState):Fast.haQ w os=some true:=by kernel_rfl
def oz(w:World)(os:OsState):Fast.hbQ w os=Fast.wbQ:=by kernel_rfl
def oc(w:World)(os:OsState):Fast.hcQ w os=Fast.wcQ w:=by kernel_rfl
def pa(w:World)(os:OsState):ha w os=some true:=by rw[Fast.haQ_eq];exact oa w os
def pb(w:World)(os:OsState):hb w os=wb:=by rw[Fast.hbQ_eq,Fast.wbQ_eq];exact oz w os
def pc(w:World)(os:OsState):hc w os=wc w:=by rw[Fast.hcQ_eq,Fast.wcQ_eq];exact oc w os
def hl:LeftO p vw ls Xt (λs=>as.map s.heap.get?) (λw=>(K w.params).map λp=>some p.2) 7622:=left (M:=7622) (by kernel_rfl) (λs=>by kernel_rfl) rfl rfl (λw=>by kernel_rfl) pa pb pc
end Hd
open Hd My
set_option maxRecDepth 100000 in set_option maxHeartbeats 0 in 
theorem PySem.Challenge.cw_leastbook_k24_rows_of_contents_holds : PySem.Challenge.rw_leastbook_k24_rows_of_contents.Holds := by
  w_on;o_law;refine holds_open (q:=vw) (loose:=ls) (Xt:=Hd.Xt) (XP:=XL vw []) (YP:=InK K) hl (InK.of Qaz) InK.keeps (λs e=>xl_of s (Bool.and_eq_true_iff.mp e).1) XL.keeps rfl rfl rfl (λs e=>recFacts_of (Bool.and_eq_true_iff.mp e).2) rfl ‹_› (by decide+kernel) ⟨rfl,rfl,rfl,rfl,rfl,by decide+kernel⟩ ?hw ?hc;case hw=>w_witness2
  refine My.walk (l:=PySem.Challenge.rw_leastbook_k24_rows_of_contents) rfl rfl (λw h Y=>Y) ?F;intro w mg fa h X G fB;have T:=txt X G;obtain⟨fd,hb,F⟩:=QbZ X G fB;refine⟨fd,hb,λb kb nb=>?_⟩;have aS:=QfA (P:=p) (w:=w) (ab:=b) (QbH X G) T;have aE:=Qfx (P:=p) (w:=w) (ab:=b) (QbE X G) T;have aw:=QfD (P:=p) (w:=w) (ab:=b) (QbL X G) T;have bB:=QfE (P:=p) (w:=w) (ab:=b) (QbM X G) T;have bh:=Qgg (P:=p) (w:=w) (ab:=b) (Qcr X G) T;have bo:=Qf5 (P:=p) (w:=w) (ab:=b) (Qcf X G) T aw bB bh;have aL:=Qfz (P:=p) (w:=w) (ab:=b) (QbG X G) T;have au:=Qf3 (P:=p) (w:=w) (ab:=b) (Qcd X G) T aE aL aw;have aK:=QfY (P:=p) (w:=w) (ab:=b) (Qb7 X G) T aE;have ax:=QfX (P:=p) (w:=w) (ab:=b) (Qb6 X G) T aE aK;have bq:=Qf4 (P:=p) (w:=w) (ab:=b) (Qce X G) T aE aK;have bG:=QfI (P:=p) (w:=w) (ab:=b) (QbR X G) T;have aj:=QfJ (P:=p) (w:=w) (ab:=b) (QbS X G) T;have aq:=QfH (P:=p) (w:=w) (ab:=b) (QbQ X G) T;have aB:=QfN (P:=p) (w:=w) (ab:=b) (QbW X G) T;have ao:=QfM (P:=p) (w:=w) (ab:=b) (QbV X G) T;have aM:=Qf6 (P:=p) (w:=w) (ab:=b) (Qcg X G) T ao;have bz:=Qf1 (P:=p) (w:=w) (ab:=b) (Qcb X G) T aq aj ao;have aN:=Qf0 (P:=p) (w:=w) (ab:=b) (Qca X G) T bz;have aV:=Qf7 (P:=p) (w:=w) (ab:=b) (Qch X G) T aS aN;have aD:=Qfw (P:=p) (w:=w) (ab:=b) (QbD X G) T;have aQ:=QfK (P:=p) (w:=w) (ab:=b) (QbT X G) T aD aj;have aY:=QfL (P:=p) (w:=w) (ab:=b) (QbU X G) T aD;have aR:=QfF (P:=p) (w:=w) (ab:=b) (QbO X G) T;have aZ:=QfG (P:=p) (w:=w) (ab:=b) (QbP X G) T;have aG:=Qft (P:=p) (w:=w) (ab:=b) (QbA X G) T;have aP:=QfT (P:=p) (w:=w) (ab:=b) (Qb2 X G) T aG aR aQ aB;have aX:=QfU (P:=p) (w:=w) (ab:=b) (Qb3 X G) T aG aZ aY;have aO:=QfV (P:=p) (w:=w) (ab:=b) (Qb4 X G) T aq aX;have aW:=QfW (P:=p) (w:=w) (ab:=b) (Qb5 X G) T aM;have bP:=QfS (P:=p) (w:=w) (ab:=b) (Qb1 X G) T bG ao aP aO aW aV;have aU:=Qga (P:=p) (w:=w) (ab:=b) (Qcl X G) T aE aj ax au;have bw:=Qgb (P:=p) (w:=w) (ab:=b) (Qcm X G) T aL aq bo;have bx:=Qf8 (P:=p) (w:=w) (ab:=b) (Qcj X G) T ax au bq;have av:=Qf9 (P:=p) (w:=w) (ab:=b) (Qck X G) T aM bx aU bw;have br:=Qf2 (P:=p) (w:=w) (ab:=b) (Qcc X G) T aq;have az:=QfO (P:=p) (w:=w) (ab:=b) (QbX X G) T ao aB br;have bg:=Qgf (P:=p) (w:=w) (ab:=b) (Qcq X G) T aj;have cB:=QfP (P:=p) (w:=w) (ab:=b) (QbY X G) T bP av;have aH:=QfB (P:=p) (w:=w) (ab:=b) (QbI X G) T aS az aM av;have bQ:=Qgd (P:=p) (w:=w) (ab:=b) (Qco X G) T aH;have bE:=QfR (P:=p) (w:=w) (ab:=b) (Qb0 X G) T bP aM bQ;have bu:=Qgc (P:=p) (w:=w) (ab:=b) (Qcn X G) T bE av;have aJ:=Qge (P:=p) (w:=w) (ab:=b) (Qcp X G) T;have aC:=Qfu (P:=p) (w:=w) (ab:=b) (QbB X G) T aJ;have bp:=Qfv (P:=p) (w:=w) (ab:=b) (QbC X G) T aJ;have bC:=Qfs (P:=p) (w:=w) (ab:=b) (Qbz X G) T bp aq;have bD:=Qfr (P:=p) (w:=w) (ab:=b) (Qby X G) T bC aC;have bc:=Qfy (P:=p) (w:=w) (ab:=b) (QbF X G) T;have b7:=QfC (P:=p) (w:=w) (ab:=b) (QbJ X G) T;have bA:=QfZ (P:=p) (w:=w) (ab:=b) (Qb9 X G) T bD aC bc b7 az bu bg;have ak:=Qfe (P:=p) (w:=w) (ab:=b) (Qbl X G) T;have b8:=Qfq (P:=p) (w:=w) (ab:=b) (Qbx X G) T;have aF:=Qfj (P:=p) (w:=w) (ab:=b) (Qbq X G) T;have cb:=Qfi (P:=p) (w:=w) (ab:=b) (Qbp X G) T;have bS:=Qfm (P:=p) (w:=w) (ab:=b) (Qbt X G) T;have bt:=Qfo (P:=p) (w:=w) (ab:=b) (Qbv X G) T;have cw:=Qfd (P:=p) (w:=w) (ab:=b) (Qbk X G) T cb aF bS bt;have bH:=Qfn (P:=p) (w:=w) (ab:=b) (Qbu X G) T aF;have bI:=Qfh (P:=p) (w:=w) (ab:=b) (Qbo X G) T;have bV:=Qfg (P:=p) (w:=w) (ab:=b) (Qbn X G) T ak aF;have b9:=Qfl (P:=p) (w:=w) (ab:=b) (Qbs X G) T;have cq:=Qfk (P:=p) (w:=w) (ab:=b) (Qbr X G) T;have cc:=Qff (P:=p) (w:=w) (ab:=b) (Qbm X G) T cw ak bV bI aF cq b9 bH;have bR:=Qfp (P:=p) (w:=w) (ab:=b) (Qbw X G) T;exact QfQ F T cc bR b8 cB bE bA
#print axioms PySem.Challenge.cw_leastbook_k24_rows_of_contents_holds
