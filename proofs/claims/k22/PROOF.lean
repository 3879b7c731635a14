import PyProof.Rows.All
import Wide.All
import OpenK.AllK
import Wide.FinOn
import Lean
import PyProof.EqAt
import PyProof.EqKinds
import PyProof.TupleCall
import PyProof.NeKinds
import PyProof.ZipIter
import KE.KDictList
import KE.KItemsList
import KE.KSortTup
import KE.KDictLaws
import PySem.Challenge.RW_leastbook_k22_words_on_lines
set_option maxHeartbeats 4000000
set_option compiler.extract_closed false
set_option Elab.async false
set_option linter.all false
set_option maxRecDepth 100000
abbrev Qg:=@List.length_append
abbrev q_1:=@List.mem_singleton
abbrev Qk:=@List.getElem?_eq_getElem
abbrev Qm:=@List.length_map
abbrev Qx:=@Nat.le_refl
abbrev q_5:=@List.mem_cons
abbrev JF:=@decide_eq_false
abbrev q_7:=@List.mem_append
abbrev JH:=@List.mem_cons_of_mem
abbrev JN:=@List.mem_cons_self
abbrev JM:=@List.length_cons
abbrev JW:=@Int.le_refl
abbrev Ja:=@List.size_toArray
abbrev Jf:=@decide_eq_true
abbrev ZA:=@Option.bind_some
abbrev ZP:=@Nat.le_trans
abbrev ZQ:=@List.map_cons
abbrev ZW:=@Int.le_trans
abbrev ZX:=@List.take_length
abbrev ZY:=@List.getElem_mem
abbrev q_20:=@List.mem_map
abbrev Zi:=@List.flatMap_cons
abbrev q_22:=@List.getElem?_eq_some_iff
abbrev Zp:=@List.append_nil
abbrev Zq:=@List.foldl_cons
abbrev Zr:=@List.map_append
abbrev Y3:=@Nat.ne_of_lt
abbrev Y4:=@List.not_mem_nil
abbrev YF:=@List.mem_append_right
abbrev YG:=@List.length_take
abbrev YH:=@List.getElem?_append_left
abbrev YI:=@List.flatMap_append
abbrev YJ:=@Int.lt_succ
abbrev YU:=@List.getD_eq_getElem?_getD
abbrev Yb:=@List.getElem?_map
abbrev Yo:=@List.mem_of_getElem?
abbrev V0:=@List.mem_append_left
abbrev V1:=@Nat.lt_or_ge
abbrev VE:=@Nat.lt_of_lt_of_le
abbrev VF:=@List.append_assoc
abbrev Vk:=@List.getElem?_append_right
abbrev W0:=@Bool.false_ne_true
abbrev W3:=@List.length_set
abbrev W4:=@List.getElem?_cons_succ
abbrev W5:=@List.map_map
abbrev q_45:=@List.mem_filter
abbrev q_46:=@List.nodup_cons
abbrev WT:=@List.of_mem_zip
abbrev WU:=@List.length_nil
abbrev WV:=@Nat.zero_le
abbrev WX:=@Option.map_some
abbrev WY:=@List.length_zip
abbrev q_52:=@List.mem_flatMap
abbrev X0:=@List.lookup_cons
abbrev X1:=@List.getElem?_cons_zero
abbrev X2:=@Option.join_some
abbrev XQ:=@List.getElem?_eq_none
abbrev XR:=@Int.emod_nonneg
abbrev Xs:=@Bool.and_eq_true
abbrev Xu:=@Int.emod_lt_of_pos
abbrev Xv:=@List.take_succ_eq_append_getElem
abbrev Xw:=@Int.add_le_add_right
abbrev UN:=@List.replicate_succ
abbrev q_63:=@List.nodup_append
abbrev UO:=@Int.lt_trans
abbrev UP:=@Int.add_lt_add_right
abbrev Uq:=@List.getElem?_set_ne
abbrev Ur:=@List.zip_cons_cons
abbrev Us:=@List.getElem?_set
abbrev Ut:=@List.length_filter_le
abbrev Tq:=@List.flatten_cons
abbrev Tr:=@List.getElem_of_mem
abbrev Ts:=@List.foldl_append
abbrev Tt:=@Int.lt_or_eq_of_le
abbrev RA:=@List.getElem?_replicate
abbrev RB:=@List.length_replicate
abbrev RC:=@List.length_singleton
abbrev RD:=@List.drop_eq_getElem_cons
abbrev RE:=@List.take_append_drop
abbrev RF:=@Int.le_of_eq
abbrev RG:=@Int.le_of_lt
abbrev Oh:=@Array.length_toList
abbrev q_82:=@Option.map_eq_some_iff
abbrev Oi:=@List.drop_eq_nil_of_le
abbrev Oj:=@Nat.length_toDigits_le_iff
abbrev Ol:=@List.take_append_getElem
abbrev Mn:=@List.getElem?_concat_length
abbrev Hw:=@Array.getElem?_eq_getElem
open List(filterMap_cons take_sublist length_drop map_nil all_cons any_cons nil_append find?_cons drop_zero length_range getElem_zip filter_cons sum_cons any_eq_true take_zero)
open Nat(lt_irrefl le_of_lt ne_of_gt le_of_eq lt_trans min_self succ_le_succ le_succ zero_add lt_succ_of_lt le_add_right sub_self lt_of_le_of_lt)
open Int(le_antisymm add_zero add_le_add)
open Option(getD_none isSome_map)
noncomputable section
namespace L2
open PySem PySem.Spec PyProof.Rows
abbrev JC:=Sum Int Str
noncomputable def Td:JC->Value->Bool|.inl k,v=>Value.isInt k v|.inr x,v=>Value.isStrOf x v
noncomputable def QeY(w:World):JC->Int|.inl k=>hashInt k|.inr x=>hashStr w x
def Xl:∀{k:JC}{v:Value},Td k v=true->(∃i t,k=Sum.inl i/\v=Value.int i t)\/∃x t,k=Sum.inr x/\v=Value.str x t|.inl i,v,h=>by obtain⟨t,e⟩:=Value.isInt_shape (k:=i) (v:=v) h;exact .inl ⟨i,t,rfl,e⟩|.inr x,v,h=>by obtain⟨t,e⟩:=Value.isStrOf_shape (x:=x) (v:=v) h;exact .inr ⟨x,t,rfl,e⟩
def QeZ(i:Int)(t:Tok):Td (.inl i) (.int i t)=true:=by simp[Td,Value.isInt]
def Qe0(x:Str)(t:Tok):Td (.inr x) (.str x t)=true:=by simp[Td,Value.isStrOf]
def Qe1(a b:Int):decide ((Sum.inl a:JC)=Sum.inl b)=(a==b):=by
 by_cases e:a=b;·subst e;simp
 ·have h:¬(Sum.inl a:JC)=Sum.inl b:=λq=>e (Sum.inl.inj q);rw[JF h];exact(beq_eq_false_iff_ne.mpr e).symm
def Qe4(a b:Str):decide ((Sum.inr a:JC)=Sum.inr b)=decide (a=b):=by
 by_cases e:a=b;·subst e;simp
 ·have h:¬(Sum.inr a:JC)=Sum.inr b:=λq=>e (Sum.inr.inj q);rw[JF h,JF e]
def Qe2(a:Int)(b:Str):decide ((Sum.inl a:JC)=Sum.inr b)=false:=JF λq=>nomatch q
def Qe3(a:Str)(b:Int):decide ((Sum.inr a:JC)=Sum.inl b)=false:=JF λq=>nomatch q
def YY(prog:Program)(w:World):PySem.KeyKind prog w JC where
 is:=Td
 hash:=QeY w
 inj:=λv a b ha hb=>by
  rcases Xl ha with⟨i,t,rfl,rfl⟩|⟨x,t,rfl,rfl⟩
  ·rcases Xl hb with⟨j,u,rfl,e⟩|⟨y,u,rfl,e⟩;·injection e with e1 _;rw[e1]
   ·exact nomatch e
  ·rcases Xl hb with⟨j,u,rfl,e⟩|⟨y,u,rfl,e⟩;·exact nomatch e
   ·injection e with e1 _;rw[e1]
 byValue:=λk v h=>by rcases Xl h with⟨i,t,rfl,rfl⟩|⟨x,t,rfl,rfl⟩<;>rfl
 pyHash:=λhv h=>by
  rcases Xl hv with⟨i,t,rfl,rfl⟩|⟨x,t,rfl,rfl⟩;·exact wpAny_pyHash_int h
  ·exact wpAny_pyHash_str h
 eqBool:=λhu hv h=>by
  rcases Xl hu with⟨i,t,rfl,rfl⟩|⟨x,t,rfl,rfl⟩
  ·rcases Xl hv with⟨j,u,rfl,rfl⟩|⟨y,u,rfl,rfl⟩;·rw[Qe1]at h;exact wpAny_eqBool_int h
   ·rw[Qe2]at h;exact SeqAt.EqAt.int_str i t y u _ _ _ _ h
  ·rcases Xl hv with⟨j,u,rfl,rfl⟩|⟨y,u,rfl,rfl⟩;·rw[Qe3]at h;exact SeqAt.EqAt.str_int x t j u _ _ _ _ h
   ·rw[Qe4]at h;exact wpAny_eqBool_str h
 «strs»:=λk x t v h=>by
  rcases Xl h with⟨i,u,rfl,e⟩|⟨y,u,rfl,e⟩;·exact nomatch e
  ·injection e with e1 _;subst e1;cases v<;>rfl
def QfJ(prog:Program)(w:World)(i:Int)(t:Tok):(YY prog w).is (.inl i) (.int i t)=true:=QeZ i t
def QfK(prog:Program)(w:World)(x:Str)(t:Tok):(YY prog w).is (.inr x) (.str x t)=true:=Qe0 x t
inductive V where|non|bl(b:Bool)|int(i:Int)|str(x:Str)|byt(b:Array UInt8)|flt(b:UInt64)|ref(a:Addr)|ty(n:String)deriving DecidableEq
noncomputable def RelV:V->Value->Prop|.non,u=>u=Value.none|.bl b,u=>u=Value.bool b|.int i,u=>∃t,u=Value.int i t|.str x,u=>∃t,u=Value.str x t|.byt b,u=>∃t,u=Value.bytes b t|.flt b,u=>∃t,u=Value.float b t|.ref a,u=>u=Value.ref a|.ty n,u=>u=Value.type n
abbrev Vals:List V->List Value->Prop:=Paired RelV
theorem Vals.length{xs:List V}{us:List Value}(r:Vals xs us):xs.length=us.length:=Paired.length r
theorem Vals.get:∀{xs:List V}{us:List Value}{i:Nat}{x:V},Vals xs us->xs[i]?=some x->∃u,us[i]?=some u/\RelV x u|_,_,_,_,.nil,e=>by simp at e|_,_,0,_,.cons r _,e=>by simp at e;subst e;exact⟨_,rfl,r⟩|_,_,i+1,x,.cons _ t,e=>by obtain⟨u,h1,h2⟩:=Vals.get (i:=i) (x:=x) t (by simpa using e);exact⟨u,by simpa using h1,h2⟩
theorem Vals.set{x:V}{u:Value}(r:RelV x u):∀{xs:List V}{us:List Value}(i:Nat),Vals xs us->Vals (xs.set i x) (us.set i u)|_,_,_,.nil=>.nil|_,_,0,.cons _ t=>.cons r t|_,_,i+1,.cons q t=>.cons q (Vals.set r i t)
theorem Vals.append:∀{xs ys:List V}{us ws:List Value},Vals xs us->Vals ys ws->Vals (xs++ys) (us++ws)|_,_,_,_,.nil,s=>s|_,_,_,_,.cons r t,s=>.cons r (Vals.append t s)
theorem Vals.take:∀{xs:List V}{us:List Value}(n:Nat),Vals xs us->Vals (xs.take n) (us.take n)|_,_,0,_=>.nil|_,_,_+1,.nil=>.nil|_,_,n+1,.cons r t=>.cons r (Vals.take n t)
theorem Vals.drop:∀{xs:List V}{us:List Value}(n:Nat),Vals xs us->Vals (xs.drop n) (us.drop n)|_,_,0,r=>r|_,_,_+1,.nil=>.nil|_,_,n+1,.cons _ t=>Vals.drop n t
def RelO:Option V->Option Value->Prop|some v,some u=>RelV v u|none,none=>True|_,_=>False
def KV{κ:Type}:List (κ×V)->List (κ×Value)->Prop:=Paired λ(p:κ×V)(q:κ×Value)=>p.1=q.1/\RelV p.2 q.2
noncomputable def kV:JC->V|.inl i=>.int i|.inr x=>.str x
inductive HO where|lst(xs:List V)|tup(xs:List V)|dK(ah:List (JC×V))|dT(ah:List (List JC×V))|set(S:Int->Bool)(n:Nat)|ins(C dx:Addr)(fs:List (Str×V))|own(x:Addr)|xd(fs:List (Str×V))|met(f x:Addr)|rng(lo hi:Int)|frz(o:Obj)(u:HO)|tbl(ps:Array Value)|ext(φ:Heap->Prop)
abbrev Hp:=Addr->Option HO
noncomputable def upd(H:Hp)(a:Addr)(o:HO):Hp:=λb=>if b=a then some o else H b
def Jq{H:Hp}{a:Addr}{o:HO}:upd H a o a=some o:=by unfold upd;rw[if_pos rfl]
def Qn{H:Hp}{a b:Addr}{o:HO}(h:b≠a):upd H a o b=H b:=by unfold upd;rw[if_neg h]
def QfZ{H:Hp}{a b:Addr}{o u:HO}(h:H a=some o)(h':H b=some u)(d:o≠u):a≠b:=by intro e;subst e;rw[h]at h';exact d (Option.some.inj h')
def WQ{H:Hp}{a b:Addr}{o:HO}(h:H a=some o)(h':H b=none):a≠b:=by intro e;subst e;rw[h]at h';cases h'
section
variable(P:Program)(w:World)
def ObjOk(H:Hp)(h:Heap)(a:Addr):HO->Prop|.lst xs=>xs.length<=sizeLine/\∃(its:List Value)(n:Nat),Vals xs its/\h.get? a=some {cls:=.type "list",data:=.seq its.toArray n}|.tup xs=>xs.length<=sizeLine/\∃its:List Value,Vals xs its/\IsTup h a its.toArray|.dK ah=>ah.length<=sizeLine/\(a==sysModules)=false/\∃vs,KV ah vs/\h.DictOf (YY P w) a vs|.dT ah=>ah.length<=sizeLine/\(a==sysModules)=false/\∃xs:List (List JC×Addr×Value),Paired (λ(p:List JC×V)(q:List JC×Addr×Value)=>p.1=q.1/\H q.2.1=some (.tup (p.1.map kV))/\RelV p.2 q.2.2) ah xs/\∃o es ep,h.get? a=some o/\o.ExactDict/\o.data=.dict es ep/\es.toList=xs.map (entryOfKey (tupleKind (YY P w)))/\(xs.map (·.1)).Nodup|.set S n=>h.SetOf (intKind P w) a S n|.ins C dx fs=>H dx=some (.own a)/\fs.length<=1000/\dx≠a/\h.get? a=some (W.instObj C dx)/\∃mA,h.Ns1 dx mA/\(∀f,RelO (fs.lookup f) (mA f))/\PySem.Within mA (fs.map (·.1))|.own _=>∃o,h.get? a=some o|.xd fs=>∃mA,h.Ns1 a mA/\∀f,RelO (fs.lookup f) (mA f)|.rng lo hi=>∃t u v,h.get? a=some {cls:=.type "range",data:=.fields #[.int lo t,.int hi u,.int 1 v]}|.frz o u=>h.get? a=some o/\ObjOk H h a u|.tbl ps=>h.get? a=some {cls:=.none,data:=.fields ps}|.met f x=>h.get? a=some (W.methodObj (.ref f) (.ref x))|.ext φ=>φ h/\(∃o,h.get? a=some o)/\∀h1 h2:Heap,φ h1->(∀o,h1.get? a=some o->h2.get? a=some o)->φ h2
def HOk(H:Hp)(h:Heap):Prop:=∀a o,H a=some o->ObjOk P w H h a o
end
section
variable{P:Program}{w:World}{H H':Hp}{h h':Heap}{a:Addr}{o:HO}
theorem ObjOk.lt(x:ObjOk P w H h a o):a<h.objs.size:=by cases o with|lst xs=>obtain⟨_,_,_,_,e⟩:=x;exact Heap.lt_size e|tup xs=>obtain⟨_,_,_,p⟩:=x;exact p.lt|dK ah=>obtain⟨_,_,_,_,o,_,_,e,_⟩:=x;exact Heap.lt_size e|dT ah=>obtain⟨_,_,_,_,o,_,_,e,_⟩:=x;exact Heap.lt_size e|set S n=>obtain⟨o,_,_,_,e,_⟩:=x;exact Heap.lt_size e|ins C dx fs=>obtain⟨_,_,_,e,_⟩:=x;exact Heap.lt_size e|own y=>obtain⟨_,e⟩:=x;exact Heap.lt_size e|xd fs=>obtain⟨_,⟨_,_,_,e,_⟩,_⟩:=x;exact Heap.lt_size e|rng lo hi=>obtain⟨_,_,_,e⟩:=x;exact Heap.lt_size e|frz ob u=>obtain⟨e,_⟩:=x;exact Heap.lt_size e|tbl ps=>exact Heap.lt_size (show h.get? a=some _ from x)|met f y=>exact Heap.lt_size (show h.get? a=some _ from x)|ext φ=>obtain⟨_,⟨_,e⟩,_⟩:=x;exact Heap.lt_size e
theorem Paired.mapP{α β:Type}{F G:α->β->Prop}:∀{l₁:List α}{l₂:List β},Paired F l₁ l₂->(∀a b,F a b->G a b)->Paired G l₁ l₂|_,_,.nil,_=>.nil|_,_,.cons r t,f=>.cons (f _ _ r) (Paired.mapP t f)
def ObjOk.stay(x:ObjOk P w H h a o)(k:∀b u,(b=a\/H b=some (.own a))->h.get? b=some u->h'.get? b=some u)(ho:∀b,H b=some (.own a)->H' b=some (.own a))(ht:∀b xs,H b=some (.tup xs)->H' b=some (.tup xs)):ObjOk P w H' h' a o:=by induction o with|lst xs=>obtain⟨z,its,n,r,e⟩:=x;exact⟨z,its,n,r,k _ _ (.inl rfl) e⟩|tup xs=>obtain⟨z,its,r,ob,e,c⟩:=x;exact⟨z,its,r,ob,k _ _ (.inl rfl) e,c⟩|dK ah=>obtain⟨z,y,vs,r,ob,es,ep,e,c⟩:=x;exact⟨z,y,vs,r,ob,es,ep,k _ _ (.inl rfl) e,c⟩|dT ah=>obtain⟨z,y,xs,r,ob,es,ep,e,c⟩:=x;exact⟨z,y,xs,Paired.mapP r λp q z=>⟨z.1,ht _ _ z.2.1,z.2.2⟩,ob,es,ep,k _ _ (.inl rfl) e,c⟩|set S n=>obtain⟨ob,es,ep,t,e,c⟩:=x;exact⟨ob,es,ep,t,k _ _ (.inl rfl) e,c⟩|ins C dx fs=>obtain⟨d,z,ne,e,mA,⟨od,es,ep,e2,c⟩,r⟩:=x;exact⟨ho _ d,z,ne,k _ _ (.inl rfl) e,mA,⟨od,es,ep,k _ _ (.inr d) e2,c⟩,r⟩|own y=>obtain⟨ob,e⟩:=x;exact⟨ob,k _ _ (.inl rfl) e⟩|xd fs=>obtain⟨mA,⟨od,es,ep,e,c⟩,r⟩:=x;exact⟨mA,⟨od,es,ep,k _ _ (.inl rfl) e,c⟩,r⟩|rng lo hi=>obtain⟨t,u,v,e⟩:=x;exact⟨t,u,v,k _ _ (.inl rfl) e⟩|frz ob u ih=>obtain⟨e,q⟩:=x;exact⟨k _ _ (.inl rfl) e,ih q⟩|tbl ps=>have e:h.get? a=some {cls:=.none,data:=.fields ps}:=x;show h'.get? a=some {cls:=.none,data:=.fields ps};exact k a _ (.inl rfl) e|met f y=>have e:h.get? a=some (W.methodObj (.ref f) (.ref y)):=x;show h'.get? a=some (W.methodObj (.ref f) (.ref y));exact k a _ (.inl rfl) e|ext φ=>obtain⟨p,⟨o,e⟩,st⟩:=x;exact⟨st _ _ p λo q=>k _ _ (.inl rfl) q,⟨o,k _ _ (.inl rfl) e⟩,st⟩
theorem HOk.lt(x:HOk P w H h)(e:H a=some o):a<h.objs.size:=(x a o e).lt
def HOk.fresh(x:HOk P w H h)(e:h.objs.size<=a):H a=none:=by cases q:H a with|none=>rfl|some u=>exact absurd (VE (x.lt q) e) (lt_irrefl _)
def HOk.kept(x:HOk P w H h)(k:∀b u,h.get? b=some u->h'.get? b=some u):HOk P w H h':=λa o e=>(x a o e).stay (λb u _ q=>k b u q) (λ_ q=>q) λ_ _ q=>q
def HOk.laid(x:HOk P w H h)(k:∀b u,h.get? b=some u->h'.get? b=some u)(hp:h.objs.size<=a)(new:ObjOk P w (upd H a o) h' a o):HOk P w (upd H a o) h':=λb u e=>by
 have hn:=x.fresh hp;by_cases hb:b=a;·subst hb;rw[Jq]at e;cases e;exact new
 ·rw[Qn hb]at e;exact(x b u e).stay (λc v _ q=>k c v q) (λc q=>by rw[Qn (WQ q hn)];exact q) λc xs q=>by rw[Qn (WQ q hn)];exact q
end
def Rd(H:Hp)(a:Addr)(u:HO):Prop:=H a=some u\/∃o,H a=some (.frz o u)
def Rd.of{H:Hp}{a:Addr}{u:HO}(h:H a=some u):Rd H a u:=.inl h
def Rd.ok{P:Program}{w:World}{H:Hp}{h:Heap}{a:Addr}{u:HO}(r:Rd H a u)(x:HOk P w H h):ObjOk P w H h a u:=by
 rcases r with r|⟨o,r⟩;·exact x a u r
 ·obtain⟨_,q⟩:=x a _ r;exact q
noncomputable def Rl:Option HO->Prop|some (.lst _)=>True|some (.dK _)=>True|some (.dT _)=>True|some (.set _ _)=>True|some (.ins _ _ _)=>True|some (.ext _)=>True|_=>False
section
variable{P:Program}{w:World}{H:Hp}{h h':Heap}{x e:Addr}{o':HO}
def HOk.write(ok:HOk P w H h)(mu:Rl (H x))(he:e=x\/H e=some (.own x))(k:∀b u,b≠e->h.get? b=some u->h'.get? b=some u)(fK:∃u,h'.get? e=some u)(new:ObjOk P w (upd H x o') h' x o'):HOk P w (upd H x o') h':=λb u q=>by
 have gw:∀c y,H c=some (.own y)->c≠x:=λc y r z=>by subst z;rw[r]at mu;exact mu
 have jy:∀c xs,H c=some (.tup xs)->c≠x:=λc xs r z=>by subst z;rw[r]at mu;exact mu
 by_cases hb:b=x;·subst hb;rw[Jq]at q;cases q;exact new
 ·rw[Qn hb]at q;by_cases fb:b=e
  ·have q':H b=some (.own x):=by
    rcases he with z|z;·exact absurd (fb.trans z) hb
    ·rw[fb];exact z
   rw[q]at q';cases q';obtain⟨v,hv⟩:=fK;exact⟨v,by rw[fb];exact hv⟩
  ·refine(ok b u q).stay (λc v hc r=>k c v ?_ r) (λc r=>by rw[Qn (gw c b r)];exact r) λc xs r=>by rw[Qn (jy c xs r)];exact r
   rcases hc with rfl|hc;·exact fb
   ·rintro rfl;rcases he with z|z;·exact gw c b hc z
    ·rw[hc]at z;cases z;exact hb rfl
end
structure Un(fs ex:List Addr)(H H':Hp)(h h':Heap):Prop where
 keep:∀b o,h.get? b=some o->H b=none->b∉fs->b∉ex->h'.get? b=some o
 slot:∀b o,h.get? b=some o->H b=none->b∈fs->b∉ex->∃sl,h'.get? b=some {o with slots:=sl}free:∀b o,h.get? b=some o->H b=none->b∉ex->H' b=none
 there:∀b o,h.get? b=some o->b∉ex->∃o',h'.get? b=some o'
 tups:∀b xs,H b=some (.tup xs)->H' b=some (.tup xs)frzs:∀b o u,H b=some (.frz o u)->H' b=some (.frz o u)tbls:∀b ps,H b=some (.tbl ps)->∃more,H' b=some (.tbl (ps++more))
section
variable{fs je ex kA:List Addr}{H H1 H2:Hp}{h h1 h2 h':Heap}{a x e:Addr}{o:HO}
def Un.any(u:Un fs ex H H1 h h1){b:Addr}{ob:Obj}(q:h.get? b=some ob)(n:H b=none)(hx:b∉ex):∃sl,h1.get? b=some {ob with slots:=sl}:=by
 by_cases hb:b∈fs;·exact u.slot b ob q n hb hx
 ·exact⟨ob.slots,u.keep b ob q n hb hx⟩
def Un.kept(k:∀b u,h.get? b=some u->h'.get? b=some u):Un fs ex H H h h':=⟨λb ob q _ _ _=>k b ob q,λb ob q _ _ _=>⟨ob.slots,k b ob q⟩,λ_ _ _ n _=>n,λb ob q _=>⟨ob,k b ob q⟩,λ_ _ q=>q,λ_ _ _ q=>q,λ_ ps q=>⟨#[],by rw[q];simp⟩⟩
def Un.refl:Un fs ex H H h h:=Un.kept λ_ _ q=>q
def Un.laid(k:∀b u,h.get? b=some u->h'.get? b=some u)(hp:h.objs.size<=a)(hn:H a=none):Un fs ex H (upd H a o) h h' where
 keep:=λb u q _ _ _=>k b u q
 slot:=λb u q _ _ _=>⟨u.slots,k b u q⟩
 free:=λb u q n _=>by rw[Qn (Y3 (VE (Heap.lt_size q) hp))];exact n
 there:=λb u q _=>⟨u,k b u q⟩
 tups:=λb xs q=>by rw[Qn (WQ q hn)];exact q
 frzs:=λb u xs q=>by rw[Qn (WQ q hn)];exact q
 tbls:=λb ps q=>⟨#[],by rw[Qn (WQ q hn),q];simp⟩
def Un.write(mu:Rl (H x))(he:e=x\/H e=some (.own x))(k:∀b u,b≠e->h.get? b=some u->h'.get? b=some u)(fK:∃u,h'.get? e=some u):Un fs ex H (upd H x o) h h':=by
 have hx:∀b,H b=none->b≠x:=λb n z=>by subst z;rw[n]at mu;exact mu
 have hb:∀b,H b=none->b≠e:=λb n z=>by
  subst z;rcases he with r|r;·exact hx b n r
  ·rw[n]at r;cases r
 have hm:∀b u,H b=some u->¬Rl (some u)->b≠x:=λb u q nm z=>by subst z;rw[q]at mu;exact nm mu
 refine⟨λb u q n _ _=>k b u (hb b n) q,λb u q n _ _=>⟨u.slots,k b u (hb b n) q⟩,λb u q n _=>by rw[Qn (hx b n)];exact n,λb u q _=>?_,λb xs q=>by rw[Qn (hm b _ q λz=>z)];exact q,λb u xs q=>by rw[Qn (hm b _ q λz=>z)];exact q,λb ps q=>⟨#[],by rw[Qn (hm b _ q λz=>z),q];simp⟩⟩;by_cases fb:b=e;·subst fb;exact fK
 ·exact⟨u,k b u fb q⟩
def Un.mono(u:Un fs ex H H1 h h1)(hs:∀b∈fs,b∈je)(hx:∀b∈ex,b∈kA):Un je kA H H1 h h1:=⟨λb ob q n hb he=>u.keep b ob q n (λz=>hb (hs b z)) λz=>he (hx b z),λ_ _ q n _ he=>u.any q n λz=>he (hx _ z),λb ob q n he=>u.free b ob q n λz=>he (hx b z),λb ob q he=>u.there b ob q λz=>he (hx b z),u.tups,u.frzs,u.tbls⟩
end
noncomputable def LB(h:Heap)(H:Hp):List Addr:=(List.range h.objs.size).filter λa=>(H a).isSome
def UH(h:Heap)(H:Hp):Heap:=W.hideAll h (LB h H)
def Qew(h:Heap)(H:Hp):(UH h H).objs.size=h.objs.size:=W.hideAll_size _ _
def Qev{h:Heap}{H:Hp}{b:Addr}{o:Obj}(e:h.get? b=some o)(n:H b=none):(UH h H).get? b=some o:=W.hideAll_get _ e λhm=>by have q:(H b).isSome=true:=(q_45.mp hm).2;rw[n]at q;simp at q
def Qgi{h:Heap}{H:Hp}{b:Addr}{o:Obj}(e:(UH h H).get? b=some o):h.get? b=some o/\H b=none:=by have e':h.get? b=some o:=W.of_hideAll (LB h H) e;refine⟨e',?_⟩;cases q:H b with|none=>rfl|some x=>have hm:b∈LB h H:=q_45.mpr ⟨List.mem_range.mpr (Heap.lt_size e'),by simp[q]⟩;have z:(UH h H).get? b=none:=W.hideAll_none (LB h H) hm;rw[z]at e;cases e
noncomputable def Qbu(g h:Heap)(L:Addr):List (Addr×Obj):=(List.range h.objs.size).filterMap λa=>if a=L\/(g.get? a).isSome=true then none else(h.get? a).map λo=>(a,o)
def J5(g h:Heap)(L d:Addr):List (Addr×Obj):=(Qbu g h L).filter λp=>decide (p.1≠d)
structure Mod(K:W.Frag)(mg:Str->Option Value)(ab:Heap):Prop where
 kin:K.In ab
 glob:ab.Ns mainGlobals mg
 blt:∃mb,ab.Ns builtinsNs mb/\∀x:Str,x≠"__name__"->mb x=bootBuiltins x
 nolimit:ab.NoLimit
structure Cx where
 prog:Program
 w:World
 K:W.Frag
 mg:Str->Option Value
 ab:Heap
 A:Around
 N:List Str
 s₀:Shared
 H₀:Hp
 env:Env
 ag:List Env
 stack:List Env
 ex:List Addr
 fn:Str->Bool
 calm:Bool
 pn:List (Addr×Obj)xe:Value->Shared->Prop
noncomputable def Wu(l:List Env):List Addr:=l.filterMap (·.frame)
abbrev Cx.fs(X:Cx):List Addr:=Wu X.ag
def Vu(sc:Scope)(x:Str):Prop:=sc.names.lookup x=some .local\/sc.names.lookup x=some .cell\/sc.names.lookup x=some .free
def XX(sc:Scope)(x:Str):Prop:=sc.names.lookup x=some .local\/sc.names.lookup x=some .cell
def QaX(env:Env)(h:Heap)(m:Str->Option Value)(x:Str)(u:Value):Prop:=env.kindOf x=some .local/\m x=some u\/(env.kindOf x=some .cell\/env.kindOf x=some .free)/\∃c,env.cells.lookup x=some c/\h.IsCell c (some u)
structure Cx.Ok(X:Cx):Prop where
 mod:Mod X.K X.mg X.ab
 kind:X.env.scope.kind=.function
 glob:X.env.globals=mainGlobals
 blt:X.env.builtins=builtinsNs
 above:X.s₀.heap.objs.size<=X.env.locals
 inj:∀x y c,X.env.cells.lookup x=some c->X.env.cells.lookup y=some c->x=y
 has:∀x,X.env.kindOf x=some .cell\/X.env.kindOf x=some .free->∃c,X.env.cells.lookup x=some c
 cab:∀x c,X.fn x=true->X.env.cells.lookup x=some c->X.s₀.heap.objs.size<=c
 hd:X.calm=true->X.A.handled=none
 frames:X.A.frames=some X.stack
 stk:X.stack=X.ag\/(X.stack=X.env::X.ag/\X.env.frame=some X.env.locals)exf:∀b∈X.ex,b≠X.env.locals/\∀x c,X.env.cells.lookup x=some c->c≠b
 bs:∀b o,X.ab.get? b=some o->X.s₀.heap.get? b=some o/\X.H₀ b=none
 bsz:X.ab.objs.size<=X.s₀.heap.objs.size
 noex:∀b o,X.ab.get? b=some o->b∉X.ex
 exfs:∀b∈X.ex,b∉X.fs
 funs:X.s₀.heap.FunFrames X.ab X.ag
 frf:∀b∈X.fs,X.H₀ b=none
structure Inv(X:Cx)(aa:List (Addr×Obj))(σ:List (Option V))(H:Hp)(s:Shared):Prop where
 ok:X.Ok
 os:s.os=X.s₀.os
 bare:AllBare s.gens
 ab:Un X.fs X.ex X.H₀ H X.s₀.heap s.heap
 loc:∃m,s.heap.Ns X.env.locals m/\∀(i:Nat)(x:Str)(v:V),X.N[i]?=some x->σ[i]?=some (some v)->Vu X.env.scope x->∃u,RelV v u/\QaX X.env s.heap m x u
 cell:∀x c,X.env.cells.lookup x=some c->∃v,s.heap.IsCell c v
 free:H X.env.locals=none
 freeC:∀x c,X.env.cells.lookup x=some c->H c=none
 pin:∀p∈X.pn++aa,s.heap.get? p.1=some p.2/\H p.1=none/\p.1≠X.env.locals/\p.1∉X.fs/\∀v,p.2.data≠.cell v
 hok:HOk X.prog X.w H s.heap
 len:σ.length=X.N.length
section
variable{X:Cx}{aa:List (Addr×Obj)}{σ:List (Option V)}{H H':Hp}{s:Shared}{h':Heap}
def Cx.Ok.nofr(ok:X.Ok){b:Addr}{o:Obj}(e:X.ab.get? b=some o):b∉X.fs:=λhb=>by have:=(ok.funs.mem hb).1;rw[e]at this;cases this
theorem Inv.bs(I:Inv X aa σ H s):∀b o,X.ab.get? b=some o->s.heap.get? b=some o/\H b=none:=λb o e=>⟨I.ab.keep b o (I.ok.bs b o e).1 (I.ok.bs b o e).2 (I.ok.nofr e) (I.ok.noex b o e),I.ab.free b o (I.ok.bs b o e).1 (I.ok.bs b o e).2 (I.ok.noex b o e)⟩
def Inv.bk(I:Inv X aa σ H s):∀b o,X.ab.get? b=some o->s.heap.get? b=some o:=λb o e=>(I.bs b o e).1
theorem Inv.mod(I:Inv X aa σ H s):Mod X.K X.mg X.ab:=I.ok.mod
def Inv.kIn(I:Inv X aa σ H s):X.K.In s.heap:=I.ok.mod.kin.keeps I.bk
theorem Inv.nolimit(I:Inv X aa σ H s):s.heap.NoLimit:=I.ok.mod.nolimit.keeps I.bk
theorem Inv.lt(I:Inv X aa σ H s):X.env.locals<s.heap.objs.size:=let⟨_,hn,_⟩:=I.loc;hn.lt
def Inv.sz(I:Inv X aa σ H s):X.s₀.heap.objs.size<=s.heap.objs.size:=ZP I.ok.above (le_of_lt I.lt)
def Inv.nofs(I:Inv X aa σ H s){a:Addr}(h:s.heap.objs.size<=a):a∉X.fs:=λhb=>by obtain⟨_,o,ho,_⟩:=I.ok.funs.mem hb;exact absurd (VE (Heap.lt_size ho) (ZP I.sz h)) (lt_irrefl _)
def Inv.cne(I:Inv X aa σ H s):∀x c,X.env.cells.lookup x=some c->c≠X.env.locals:=λx c e z=>by obtain⟨v,o,ho,hd⟩:=I.cell x c e;obtain⟨m,⟨o',es,ep,cD,mL,_⟩,_⟩:=I.loc;rw[z,cD]at ho;cases ho;rw[mL]at hd;cases hd
theorem Inv.funs(I:Inv X aa σ H s):s.heap.FunFrames X.ab X.ag:=by
 have all:∀(l:List Env),(∀b∈Wu l,b∈X.fs)->X.s₀.heap.FunFrames X.ab l->s.heap.FunFrames X.ab l:=by intro l;induction l with|nil=>intro _ _;trivial|cons env r ih=>
   intro hs hl;obtain⟨hk,⟨L,o,hf,hn,ho,hd⟩,hr⟩:=hl;have hL:L∈X.fs:=hs L (by unfold Wu;rw[filterMap_cons,hf];exact JN);obtain⟨sl,e⟩:=I.ab.slot L o ho (I.ok.frf L hL) hL λz=>I.ok.exfs L z hL;exact⟨hk,⟨L,_,hf,hn,e,hd⟩,ih (λb hb=>hs b (by unfold Wu;rw[filterMap_cons,hf];exact JH _ hb)) hr⟩
 exact all X.ag (λ_ hb=>hb) I.ok.funs
theorem Inv.stack(I:Inv X aa σ H s):s.heap.FunFrames X.ab X.stack:=by
 rcases I.ok.stk with e|⟨e,hf⟩;·rw[e];exact I.funs
 ·rw[e];obtain⟨m,hn,_⟩:=I.loc;refine .cons (by rw[I.ok.kind];decide) hf hn ?_ I.funs;exact Heap.get?_none_of_le (ZP I.ok.bsz I.ok.above)
def Inv.stkSub(I:Inv X aa σ H s):∀b∈Wu X.stack,b∈X.env.locals::X.fs:=λb hb=>by
 rcases I.ok.stk with e|⟨e,hf⟩;·rw[e]at hb;exact JH _ hb
 ·rw[e]at hb;unfold Wu at hb;rw[filterMap_cons,hf]at hb;exact hb
def Inv.stkFree(I:Inv X aa σ H s):∀b∈Wu X.stack,H b=none:=λb hb=>by
 rcases q_5.mp (I.stkSub b hb)with e|hb;·rw[e];exact I.free
 ·obtain⟨_,o,ho,_⟩:=I.ok.funs.mem hb;exact I.ab.free b o ho (I.ok.frf b hb) λz=>I.ok.exfs b z hb
def Inv.step{g':Array GenState}{t':Nat}{d':Drawn}{ch:List Addr}(I:Inv X aa σ H s)(df:∀b∈ch,(b∈X.ex\/X.s₀.heap.objs.size<=b)/\b≠X.env.locals/\(∀x c,X.env.cells.lookup x=some c->c≠b)/\∀p∈X.pn++aa,p.1≠b)(keep:∀b o,b≠X.env.locals->b∉X.fs->b∉ch->s.heap.get? b=some o->H b=none->h'.get? b=some o)(slot:∀b o,b≠X.env.locals->b∈X.fs->b∉ch->s.heap.get? b=some o->H b=none->∃sl,h'.get? b=some {o with slots:=sl})(free:∀b o,b∉ch->s.heap.get? b=some o->H b=none->H' b=none)(there:∀b o,b∉ch->s.heap.get? b=some o->∃o',h'.get? b=some o')(tups:∀b xs,H b=some (.tup xs)->H' b=some (.tup xs))(frzs:∀b o u,H b=some (.frz o u)->H' b=some (.frz o u))(tbls:∀b ps,H b=some (.tbl ps)->∃more,H' b=some (.tbl (ps++more)))(ns:∀m,s.heap.Ns X.env.locals m->h'.Ns X.env.locals m)(hok:HOk X.prog X.w H' h')(hg:AllBare g'):Inv X aa σ H' {s with heap:=h',gens:=g',drawn:=d',toks:=t'}:=by
 have jZ:∀b o,X.s₀.heap.get? b=some o->b≠X.env.locals:=λb o e=>Y3 (VE (Heap.lt_size e) I.ok.above);have gX:∀b o,X.s₀.heap.get? b=some o->b∉X.ex->b∉ch:=λb o e hx hb=>by
  rcases(df b hb).1 with z|z;·exact hx z
  ·exact absurd (VE (Heap.lt_size e) z) (lt_irrefl _)
 have cellK:∀x c,X.env.cells.lookup x=some c->∀v,s.heap.IsCell c v->h'.IsCell c v:=λx c e v⟨o,ho,hd⟩=>by
  have fW:c∉ch:=λz=>(df c z).2.2.1 x c e rfl;by_cases hc:c∈X.fs;·obtain⟨sl,q⟩:=slot c o (I.cne x c e) hc fW ho (I.freeC x c e);exact⟨_,q,hd⟩
  ·exact⟨o,keep c o (I.cne x c e) hc fW ho (I.freeC x c e),hd⟩
 refine⟨I.ok,I.os,hg,⟨λb o e n hb hx=>?_,λb o e n hb hx=>?_,λb o e n hx=>?_,λb o e hx=>?_,λb xs e=>tups b xs (I.ab.tups b xs e),λb o xs e=>frzs b o xs (I.ab.frzs b o xs e),λb ps e=>?_⟩,?_,λx c e=>?_,?_,λx c e=>?_,λp hp=>?_,hok,I.len⟩;·exact keep b o (jZ b o e) hb (gX b o e hx) (I.ab.keep b o e n hb hx) (I.ab.free b o e n hx)
 ·obtain⟨sl,e1⟩:=I.ab.slot b o e n hb hx;obtain⟨kN,e2⟩:=slot b _ (jZ b o e) hb (gX b o e hx) e1 (I.ab.free b o e n hx);exact⟨kN,e2⟩
 ·obtain⟨o',e1⟩:=I.ab.there b o e hx;exact free b o' (gX b o e hx) e1 (I.ab.free b o e n hx)
 ·obtain⟨o',e1⟩:=I.ab.there b o e hx;exact there b o' (gX b o e hx) e1
 ·obtain⟨m1,e1⟩:=I.ab.tbls b ps e;obtain⟨m2,e2⟩:=tbls b _ e1;exact⟨m1++m2,by rw[e2,Array.append_assoc]⟩
 ·obtain⟨m,hn,hl⟩:=I.loc;refine⟨m,ns m hn,λi x v e1 e2 e3=>?_⟩;obtain⟨u,r,l⟩:=hl i x v e1 e2 e3;refine⟨u,r,?_⟩;rcases l with l|⟨k,c,e,z⟩;·exact .inl l
  ·exact .inr ⟨k,c,e,cellK x c e _ z⟩
 ·obtain⟨v,z⟩:=I.cell x c e;exact⟨v,cellK x c e v z⟩
 ·obtain⟨m,⟨o,_,_,ho,_⟩,_⟩:=I.loc;exact free _ o (λz=>(df _ z).2.1 rfl) ho I.free
 ·obtain⟨v,o,ho,hd⟩:=I.cell x c e;exact free c o (λz=>(df c z).2.2.1 x c e rfl) ho (I.freeC x c e)
 ·obtain⟨e,n,ne,nf,d⟩:=I.pin p hp;have fW:p.1∉ch:=λz=>(df p.1 z).2.2.2 p hp rfl;exact⟨keep p.1 p.2 ne nf fW e n,free p.1 p.2 fW e n,ne,nf,d⟩
def Inv.un{t':Nat}(I:Inv X aa σ H s)(u:Un X.fs [] H H' s.heap h')(hok:HOk X.prog X.w H' h'):Inv X aa σ H' {s with heap:=h',toks:=t'}:=by obtain⟨m,⟨o,es,ep,ho,r⟩,_⟩:=id I.loc;obtain⟨sl,hL⟩:=u.any ho I.free (by simp);exact I.step (g':=s.gens) (d':=s.drawn) (ch:=[]) (λ_ z=>nomatch z) (λb o _ hb _ e n=>u.keep b o e n hb (by simp)) (λb o _ hb _ e n=>u.slot b o e n hb (by simp)) (λb o _ e n=>u.free b o e n (by simp)) (λb o _ e=>u.there b o e (by simp)) u.tups u.frzs u.tbls (λm' hm=>by obtain⟨o',dN,iA,cD,r'⟩:=hm;rw[ho]at cD;cases cD;exact⟨_,dN,iA,hL,r'⟩) hok I.bare
def Inv.call{g':Array GenState}{t':Nat}{d':Drawn}{ch:List Addr}(I:Inv X aa σ H s)(u:Un (Wu X.stack) ch H H' s.heap h')(hok:HOk X.prog X.w H' h')(hg:AllBare g')(df:∀b∈ch,(b∈X.ex\/X.s₀.heap.objs.size<=b)/\b≠X.env.locals/\(∀x c,X.env.cells.lookup x=some c->c≠b)/\∀p∈X.pn++aa,p.1≠b):Inv X aa σ H' {s with heap:=h',gens:=g',drawn:=d',toks:=t'}:=by obtain⟨m,⟨o,es,ep,ho,r⟩,_⟩:=id I.loc;obtain⟨sl,hL⟩:=u.any ho I.free λz=>(df _ z).2.1 rfl;exact I.step (ch:=ch) df (λb o hL hb hc e n=>u.keep b o e n (λz=>(q_5.mp (I.stkSub b z)).elim hL hb) hc) (λb o _ _ hc e n=>u.any e n hc) (λb o hc e n=>u.free b o e n hc) (λb o hc e=>u.there b o e hc) u.tups u.frzs u.tbls (λm' hm=>by obtain⟨o',dN,iA,cD,r'⟩:=hm;rw[ho]at cD;cases cD;exact⟨_,dN,iA,hL,r'⟩) hok hg
def Inv.turned{t':Nat}{it:Addr}(I:Inv X aa σ H s)(k:∀b o,b≠it->s.heap.get? b=some o->h'.get? b=some o)(hn:H it=none)(hL:it≠X.env.locals)(h1:it∈X.ex\/X.s₀.heap.objs.size<=it)(h2:∀x c,X.env.cells.lookup x=some c->c≠it)(h3:∀p∈X.pn++aa,p.1≠it):Inv X aa σ H {s with heap:=h',toks:=t'}:=by
 have eg:∀b u,H b=some u->b≠it:=λb u e z=>by rw[z,hn]at e;cases e
 refine I.step (g':=s.gens) (d':=s.drawn) (ch:=[it]) (λb hb=>?_) (λb o _ _ hc e _=>k b o (λz=>hc (by simp[z])) e) (λb o _ _ hc e _=>⟨o.slots,k b o (λz=>hc (by simp[z])) e⟩) (λ_ _ _ _ n=>n) (λb o hc e=>⟨o,k b o (λz=>hc (by simp[z])) e⟩) (λ_ _ e=>e) (λ_ _ _ e=>e) (λb ps e=>⟨#[],by rw[e];simp⟩) (λm hm=>?_) (λb u e=>?_) I.bare
 ·have e:b=it:=by simpa using hb
  subst e;exact⟨h1,hL,h2,h3⟩
 ·obtain⟨o,es,ep,ho,r⟩:=hm;exact⟨o,es,ep,k _ o (Ne.symm hL) ho,r⟩
 ·refine(I.hok b u e).stay (λc v hc q=>k c v ?_ q) (λ_ q=>q) λ_ _ q=>q;rcases hc with z|z;·rw[z];exact eg b u e
  ·exact eg c _ z
def Inv.tok(I:Inv X aa σ H s)(t:Nat):Inv X aa σ H {s with toks:=t}:=I.un (h':=s.heap) (t':=t) Un.refl I.hok
theorem Inv.kept{t':Nat}(I:Inv X aa σ H s)(k:∀b u,s.heap.get? b=some u->h'.get? b=some u):Inv X aa σ H {s with heap:=h',toks:=t'}:=I.un (Un.kept k) (I.hok.kept k)
theorem Inv.laid{a:Addr}{o:HO}{t':Nat}(I:Inv X aa σ H s)(k:∀b u,s.heap.get? b=some u->h'.get? b=some u)(hp:s.heap.objs.size<=a)(new:ObjOk X.prog X.w (upd H a o) h' a o):Inv X aa σ (upd H a o) {s with heap:=h',toks:=t'}:=I.un (Un.laid k hp (I.hok.fresh hp)) (I.hok.laid k hp new)
theorem Inv.write{x e:Addr}{o:HO}{t':Nat}(I:Inv X aa σ H s)(mu:Rl (H x))(he:e=x\/H e=some (.own x))(k:∀b u,b≠e->s.heap.get? b=some u->h'.get? b=some u)(fK:∃u,h'.get? e=some u)(new:ObjOk X.prog X.w (upd H x o) h' x o):Inv X aa σ (upd H x o) {s with heap:=h',toks:=t'}:=I.un (Un.write mu he k fK) (I.hok.write mu he k fK new)
def Inv.pins_of{eN:List (Addr×Obj)}(I:Inv X aa σ H s)(h:∀p∈eN,s.heap.get? p.1=some p.2/\H p.1=none/\p.1≠X.env.locals/\p.1∉X.fs/\∀v,p.2.data≠.cell v):Inv X eN σ H s:=⟨I.ok,I.os,I.bare,I.ab,I.loc,I.cell,I.free,I.freeC,λp hp=>(q_7.mp hp).elim (λz=>I.pin p (V0 _ z)) (h p),I.hok,I.len⟩
def BN{N:List Str}(hN:N.Nodup){i j:Nat}{x:Str}(a:N[i]?=some x)(b:N[j]?=some x):i=j:=by obtain⟨h1,e1⟩:=q_22.mp a;obtain⟨h2,e2⟩:=q_22.mp b;exact(List.getElem_inj hN).mp (e1.trans e2.symm)
def Qas{M:Model}{A:Around}{E:Value->Shared->Prop}{i:Nat}{x:Str}{v:V}{u:Value}{Q:Unit->Shared->Prop}(I:Inv X aa σ H s)(hN:X.N.Nodup)(hi:X.N[i]?=some x)(hx:XX X.env.scope x)(r:RelV v u)(h:∀s',Inv X aa (σ.set i (some v)) H s'->(∃a,Heap.SameBut a s.heap s'.heap/\(a=X.env.locals\/X.env.cells.lookup x=some a))->Q () s')(hf:X.fn x=true\/X.env.scope.names.lookup x=some .local:=by first|exact .inl rfl|exact .inr rfl|assumption):wpAny M A (storeName X.env x u) Q E s:=by
 obtain⟨m,hn,hl⟩:=id I.loc;have jL:(X.env.scope.kind==.class||(X.env.scope.kind==.module&&X.env.locals !=X.env.globals))=false:=by rw[I.ok.kind];rfl
 have gD:i<σ.length:=by rw[I.len];exact(q_22.mp hi).1
 have cne:=I.cne;have tracked:∀{a:Addr}{h':Heap},(∃o,s.heap.get? a=some o/\H a=none)->Heap.SameBut a s.heap h'->HOk X.prog X.w H h':=λ{a h'}ha hs b ob e=>by
  obtain⟨_,_,eP⟩:=ha;refine(I.hok b ob e).stay (λc w' hc q=>(hs.2 c ?_).trans q) (λ_ q=>q) λ_ _ q=>q;rintro rfl;rcases hc with rfl|hc;·rw[eP]at e;cases e
  ·rw[eP]at hc;cases hc
 rcases hx with hk|hk
 ·refine wpAny_storeName_local hk hn (λh' eF hs=>?_) jL;obtain⟨oL,_,_,ma,_⟩:=id hn;refine h _ ⟨I.ok,I.os,I.bare,⟨λb o e n hb hx=>?_,λb o e n hb hx=>?_,I.ab.free,λb o e hx=>?_,I.ab.tups,I.ab.frzs,I.ab.tbls⟩,⟨_,eF,λj y v' e1 e2 e3=>?_⟩,λy c e=>?_,I.free,I.freeC,λp hp=>?_,tracked ⟨oL,ma,I.free⟩ hs,by simpa using I.len⟩ ⟨_,hs,.inl rfl⟩;·exact(hs.2 b (Y3 (VE (Heap.lt_size e) I.ok.above))).trans (I.ab.keep b o e n hb hx)
  ·obtain⟨sl,e1⟩:=I.ab.slot b o e n hb hx;exact⟨sl,(hs.2 b (Y3 (VE (Heap.lt_size e) I.ok.above))).trans e1⟩
  ·obtain⟨o',e1⟩:=I.ab.there b o e hx;exact⟨o',(hs.2 b (Y3 (VE (Heap.lt_size e) I.ok.above))).trans e1⟩
  ·by_cases hj:j=i
   ·subst hj;rw[hi]at e1;cases e1;rw[List.getElem?_set_self gD]at e2;cases e2;exact⟨u,r,.inl ⟨hk,by simp⟩⟩
   ·rw[Uq (Ne.symm hj)]at e2;obtain⟨u',r',q⟩:=hl j y v' e1 e2 e3;refine⟨u',r',?_⟩;rcases q with⟨k,e⟩|⟨k,c,e,z⟩
    ·refine .inl ⟨k,?_⟩;have:y≠x:=λe=>hj (BN hN e1 (e▸hi));simp[this,e]
    ·exact .inr ⟨k,c,e,z.sameBut hs (cne y c e)⟩
  ·obtain⟨w',z⟩:=I.cell y c e;exact⟨w',z.sameBut hs (cne y c e)⟩
  ·obtain⟨e,n,ne,nf,d⟩:=I.pin p hp;exact⟨(hs.2 p.1 ne).trans e,n,ne,nf,d⟩
 ·have i8:X.fn x=true:=by
   rcases hf with z|z;·exact z
   ·rw[z]at hk;cases hk
  obtain⟨c,hc⟩:=I.ok.has x (.inl hk);obtain⟨w',z⟩:=I.cell x c hc;refine wpAny_storeName_cell I.ok.kind hk hc z (λh' iw hs=>?_);obtain⟨oc,kf,jH⟩:=id z;refine h {s with heap:=h'} ⟨I.ok,I.os,I.bare,⟨λb o e n hb hx=>?_,λb o e n hb hx=>?_,I.ab.free,λb o e hx=>?_,I.ab.tups,I.ab.frzs,I.ab.tbls⟩,⟨m,hn.sameBut hs (Ne.symm (cne x c hc)),λj y v' e1 e2 e3=>?_⟩,λy c' e=>?_,I.free,I.freeC,λp hp=>?_,tracked ⟨oc,kf,I.freeC x c hc⟩ hs,by simpa using I.len⟩ ⟨c,hs,.inr hc⟩;·exact(hs.2 b (Y3 (VE (Heap.lt_size e) (I.ok.cab x c i8 hc)))).trans (I.ab.keep b o e n hb hx)
  ·obtain⟨sl,e1⟩:=I.ab.slot b o e n hb hx;exact⟨sl,(hs.2 b (Y3 (VE (Heap.lt_size e) (I.ok.cab x c i8 hc)))).trans e1⟩
  ·obtain⟨o',e1⟩:=I.ab.there b o e hx;exact⟨o',(hs.2 b (Y3 (VE (Heap.lt_size e) (I.ok.cab x c i8 hc)))).trans e1⟩
  ·by_cases hj:j=i
   ·subst hj;rw[hi]at e1;cases e1;rw[List.getElem?_set_self gD]at e2;cases e2;exact⟨u,r,.inr ⟨.inl hk,c,hc,iw⟩⟩
   ·rw[Uq (Ne.symm hj)]at e2;obtain⟨u',r',q⟩:=hl j y v' e1 e2 e3;refine⟨u',r',?_⟩;rcases q with q|⟨k,c',e,z'⟩;·exact .inl q
    ·refine .inr ⟨k,c',e,z'.sameBut hs ?_⟩;rintro rfl;exact hj (BN hN e1 (I.ok.inj _ _ _ e hc▸hi))
  ·by_cases kq:c'=c;·subst kq;exact⟨_,iw⟩
   ·obtain⟨w2,z2⟩:=I.cell y c' e;exact⟨w2,z2.sameBut hs kq⟩
  ·obtain⟨e,n,ne,nf,d⟩:=I.pin p hp;refine⟨(hs.2 p.1 ?_).trans e,n,ne,nf,d⟩;intro q;rw[q,kf]at e;have q':oc=p.2:=Option.some.inj e;exact d w' (by rw[<-q'];exact jH)
def GZ{M:Model}{A:Around}{E:Value->Shared->Prop}{i:Nat}{x:Str}{v:V}{u:Value}{Q:Unit->Shared->Prop}(I:Inv X aa σ H s)(hN:X.N.Nodup)(hi:X.N[i]?=some x)(hx:XX X.env.scope x)(r:RelV v u)(h:∀s',Inv X aa (σ.set i (some v)) H s'->Q () s')(hf:X.fn x=true\/X.env.scope.names.lookup x=some .local:=by first|exact .inl rfl|exact .inr rfl|assumption):wpAny M A (storeName X.env x u) Q E s:=Qas I hN hi hx r (λs' I' _=>h s' I') hf
def Inv.call'{s':Shared}{ch:List Addr}(I:Inv X aa σ H s)(ho:s'.os=s.os)(u:Un (Wu X.stack) ch H H' s.heap s'.heap)(hok:HOk X.prog X.w H' s'.heap)(hg:AllBare s'.gens)(df:∀b∈ch,(b∈X.ex\/X.s₀.heap.objs.size<=b)/\b≠X.env.locals/\(∀x c,X.env.cells.lookup x=some c->c≠b)/\∀p∈X.pn++aa,p.1≠b):Inv X aa σ H' s':=by obtain⟨h',g',d',t',o'⟩:=s';have e:o'=s.os:=ho;subst e;exact I.call (g':=g') (t':=t') (d':=d') u hok hg df
end
abbrev XK:=Value->Option Addr->Hp->Prop
abbrev St:=List (Option V)
abbrev VK:=V->Hp->Prop
abbrev TE:=St->Hp->VK->Prop
noncomputable abbrev TT:=St->Hp->(Bool->Hp->Prop)->Prop
noncomputable abbrev TA:=St->Hp->(List V->Hp->Prop)->Prop
structure Ends where
 nx:St->Hp->Prop
 rt:VK
 bk:St->Hp->Prop:=λ_ _=>False
 ct:St->Hp->Prop:=λ_ _=>False
abbrev TS:=Ends->St->Hp->Prop
def EP(X:Cx)(aa:List (Addr×Obj))(σ:St)(Q:VK)(u:Value)(s':Shared):Prop:=∃v H',Inv X aa σ H' s'/\RelV v u/\Q v H'
def TP(X:Cx)(aa:List (Addr×Obj))(σ:St)(Q:Bool->Hp->Prop)(b:Bool)(s':Shared):Prop:=∃H',Inv X aa σ H' s'/\Q b H'
def AP(X:Cx)(aa:List (Addr×Obj))(σ:St)(Q:List V->Hp->Prop)(us:List Value)(s':Shared):Prop:=∃vs H',Inv X aa σ H' s'/\Vals vs us/\Q vs H'
def SP(X:Cx)(aa:List (Addr×Obj))(D:Ends)(f:Flow)(s':Shared):Prop:=match f with|.next=>∃σ' H',Inv X aa σ' H' s'/\D.nx σ' H'|.brk=>∃σ' H',Inv X aa σ' H' s'/\D.bk σ' H'|.cont=>∃σ' H',Inv X aa σ' H' s'/\D.ct σ' H'|.ret u=>∃v σ' H',Inv X aa σ' H' s'/\RelV v u/\D.rt v H'
def PE(X:Cx)(e:Expr)(t:TE):Prop:=∀(aa:List (Addr×Obj))(s:Shared)(σ:St)(H:Hp)(Q:VK),Inv X aa σ H s->t σ H Q->wpAny (model X.prog X.w) X.A (eval e X.env) (EP X aa σ Q) X.xe s
def PT(X:Cx)(e:Expr)(t:TT):Prop:=∀(aa:List (Addr×Obj))(s:Shared)(σ:St)(H:Hp)(Q:Bool->Hp->Prop),Inv X aa σ H s->t σ H Q->wpAny (model X.prog X.w) X.A (isTrue e X.env (eval e X.env)) (TP X aa σ Q) X.xe s
def PW(X:Cx)(e:Expr)(t:TT):Prop:=∀(whole:Sem Value)(aa:List (Addr×Obj))(s:Shared)(σ:St)(H:Hp)(Q:Bool->Hp->Prop),Inv X aa σ H s->t σ H Q->wpAny (model X.prog X.w) X.A (isTrue e X.env whole) (TP X aa σ Q) X.xe s
def PW.pt{X:Cx}{e:Expr}{t:TT}(h:PW X e t):PT X e t:=h _
def PA(X:Cx)(es:List Expr)(t:TA):Prop:=∀(pos:Pos)(aa:List (Addr×Obj))(s:Shared)(σ:St)(H:Hp)(Q:List V->Hp->Prop),Inv X aa σ H s->t σ H Q->wpAny (model X.prog X.w) X.A (spliced (backTo pos (starEach es X.env))) (AP X aa σ Q) X.xe s
def PS(X:Cx)(st:Stmt)(t:TS):Prop:=∀(aa:List (Addr×Obj))(s:Shared)(σ:St)(H:Hp)(D:Ends),Inv X aa σ H s->t D σ H->wpAny (model X.prog X.w) X.A (exec st X.env) (SP X aa D) X.xe s
def PSs(X:Cx)(st:List Stmt)(t:TS):Prop:=∀(aa:List (Addr×Obj))(s:Shared)(σ:St)(H:Hp)(D:Ends),Inv X aa σ H s->t D σ H->wpAny (model X.prog X.w) X.A (execs st X.env) (SP X aa D) X.xe s
def Qa{α:Type}{t:Sem α}{Q Q':α->Shared->Prop}{M:Model}{A:Around}{E:Value->Shared->Prop}{s:Shared}(h:wpAny M A t Q E s)(hQ:∀a s,Q a s->Q' a s):wpAny M A t Q' E s:=wpAny_mono h hQ λ_ _ x=>x
section
variable{X:Cx}
noncomputable def VZ(i:Nat):TE:=λσ H Q=>∃v,σ[i]?=some (some v)/\Q v H
def tC(v:V):TE:=λ_ H Q=>Q v H
def Zo{i:Nat}{x:Str}{pos:Pos}(hN:X.N[i]?=some x)(hv:Vu X.env.scope x)(hd:(x==("__debug__":Str))=false:=by decide)(ck:(x==("__classdict__":Str))=false:=by decide):PE X (.Name x pos) (VZ i):=by
 intro aa s σ H Q I h;obtain⟨v,e,h⟩:=h;obtain⟨m,hn,hl⟩:=I.loc;obtain⟨u,r,l⟩:=hl i x v hN e hv;have fin:EP X aa σ Q u s:=⟨v,H,I,r,h⟩;rcases l with⟨hk,hm⟩|⟨hk,c,hc,cE⟩;·exact wpAny_Name (wpAny_loadName_local I.ok.kind hk hn hm fin) hd
 ·rcases hk with hk|hk;·exact wpAny_Name (wpAny_loadName_cell I.ok.kind hk hc cE fin) hd
  ·exact wpAny_Name (wpAny_loadName_free I.ok.kind hk hc cE fin ck) hd
def R8{i j pos}:PE X (.Constant (.int i) j pos) (tC (.int i)):=λ_ _ _ H _ I h=>wpAny_Constant_int ⟨.int i,H,I.tok _,⟨_,rfl⟩,h⟩
def QhV{b j pos}:PE X (.Constant (.bool b) j pos) (tC (.bl b)):=λ_ _ _ H _ I h=>Constant_bool ⟨.bl b,H,I,rfl,h⟩
def Bc{x j pos}:PE X (.Constant (.str x) j pos) (tC (.str x)):=λ_ _ _ H _ I h=>Calls.Constant_str ⟨.str x,H,I.tok _,⟨_,rfl⟩,h⟩
def Gl(X:Cx)(x:Str):Prop:=X.env.kindOf x=some .globalImplicit
def Cm{E:Value->Shared->Prop}{aa:List (Addr×Obj)}{s:Shared}{σ:St}{H:Hp}{x:Str}{u:Value}{pos:Pos}{Q:Value->Shared->Prop}(I:Inv X aa σ H s)(hg:Gl X x)(hm:X.mg x=some u)(h:Q u s)(hd:(x==("__debug__":Str))=false:=by decide):wpAny (model X.prog X.w) X.A (eval (.Name x pos) X.env) Q E s:=Calls.Name_function_global I.ok.kind hg (Calls.loadGlobal_global (by rw[I.ok.glob];exact I.mod.glob.keeps I.bk) hm h) hd
def Sr{E:Value->Shared->Prop}{aa:List (Addr×Obj)}{s:Shared}{σ:St}{H:Hp}{x:Str}{u:Value}{pos:Pos}{Q:Value->Shared->Prop}(I:Inv X aa σ H s)(hg:Gl X x)(hm:X.mg x=none)(hv:bootBuiltins x=some u)(h:Q u s)(hn:x≠"__name__":=by decide)(hd:(x==("__debug__":Str))=false:=by decide):wpAny (model X.prog X.w) X.A (eval (.Name x pos) X.env) Q E s:=by obtain⟨mb,h1,h2⟩:=I.mod.blt;exact Calls.Name_function_global I.ok.kind hg (Calls.loadGlobal_builtin (by rw[I.ok.glob];exact I.mod.glob.keeps I.bk) hm (by rw[I.ok.blt];exact h1.keeps I.bk) ((h2 x hn).trans hv) h) hd
def Qh3{x:Str}{v:V}{u:Value}{pos:Pos}(hg:Gl X x)(hm:X.mg x=some u)(r:RelV v u)(hd:(x==("__debug__":Str))=false:=by decide):PE X (.Name x pos) (tC v):=λ_ _ _ H _ I h=>Cm I hg hm ⟨v,H,I,r,h⟩ hd
def QhW{x:Str}{v:V}{u:Value}{pos:Pos}(hg:Gl X x)(hm:X.mg x=none)(hv:bootBuiltins x=some u)(r:RelV v u)(hn:x≠"__name__":=by decide)(hd:(x==("__debug__":Str))=false:=by decide):PE X (.Name x pos) (tC v):=λ_ _ _ H _ I h=>Sr I hg hm hv ⟨v,H,I,r,h⟩ hn hd
variable{a b:Expr}{ta tb:TE}{pos:Pos}
def PC(X:Cx)(op:CmpOp)(a b:Expr)(t:TE):Prop:=∀(aa:List (Addr×Obj))(s:Shared)(σ:St)(H:Hp)(Q:VK),Inv X aa σ H s->t σ H Q->wpAny (model X.prog X.w) X.A (eval a X.env) (λv s₁=>wpAny (model X.prog X.w) X.A (eval b X.env) (λu s₂=>wpAny (model X.prog X.w) X.A (compareOp op v u) (EP X aa σ Q) X.xe s₂) X.xe s₁) X.xe s
def tB(t:TE):TT:=λσ H Q=>t σ H λx H1=>∃c,x=.bl c/\Q c H1
def Bp{op:CmpOp}{t:TE}(h:PC X op a b t)(h1:behindInMarks op b=false:=by first|exact gK _ (by decide) (by decide)|rfl):PT X (.Compare a [op] [b] pos) (tB t):=by intro aa s σ H Q I hw;refine wpAny_isTrue_Compare1 (Qa (h aa s σ H _ I hw) λv s1 h1=>Qa h1 λu s2 h2=>Qa h2 λc s3⟨x,H1,I1,r1,q1⟩=>?_) h1;obtain⟨d,rfl,q⟩:=q1;cases r1;exact wpAny_truthy_bool ⟨H1,I1,q⟩
def QiA{e:Expr}{t:TE}(h:PE X e t)(he:∀whole,isTrue e X.env whole=(do let v<-whole;standAt e.pos;holding [v] (truthy v)):=by intro _;rfl):PT X e (tB t):=by intro aa s σ H Q I hw;refine isTrue_plain (Qa (h aa s σ H _ I hw) λv s1⟨x,H1,I1,r1,q1⟩=>?_) (he _);obtain⟨d,rfl,q⟩:=q1;cases r1;exact wpAny_truthy_bool ⟨H1,I1,q⟩
variable{tA gL:TT}{J5:List Expr}
def Qat(t u:TT):TT:=λσ H Q=>t σ H λc H1=>if c=true then u σ H1 Q else Q false H1
def tOr(t u:TT):TT:=λσ H Q=>t σ H λc H1=>if c=true then Q true H1 else u σ H1 Q
def QjN(t:TT):TT:=λσ H Q=>t σ H λc H1=>Q (!c) H1
def QiI(ha:PT X a tA):PW X (.BoolOp .And [a] pos) tA:=by intro wh aa s σ H Q I h;refine isTrue_and (Qa (ha aa s σ H Q I h) λc s1 e=>?_);cases c with|true=>exact isTrue_and_nil e|false=>exact e
def QiK(ha:PT X a tA):PW X (.BoolOp .Or [a] pos) tA:=by intro wh aa s σ H Q I h;refine isTrue_or (Qa (ha aa s σ H Q I h) λc s1 e=>?_);cases c with|false=>exact isTrue_or_nil e|true=>exact e
def QiH(ha:PT X a tA)(hb:PW X (.BoolOp .And (b::J5) pos) gL):PW X (.BoolOp .And (a::b::J5) pos) (Qat tA gL):=by intro wh aa s σ H Q I h;refine isTrue_and (Qa (ha aa s σ H _ I h) λc s1⟨H1,I1,q1⟩=>?_);cases c with|true=>exact hb wh aa s1 σ H1 Q I1 q1|false=>exact⟨H1,I1,q1⟩
def QiJ(ha:PT X a tA)(hb:PW X (.BoolOp .Or (b::J5) pos) gL):PW X (.BoolOp .Or (a::b::J5) pos) (tOr tA gL):=by intro wh aa s σ H Q I h;refine isTrue_or (Qa (ha aa s σ H _ I h) λc s1⟨H1,I1,q1⟩=>?_);cases c with|true=>exact⟨H1,I1,q1⟩|false=>exact hb wh aa s1 σ H1 Q I1 q1
def Qiy(ha:PT X a tA):PT X (.UnaryOp .Not a pos) (QjN tA):=by intro aa s σ H Q I h;exact isTrue_not (ha aa s σ H (λc H1=>Q (!c) H1) I h)
noncomputable def QjB(ta tb:TE):TE:=λσ H Q=>ta σ H λx H1=>∃c,x=.bl c/\if c=true then tb σ H1 Q else Q (.bl false) H1
noncomputable def QjP(ta tb:TE):TE:=λσ H Q=>ta σ H λx H1=>∃c,x=.bl c/\if c=true then Q (.bl true) H1 else tb σ H1 Q
noncomputable def QjO(ta:TE):TE:=λσ H Q=>ta σ H λx H1=>∃c,x=.bl c/\Q (.bl (!c)) H1
def Qh6{op}{t:TE}(h:PE X a t):PE X (.BoolOp op [a] pos) t:=λaa s σ H Q I hw=>BoolOp_one (h aa s σ H Q I hw)
def QhU(ha:PE X a ta)(hb:PE X (.BoolOp .And (b::J5) pos) tb):PE X (.BoolOp .And (a::b::J5) pos) (QjB ta tb):=by intro aa s σ H Q I h;refine BoolOp_and (Qa (ha aa s σ H _ I h) λv s1⟨x,H1,I1,r1,q1⟩=>?_);obtain⟨c,rfl,q1⟩:=q1;cases r1;refine wpAny_truthy_bool ?_;cases c with|true=>exact hb aa s1 σ H1 Q I1 q1|false=>exact⟨.bl false,H1,I1,rfl,q1⟩
def Qh7(ha:PE X a ta)(hb:PE X (.BoolOp .Or (b::J5) pos) tb):PE X (.BoolOp .Or (a::b::J5) pos) (QjP ta tb):=by intro aa s σ H Q I h;refine BoolOp_or (Qa (ha aa s σ H _ I h) λv s1⟨x,H1,I1,r1,q1⟩=>?_);obtain⟨c,rfl,q1⟩:=q1;cases r1;refine wpAny_truthy_bool ?_;cases c with|false=>exact hb aa s1 σ H1 Q I1 q1|true=>exact⟨.bl true,H1,I1,rfl,q1⟩
def Qh5(ha:PE X a ta):PE X (.UnaryOp .Not a pos) (QjO ta):=by intro aa s σ H Q I h;refine UnaryOp_ (Qa (ha aa s σ H _ I h) λv s1⟨x,H1,I1,r1,q1⟩=>?_);obtain⟨c,rfl,q1⟩:=q1;cases r1;exact not_of (wpAny_truthy_bool ⟨.bl (!c),H1,I1,rfl,q1⟩)
def tIf(t:TT)(ta tb:TE):TE:=λσ H Q=>t σ H λc H1=>if c=true then ta σ H1 Q else tb σ H1 Q
def Qh4{c:Expr}(hc:PT X c tA)(ha:PE X a ta)(hb:PE X b tb):PE X (.IfExp c a b pos) (tIf tA ta tb):=by intro aa s σ H Q I h;refine wpAny_IfExp (Qa (hc aa s σ H _ I h) λd s1⟨H1,I1,q1⟩=>?_);cases d with|true=>exact ha aa s1 σ H1 Q I1 q1|false=>exact hb aa s1 σ H1 Q I1 q1
end
def SqL(K:W.Frag)(H:Hp)(a:Addr)(xs:List V):Prop:=Rd H a (.lst xs)\/∃(o:Obj)(its:Array Value)(n:Nat),K.lookup a=some o/\o.cls=.type "list"/\o.dict=none/\o.data=.seq its n/\its.size<=sizeLine/\Vals xs its.toList
def SqT(K:W.Frag)(H:Hp)(a:Addr)(xs:List V):Prop:=Rd H a (.tup xs)\/∃(o:Obj)(its:Array Value)(n:Nat),K.lookup a=some o/\o.cls=.type "tuple"/\o.data=.seq its n/\its.size<=sizeLine/\Vals xs its.toList
noncomputable def Qbp:Value->Option V|.none=>some .non|.bool b=>some (.bl b)|.int i _=>some (.int i)|.str x _=>some (.str x)|.bytes b _=>some (.byt b)|.float b _=>some (.flt b)|.ref a=>some (.ref a)|.type n=>some (.ty n)|_=>none
def RelV.abs{x:V}{u:Value}(r:RelV x u):Qbp u=some x:=by cases x with|non=>cases r;rfl|bl _=>cases r;rfl|int _=>obtain⟨t,rfl⟩:=r;rfl|str _=>obtain⟨t,rfl⟩:=r;rfl|byt _=>obtain⟨t,rfl⟩:=r;rfl|flt _=>obtain⟨t,rfl⟩:=r;rfl|ref _=>cases r;rfl|ty _=>cases r;rfl
theorem RelV.inj{x y:V}{u:Value}(r:RelV x u)(q:RelV y u):x=y:=Option.some.inj (r.abs.symm.trans q.abs)
theorem Vals.inj:∀{xs ys:List V}{us:List Value},Vals xs us->Vals ys us->xs=ys|_,_,_,.nil,.nil=>rfl|_,_,_,.cons r t,.cons r' t'=>by rw[r.inj r',Vals.inj t t']
section
variable{X:Cx}{aa:List (Addr×Obj)}{σ:St}{H:Hp}{s:Shared}{a:Addr}{xs ys:List V}
def SqL.of{K:W.Frag}(h:H a=some (.lst xs)):SqL K H a xs:=.inl (.inl h)
def SqT.of{K:W.Frag}(h:H a=some (.tup xs)):SqT K H a xs:=.inl (.inl h)
def Inv.list(I:Inv X aa σ H s)(h:SqL X.K H a xs):∃its:List Value,Vals xs its/\PlainL s.heap a its.toArray/\xs.length<=sizeLine:=by
 rcases h with h|⟨o,its,n,hk,hc,hd,hs,hz,r⟩
 ·obtain⟨z,its,n,r,e⟩:=h.ok I.hok;exact⟨its,r,⟨_,n,e,rfl,rfl,rfl⟩,z⟩
 ·refine⟨its.toList,r,⟨o,n,I.kIn a o hk,hc,hd,by simpa using hs⟩,?_⟩;have e:=r.length;simp only[Oh]at e;omega
def Inv.tuple(I:Inv X aa σ H s)(h:SqT X.K H a xs):∃its:List Value,Vals xs its/\IsTup s.heap a its.toArray/\xs.length<=sizeLine:=by
 rcases h with h|⟨o,its,n,hk,hc,hs,hz,r⟩
 ·obtain⟨z,its,r,p⟩:=h.ok I.hok;exact⟨its,r,p,z⟩
 ·refine⟨its.toList,r,⟨o,I.kIn a o hk,hc,n,by simpa using hs⟩,?_⟩;have e:=r.length;simp only[Oh]at e;omega
def Inv.list_inj(I:Inv X aa σ H s)(h:SqL X.K H a xs)(h':SqL X.K H a ys):xs=ys:=by
 obtain⟨its,r,⟨o,n,e,_,_,d⟩,_⟩:=I.list h;obtain⟨its',r',⟨o',n',e',_,_,d'⟩,_⟩:=I.list h';rw[e]at e';cases e';rw[d]at d';injection d' with d1 _;have:its=its':=by simpa using congrArg Array.toList d1
 subst this;exact r.inj r'
end
noncomputable abbrev Cx.wish(X:Cx)(E:Value->Shared->Prop):Cx:={X with xe:=E}
abbrev Cx.nox(X:Cx):Cx:=X.wish λ_ _=>False
theorem Cx.Ok.wish{X:Cx}(ok:X.Ok)(E:Value->Shared->Prop):(X.wish E).Ok:=⟨ok.mod,ok.kind,ok.glob,ok.blt,ok.above,ok.inj,ok.has,ok.cab,ok.hd,ok.frames,ok.stk,ok.exf,ok.bs,ok.bsz,ok.noex,ok.exfs,ok.funs,ok.frf⟩
def Cx.Ok.unwish{X:Cx}{E:Value->Shared->Prop}(ok:(X.wish E).Ok):X.Ok:=⟨ok.mod,ok.kind,ok.glob,ok.blt,ok.above,ok.inj,ok.has,ok.cab,ok.hd,ok.frames,ok.stk,ok.exf,ok.bs,ok.bsz,ok.noex,ok.exfs,ok.funs,ok.frf⟩
section
variable{X:Cx}{aa:List (Addr×Obj)}{σ:St}{H:Hp}{s:Shared}{E:Value->Shared->Prop}
theorem Inv.wish(I:Inv X aa σ H s)(E:Value->Shared->Prop):Inv (X.wish E) aa σ H s:=⟨I.ok.wish E,I.os,I.bare,I.ab,I.loc,I.cell,I.free,I.freeC,I.pin,I.hok,I.len⟩
theorem Inv.unwish(I:Inv (X.wish E) aa σ H s):Inv X aa σ H s:=⟨I.ok.unwish,I.os,I.bare,I.ab,I.loc,I.cell,I.free,I.freeC,I.pin,I.hok,I.len⟩
theorem SP.unwish{D:Ends}{f:Flow}{s':Shared}(h:SP (X.wish E) aa D f s'):SP X aa D f s':=by cases f with|next=>obtain⟨σ',H',I,q⟩:=h;exact⟨σ',H',I.unwish,q⟩|brk=>obtain⟨σ',H',I,q⟩:=h;exact⟨σ',H',I.unwish,q⟩|cont=>obtain⟨σ',H',I,q⟩:=h;exact⟨σ',H',I.unwish,q⟩|ret u=>obtain⟨v,σ',H',I,r,q⟩:=h;exact⟨v,σ',H',I.unwish,r,q⟩
theorem PE.nox{e:Expr}{t:TE}(h:PE X.nox e t):PE X e t:=λaa s σ H Q I hw=>wpAny_mono (h aa s σ H Q (I.wish _) hw) (λ_ _⟨v,H',I',r,q⟩=>⟨v,H',I'.unwish,r,q⟩) λ_ _ z=>False.elim z
theorem PT.nox{e:Expr}{t:TT}(h:PT X.nox e t):PT X e t:=λaa s σ H Q I hw=>wpAny_mono (h aa s σ H Q (I.wish _) hw) (λ_ _⟨H',I',q⟩=>⟨H',I'.unwish,q⟩) λ_ _ z=>False.elim z
theorem PSs.nox{st:List Stmt}{t:TS}(h:PSs X.nox st t):PSs X st t:=λaa s σ H D I hw=>wpAny_mono (h aa s σ H D (I.wish _) hw) (λ_ _ q=>q.unwish) λ_ _ z=>False.elim z
end
section
variable{X:Cx}{st:Stmt}{J5:List Stmt}{t u:TS}{e:Expr}{te:TE}{pos:Pos}
def QjL:TS:=λD σ H=>D.nx σ H
noncomputable def L6(t u:TS):TS:=λD σ H=>t {D with nx:=u D} σ H
def Bo:PSs X [] QjL:=λ_ _ σ H _ I h=>wpAny_execs_nil ⟨σ,H,I,h⟩
def Tp(h1:PS X st t)(h2:PSs X J5 u):PSs X (st::J5) (L6 t u):=by intro aa s σ H D I h;refine wpAny_execs_cons (Qa (h1 aa s σ H {D with nx:=u D} I h) λf s1 q=>?_);cases f with|next=>obtain⟨σ',H',I',q⟩:=q;exact h2 aa s1 σ' H' D I' q|ret v=>exact q|brk=>exact q|cont=>exact q
def R9(h1:PS X st t):PSs X [st] t:=by intro aa s σ H D I h;refine wpAny_execs_cons (Qa (h1 aa s σ H D I h) λf s1 q=>?_);cases f with|next=>exact wpAny_execs_nil q|ret v=>exact q|brk=>exact q|cont=>exact q
def QjE:TS:=λD σ H=>D.ct σ H
def Qit:PS X (.Continue pos) QjE:=λ_ _ σ H _ I h=>wpAny_Continue ⟨σ,H,I,h⟩
def Inv.quiet{aa:List (Addr×Obj)}{σ:St}{H:Hp}{s:Shared}(I:Inv X aa σ H s):interactive X.env=false:=by simp[interactive,I.ok.kind]
noncomputable def RY(te:TE):TS:=λD σ H=>te σ H λ_ H1=>D.nx σ H1
def Vz(he:PE X e te)(hs:swapsWith e none pos.line X.env=pure false:=by rfl):PS X (.Expr e pos) (RY te):=by intro aa s σ H D I h;exact wpAny_Expr_any (Qa (he aa s σ H _ I h) λv s1⟨x,H1,I1,r1,q1⟩=>⟨σ,H1,I1,q1⟩) I.quiet hs
noncomputable def Qaw(te:TE):TS:=λD σ H=>te σ H D.rt
def Bn(he:PE X e te):PS X (.Return (some e) pos) (Qaw te):=by intro aa s σ H D I h;exact wpAny_Return_some (Qa (he aa s σ H _ I h) λv s1⟨x,H1,I1,r1,q1⟩=>⟨x,σ,H1,I1,r1,q1⟩)
def Qav(c:TT)(t u:TS):TS:=λD σ H=>c σ H λb H1=>if b=true then t D σ H1 else u D σ H1
def Hq{c:Expr}{a b:List Stmt}{tc:TT}(hc:PT X c tc)(ha:PSs X a t)(hb:PSs X b u):PS X (.If c a b pos) (Qav tc t u):=by intro aa s σ H D I h;refine wpAny_If (Qa (hc aa s σ H _ I h) λd s1⟨H1,I1,q1⟩=>?_);cases d with|true=>exact ha aa s1 σ H1 D I1 q1|false=>exact hb aa s1 σ H1 D I1 q1
end
noncomputable abbrev TG:=V->St->Hp->(St->Hp->Prop)->Prop
noncomputable abbrev U1:=List V->St->Hp->(St->Hp->Prop)->Prop
def PG(X:Cx)(target:Expr)(t:TG):Prop:=∀(aa:List (Addr×Obj))(s:Shared)(σ:St)(H:Hp)(v:V)(u:Value)(Q:St->Hp->Prop),Inv X aa σ H s->RelV v u->t v σ H Q->wpAny (model X.prog X.w) X.A (assign target X.env u) (λ_ s'=>∃σ' H',Inv X aa σ' H' s'/\Q σ' H') X.xe s
def PGs(X:Cx)(ts:List Expr)(t:U1):Prop:=∀(aa:List (Addr×Obj))(s:Shared)(σ:St)(H:Hp)(vs:List V)(us:List Value)(Q:St->Hp->Prop),Inv X aa σ H s->Vals vs us->t vs σ H Q->wpAny (model X.prog X.w) X.A (assignInOrder ((assignEach ts X.env).map (·.2)) us) (λ_ s'=>∃σ' H',Inv X aa σ' H' s'/\Q σ' H') X.xe s
noncomputable abbrev Lq:=V->V->V->Hp->(Hp->Prop)->Prop
def EG(X:Cx)(t:Lq):Prop:=∀(aa:List (Addr×Obj))(s:Shared)(σ:St)(H:Hp)(o i v:V)(ov iv u:Value)(Q:Hp->Prop),Inv X aa σ H s->RelV o ov->RelV i iv->RelV v u->t o i v H Q->wpAny (model X.prog X.w) X.A (setItem ov iv u) (λ_ s'=>∃H',Inv X aa σ H' s'/\Q H') X.xe s
abbrev Lp:=V->V->Hp->VK->Prop
def N1(X:Cx)(op:Operator)(t:Lp):Prop:=∀(aa:List (Addr×Obj))(s:Shared)(σ:St)(H:Hp)(x y:V)(v u:Value)(Q:VK),Inv X aa σ H s->RelV x v->RelV y u->t x y H Q->wpAny (model X.prog X.w) X.A (inplaceOp op v u) (EP X aa σ Q) X.xe s
section
variable{X:Cx}{pos:Pos}
def Pq(i:Nat):TG:=λv σ H Q=>Q (σ.set i (some v)) H
def Qia{i:Nat}{x:Str}(hN:X.N.Nodup)(hi:X.N[i]?=some x)(hx:XX X.env.scope x)(hf:X.fn x=true\/X.env.scope.names.lookup x=some .local:=by first|exact .inl rfl|exact .inr rfl|assumption):PG X (.Name x pos) (Pq i):=by intro aa s σ H v u Q I r h;exact wpAny_assign_Name (GZ I hN hi hx r (λs' I'=>⟨_,H,I',h⟩) hf)
def Qej:U1:=λvs σ H Q=>vs=[]/\Q σ H
def Qei(t:TG)(u:U1):U1:=λvs σ H Q=>∃v r,vs=v::r/\t v σ H λσ' H'=>u r σ' H' Q
def Qie:PGs X [] Qej:=by intro aa s σ H vs us Q I r h;obtain⟨e,h⟩:=h;subst e;cases r;exact assignInOrder_nil ⟨σ,H,I,h⟩
def Qid{e:Expr}{es:List Expr}{t:TG}{u:U1}(h1:PG X e t)(h2:PGs X es u)(hs:(assignEach (e::es) X.env).map (·.2)=assign e X.env::(assignEach es X.env).map (·.2):=by rfl):PGs X (e::es) (Qei t u):=by intro aa s σ H vs us Q I r h;obtain⟨v,vr,e1,h⟩:=h;subst e1;cases r with|cons r rr=>rw[hs];refine assignInOrder_cons (Qa (h1 aa s σ H _ _ _ I r h) λ_ s1⟨σ1,H1,I1,q1⟩=>?_);exact h2 aa s1 σ1 H1 _ _ Q I1 rr q1
def Qem(K:W.Frag)(n:Nat)(t:U1):TG:=λv σ H Q=>∃a xs,v=.ref a/\SqT K H a xs/\xs.length=n/\t xs σ H Q
def Qic{es:List Expr}{k:Nat}{t:U1}{n:Nat}(hc:X.calm=true)(h:PGs X es t)(hn:(assignEach es X.env).length=n:=by rfl)(cV:(assignEach es X.env).findIdx? (·.1)=none:=by rfl):PG X (.Tuple es k pos) (Qem X.K n t):=by intro aa s σ H v u Q I r hw;obtain⟨a,xs,e1,hq,hl,hw⟩:=hw;subst e1;cases r;obtain⟨its,rv,ht,hz⟩:=I.tuple hq;refine assign_Tuple_tuple (I.ok.hd hc) ht (by simp[hn,<-hl,rv.length]) cV λh' hx=>?_;have I1:Inv X aa σ H {s with heap:=h'}:=I.kept (t':=s.toks) λb o e=>hx b o (Y3 (Heap.lt_size e)) e;exact h aa _ σ H xs _ Q I1 (by simpa using rv) hw
def C8(to ti:TE)(t:Lq):TG:=λv σ H Q=>to σ H λo H1=>ti σ H1 λi H2=>t o i v H2 λH3=>Q σ H3
def Qib{o i:Expr}{to ti:TE}{t:Lq}(ho:PE X o to)(hi:PE X i ti)(hs:EG X t)(ha:∀v,assign (.Subscript o i pos) X.env v=(do
   let ov<-holding [v] (eval o X.env)let iv<-holding [v,ov] (eval i X.env)standAt pos
   holding [v,ov,iv] (setItem ov iv v)release [v,ov,iv] []):=by intro _;rfl):PG X (.Subscript o i pos) (C8 to ti t):=by
 intro aa s σ H v u Q I r h;rw[ha];refine wpAny_bind (wpAny_holding (Qa (ho aa s σ H _ I h) λov s1⟨x,H1,I1,r1,q1⟩=>?_));refine wpAny_bind (wpAny_holding (Qa (hi aa s1 σ H1 _ I1 q1) λiv s2⟨y,H2,I2,r2,q2⟩=>?_));refine wpAny_bind (wpAny_standAt (wpAny_bind (wpAny_holding (Qa (hs aa s2 σ H2 x y v ov iv u _ I2 r1 r2 r q2) λ_ s3⟨H3,I3,q3⟩=>?_))));exact wpAny_release ⟨σ,H3,I3,q3⟩
def RW(te:TE)(g:TG):TS:=λD σ H=>te σ H λx H1=>g x σ H1 D.nx
def Bl{tg e:Expr}{te:TE}{g:TG}(he:PE X e te)(hg:PG X tg g)(hs:swapsWithSole [tg] e pos.line X.env=pure false:=by rfl)(hw:swappedStores [tg] e X.env=pure none:=by rfl)(h1:(assignEach [tg] X.env).map (·.2)=[assign tg X.env]:=by rfl):PS X (.Assign [tg] e pos) (RW te g):=by intro aa s σ H D I h;refine wpAny_Assign_stores (Qa (he aa s σ H _ I h) λv s1⟨x,H1,I1,r1,q1⟩=>?_) hs hw;rw[h1];exact Qa (hg aa s1 σ H1 x v _ I1 r1 q1) λ_ s2 q=>q
def Mj{i:Nat}{x:Str}{e:Expr}{te:TE}{pos':Pos}(hN:X.N.Nodup)(hi:X.N[i]?=some x)(hx:XX X.env.scope x)(he:PE X e te)(hs:swapsWith e (some (.Name x pos')) pos.line X.env=pure false:=by rfl)(hf:X.fn x=true\/X.env.scope.names.lookup x=some .local:=by first|exact .inl rfl|exact .inr rfl|assumption):PS X (.Assign [.Name x pos'] e pos) (RW te (Pq i)):=by intro aa s σ H D I h;refine wpAny_Assign_Name (Qa (he aa s σ H _ I h) λv s1⟨y,H1,I1,r1,q1⟩=>?_) hs;exact GZ I1 hN hi hx r1 (λs2 I2=>⟨_,H1,I2,q1⟩) hf
noncomputable def QjC(i:Nat)(te:TE)(ti:Lp):TS:=λD σ H=>∃x,σ[i]?=some (some x)/\te σ H λy H1=>ti x y H1 λz H2=>D.nx (σ.set i (some z)) H2
def Qis{i:Nat}{x:Str}{e:Expr}{te:TE}{op:Operator}{ti:Lp}{pos':Pos}(hN:X.N.Nodup)(hi:X.N[i]?=some x)(hx:XX X.env.scope x)(he:PE X e te)(ho:N1 X op ti)(hf:X.fn x=true\/X.env.scope.names.lookup x=some .local:=by first|exact .inl rfl|exact .inr rfl|assumption):PS X (.AugAssign (.Name x pos') op e pos) (QjC i te ti):=by
 intro aa s σ H D I h;obtain⟨v,e1,h⟩:=h;obtain⟨m,hn,hl⟩:=I.loc;have kL:Vu X.env.scope x:=by rcases hx with k|k;exact .inl k;exact .inr (.inl k)
 obtain⟨u,r,l⟩:=hl i x v hi e1 kL;refine wpAny_AugAssign_Name ?_;have go:wpAny (model X.prog X.w) X.A (eval e X.env) (λw s₂=>wpAny (model X.prog X.w) X.A (inplaceOp op u w) (λr s₃=>wpAny (model X.prog X.w) X.A (storeName X.env x r) (λ_=>SP X aa D .next) X.xe s₃) X.xe s₂) X.xe s:=by
  refine Qa (he aa s σ H _ I h) λw s1⟨y,H1,I1,r1,q1⟩=>?_;refine Qa (ho aa s1 σ H1 v y u w _ I1 r r1 q1) λz s2⟨zv,H2,I2,r2,q2⟩=>?_;exact GZ I2 hN hi hx r2 (λs3 I3=>⟨_,H2,I3,q2⟩) hf
 rcases l with⟨hk,hm⟩|⟨hk,c,hc,cE⟩;·exact wpAny_loadName_local I.ok.kind hk hn hm go
 ·rcases hk with hk|hk;·exact wpAny_loadName_cell I.ok.kind hk hc cE go
  ·rcases hx with k|k;·have:X.env.scope.names.lookup x=some .free:=hk;rw[k]at this;cases this
   ·have:X.env.scope.names.lookup x=some .free:=hk;rw[k]at this;cases this
end
section
variable{X:Cx}{pos:Pos}
def QjT(c:TT)(tb:TS):TS:=λD σ H=>∃W:Nat->St->Hp->Prop,(∃m,W m σ H)/\∀m σ H,W m σ H->c σ H λb H1=>if b=true then∃N:St->Hp->Prop,(∀σ' H',N σ' H'->∃m',m'<m/\W m' σ' H')/\tb {D with nx:=N,ct:=N,bk:=D.nx} σ H1 else D.nx σ H1
def Qiv{c:Expr}{body:List Stmt}{tc:TT}{tb:TS}(hp:PassesOwn (model X.prog X.w) X.A X.env X.xe)(hc:PT X c tc)(hb:PSs X body tb):PS X (.While c body [] pos) (QjT tc tb):=by
 intro aa s σ H D I h;obtain⟨W,⟨m0,w0⟩,turn⟩:=h;refine wpAny_While (codeAny_whileLoop (λn s'=>∃σ' H',Inv X aa σ' H' s'/\W n σ' H') ?_ m0 ⟨σ,H,I,w0⟩);rintro n s1⟨σ1,H1,I1,w1⟩;refine wpAny_passesOwn hp (Qa (hc aa s1 σ1 H1 _ I1 (turn n σ1 H1 w1)) λb s2⟨H2,I2,q2⟩=>?_);cases b with
 |true=>
  obtain⟨N,hN,q2⟩:=q2;rw[if_pos rfl];refine wpAny_passesOwn hp (Qa (hb aa s2 σ1 H2 _ I2 q2) λf s3 q3=>?_);cases f with
  |next=>
   obtain⟨σ3,H3,I3,n3⟩:=q3;obtain⟨m',hm,w3⟩:=hN σ3 H3 n3;exact⟨m',hm,σ3,H3,I3,w3⟩|cont=>
   obtain⟨σ3,H3,I3,n3⟩:=q3;obtain⟨m',hm,w3⟩:=hN σ3 H3 n3;exact⟨m',hm,σ3,H3,I3,w3⟩|brk=>exact q3|ret v=>exact q3
 |false=>rw[if_neg W0];exact wpAny_execs_nil ⟨σ1,H2,I2,q2⟩
end
structure It where
 go:Nat->Hp->Prop
 yld:Nat->Hp->V->Hp->Prop
 stop:Nat->Hp->Prop
def Vr(X:Cx)(aa:List (Addr×Obj))(H:Hp)(b:Addr):Prop:=H b=none/\b≠X.env.locals/\b∉X.fs/\(b∈X.ex\/X.s₀.heap.objs.size<=b)/\(∀x c,X.env.cells.lookup x=some c->c≠b)/\∀p∈X.pn++aa,p.1≠b
def Inv.fpOk{X:Cx}{aa:List (Addr×Obj)}{σ:St}{H H':Hp}{s:Shared}{b:Addr}(I:Inv X aa σ H s)(hb:s.heap.objs.size<=b)(hn:H' b=none):Vr X aa H' b:=by
 refine⟨hn,ne_of_gt (VE I.lt hb),I.nofs hb,.inr (ZP I.sz hb),λx c e z=>?_,λp hp z=>?_⟩
 ·obtain⟨v,q⟩:=I.cell x c e;exact absurd (VE q.lt (by rw[z];exact hb)) (lt_irrefl _)
 ·exact absurd (VE (Heap.lt_size (I.pin p hp).1) (by rw[z];exact hb)) (lt_irrefl _)
structure Turn(P:Program)(w:World)(K:W.Frag)(tg:Expr)(J:It)(fp:List Addr)(it:Addr)(tn:Nat->Heap->Prop):Prop where
 mem:it∈fp
 obj:∀i h,tn i h->∀b∈fp,∃o,h.get? b=some o/\∀v,o.data≠.cell v
 keep:∀i h h',tn i h->(∀b∈fp,∀o,h.get? b=some o->h'.get? b=some o)->tn i h'
 item:∀(X:Cx),X.prog=P->X.w=w->X.K=K->X.calm=true->∀(i:Nat)(aa:List (Addr×Obj))(s:Shared)(σ:St)(H:Hp)(E:Value->Shared->Prop),Inv X aa σ H s->(∀b∈fp,Vr X aa H b)->tn i s.heap->J.go i H->wpAny (model P w) X.A (pyNext (.ref it)) (λr s1=>∃u,r=some u/\wpAny (model P w) X.A (letOwnedTupleGo tg (.ref it) u) (λ_ s2=>∃x H',Inv X aa σ H' s2/\RelV x u/\J.yld i H x H'/\tn (i+1) s2.heap/\∀b∈fp,H' b=none) E s1) E s
 done:∀(X:Cx),X.prog=P->X.w=w->X.K=K->X.calm=true->∀(i:Nat)(aa:List (Addr×Obj))(s:Shared)(σ:St)(H:Hp)(E:Value->Shared->Prop),Inv X aa σ H s->(∀b∈fp,Vr X aa H b)->tn i s.heap->J.stop i H->wpAny (model P w) X.A (pyNext (.ref it)) (λr s1=>r=none/\Inv X aa σ H s1) E s
 self:∀(A:Around)(i:Nat)(s:Shared)(Q:Value->Shared->Prop)(E:Value->Shared->Prop),tn i s.heap->Q (.ref it) s->wpAny (model P w) A (pyIter (.ref it)) Q E s
abbrev TI:=St->Hp->(It->Hp->Prop)->Prop
def Lk(X:Cx)(aa:List (Addr×Obj))(σ:St)(tg:Expr)(R:It->Hp->Prop)(iQ:Value)(s2:Shared):Prop:=∃(it:Addr)(fp:List Addr)(tn:Nat->Heap->Prop)(J:It)(H':Hp),iQ=.ref it/\Inv X aa σ H' s2/\Turn X.prog X.w X.K tg J fp it tn/\tn 0 s2.heap/\(∀b∈fp,Vr X aa H' b)/\R J H'
def PI(X:Cx)(tg iter:Expr)(wi:TI):Prop:=∀(aa:List (Addr×Obj))(s:Shared)(σ:St)(H:Hp)(R:It->Hp->Prop),Inv X aa σ H s->wi σ H R->wpAny (model X.prog X.w) X.A (eval iter X.env) (λv s1=>wpAny (model X.prog X.w) X.A (pyIter v) (Lk X aa σ tg R) X.xe s1) X.xe s
def Iw{M:Model}{A:Around}{E:Value->Shared->Prop}{s:Shared}{tg:Expr}{it:Addr}{u:Value}{o:Obj}{n:String}{vs:Array Value}{Q:Unit->Shared->Prop}(ho:s.heap.get? it=some o)(hc:o.cls=.type n)(hd:o.data=.fields vs)(hn:["enumerate","zip","dict_itemiterator","dict_reverseitemiterator","odict_iterator","itertools.zip_longest","itertools.pairwise"].contains n=false)(hQ:Q () s):wpAny M A (letOwnedTupleGo tg (.ref it) u) Q E s:=by unfold letOwnedTupleGo;cases tg<;>first|exact wpAny_pure hQ|(cases u<;>first|exact wpAny_pure hQ|(refine wpAny_bind (wpAny_load ho ?_);rw[hc,hd];show wpAny M A (if(["enumerate","zip","dict_itemiterator","dict_reverseitemiterator","odict_iterator","itertools.zip_longest","itertools.pairwise"].contains n&&vs[0]?==some (rawInt _))=true then _ else _) Q E s;rw[if_neg (by intro h;rw[hn,Bool.false_and]at h;cases h)];exact wpAny_pure hQ))
def Oz(K:W.Frag)(a:Addr):It:=⟨λi H=>∃xs x,SqL K H a xs/\xs[i]?=some x,λi H x H'=>H'=H/\∀xs,SqL K H a xs->xs[i]?=some x,λi H=>∃xs,SqL K H a xs/\xs.length<=i⟩
noncomputable def Lc(lo:Int)(n:Nat):It:=⟨λi _=>i<n,λi H x H'=>H'=H/\x=.int (lo+i),λi _=>n<=i⟩
def Qj8{P:Program}{w:World}{K:W.Frag}{tg:Expr}(a it:Addr):Turn P w K tg (Oz K a) [it] it (λi h=>h.IsListIter it a i)where
 mem:=by simp
 obj:=λi h st b hb=>by
  have e:b=it:=by simpa using hb
  subst e;obtain⟨o,e,c,d⟩:=st;exact⟨o,e,λv z=>by rw[d]at z;cases z⟩
 keep:=λi h h' st k=>st.at λo e=>k it (by simp) o e
 item:=by
  intro X hP hw hK hc i aa s σ H E I hf st hg;subst hP hw hK;obtain⟨xs,x,hq,hx⟩:=hg;obtain⟨its,rv,p,hz⟩:=I.list hq;obtain⟨u,hu,ru⟩:=rv.get hx;obtain⟨f0,f1,f2,f3,f4,f5⟩:=hf it (by simp);refine wpAny_pyNext_list_item st p.isList (x:=u) (by simpa using hu) λh' cc sb=>?_;have I1:Inv X aa σ H {s with heap:=h'}:=I.turned (t':=s.toks) (λb o hb e=>(sb.2 b hb).trans e) f0 f1 f3 f4 f5;obtain⟨o,e,c,d⟩:=id cc;exact⟨u,rfl,Iw (s:={s with heap:=h'}) e c d (by decide) ⟨x,H,I1,ru,⟨rfl,λys hy=>by rw[I.list_inj hy hq];exact hx⟩,cc,λb hb=>(hf b hb).1⟩⟩
 done:=by
  intro X hP hw hK hc i aa s σ H E I hf st hg;subst hP hw hK;obtain⟨xs,hq,hx⟩:=hg;obtain⟨its,rv,p,hz⟩:=I.list hq;obtain⟨f0,f1,f2,f3,f4,f5⟩:=hf it (by simp);have hl:=rv.length;exact wpAny_pyNext_list_end (I.ok.hd hc) st p.isList (by simp;omega) λh' eb=>⟨rfl,I.turned (t':=s.toks) (λb o hb e=>eb b o hb e) f0 f1 f3 f4 f5⟩
 self:=λ_ _ _ _ _ st h=>wpAny_pyIter_listiter st h
def Qj9{P:Program}{w:World}{K:W.Frag}{tg:Expr}(it:Addr)(lo:Int)(n:Nat):Turn P w K tg (Lc lo n) [it] it (λi h=>IsRangeIter h it (lo+(i:Nat)*1) ((n:Int)-(i:Nat)) 1)where
 mem:=by simp
 obj:=λi h st b hb=>by
  have e:b=it:=by simpa using hb
  subst e;exact⟨_,st,λv z=>by have z':Data.fields _=Data.cell v:=z;cases z'⟩
 keep:=λi h h' st k=>k it (by simp) _ st
 item:=by
  intro X hP hw hK hc i aa s σ H E I hf st hg;subst hP hw hK;obtain⟨f0,f1,f2,f3,f4,f5⟩:=hf it (by simp);have W:=Walks.range (prog:=X.prog) (w:=X.w) (I.ok.hd hc) it lo 1 n;refine W.item i s _ _ hg st λv h' tk hv cc kk=>?_;obtain⟨t,rfl⟩:=hv;have I1:Inv X aa σ H {s with heap:=h',toks:=tk}:=I.turned (λb o hb e=>kk b o (by simpa using hb) e) f0 f1 f3 f4 f5;refine⟨_,rfl,Iw (s:={s with heap:=h',toks:=tk}) (n:="range_iterator") cc rfl rfl (by decide) ⟨.int (lo+i),H,I1,⟨t,?_⟩,⟨rfl,rfl⟩,cc,λb hb=>(hf b hb).1⟩⟩;rw[Int.mul_one]
 done:=by
  intro X hP hw hK hc i aa s σ H E I hf st hg;subst hP hw hK;obtain⟨f0,f1,f2,f3,f4,f5⟩:=hf it (by simp);exact wpAny_pyNext_range_end (I.ok.hd hc) st (by have:n<=i:=hg;omega) λh' eb=>⟨rfl,I.turned (t':=s.toks) (λb o hb e=>eb b o hb e) f0 f1 f3 f4 f5⟩
 self:=λ_ _ _ _ _ st h=>wpAny_pyIter_rangeiter st h
section
variable{X:Cx}{tg:Expr}
def QeB(K:W.Frag)(tl:TE):TI:=λσ H R=>tl σ H λx H1=>∃a,x=.ref a/\(∃xs,SqL K H1 a xs)/\R (Oz K a) H1
def Bf{l:Expr}{tl:TE}(hl:PE X l tl):PI X tg l (QeB X.K tl):=by
 intro aa s σ H R I h;refine Qa (hl aa s σ H _ I h) λv s1⟨x,H1,I1,r1,q1⟩=>?_;obtain⟨a,e,⟨xs,hq⟩,q⟩:=q1;subst e;cases r1;obtain⟨its,rv,p,hz⟩:=I1.list hq;refine wpAny_pyIter_list p.isList ?_;refine⟨s1.heap.objs.size,[s1.heap.objs.size],_,_,H1,rfl,I1.kept (t':=s1.toks) λb o e=>Heap.get?_push_of_some _ e,Qj8 a _,⟨_,Heap.get?_push_size _ rfl,rfl,rfl⟩,λb hb=>?_,q⟩;have e:b=s1.heap.objs.size:=by simpa using hb
 subst e;exact I1.fpOk (Qx _) (I1.hok.fresh (Qx _))
def QiQ{aa:List (Addr×Obj)}{σ:St}{H:Hp}{s:Shared}{R:It->Hp->Prop}{E:Value->Shared->Prop}{lo hi:Int}{t u v:Tok}{tk:Nat}(I:Inv X aa σ H s)(h1:-2^62<=lo)(h2:lo<2^62)(h3:-2^62<=hi)(h4:hi<2^62)(q:R (Lc lo (hi-lo).toNat) H):wpAny (model X.prog X.w) X.A (pyIter (.ref s.heap.objs.size)) (Lk X aa σ tg R) E {s with heap:=s.heap.push {cls:=.type "range",data:=.fields #[.int lo t,.int hi u,.int 1 v]},toks:=tk}:=by
 refine wpAny_pyIter_range (IsRange.new ..) (small_one h1 h2 h3 h4) ? _;have I1:Inv X aa σ H {s with heap:=s.heap.push {cls:=.type "range",data:=.fields #[.int lo t,.int hi u,.int 1 v]},toks:=tk}:=I.kept λb o e=>Heap.get?_push_of_some _ e;refine⟨(s.heap.push {cls:=.type "range",data:=.fields #[.int lo t,.int hi u,.int 1 v]}).objs.size,[(s.heap.push {cls:=.type "range",data:=.fields #[.int lo t,.int hi u,.int 1 v]}).objs.size],_,_,H,rfl,I1.kept (t':=tk) λb o e=>Heap.get?_push_of_some _ e,Qj9 _ lo (hi-lo).toNat,? _,λb hb=>? _,q⟩
 ·have e1:lo+((0:Nat):Int)*1=lo:=by simp
  have e2:(((hi-lo).toNat:Nat):Int)-((0:Nat):Int)=Builtin.Range.rangeSize lo hi 1:=by rw[rangeSize_one];split<;>omega
  show IsRangeIter _ _ (lo+((0:Nat):Int)*1) ((((hi-lo).toNat:Nat):Int)-((0:Nat):Int)) 1;rw[e1,e2];exact Heap.get?_push_size _ rfl
 ·have e:b=(s.heap.push {cls:=.type "range",data:=.fields #[.int lo t,.int hi u,.int 1 v]}).objs.size:=by simpa using hb
  subst e;exact I1.fpOk (Qx _) (I1.hok.fresh (Qx _))
def QeC(ta:TA):TI:=λσ H R=>ta σ H λvs H1=>∃j:Int,vs=[.int j]/\-2^62<=j/\j<2^62/\R (Lc 0 j.toNat) H1
def Qig{a:Expr}{ta:TA}{p pos:Pos}(hg:Gl X "range")(hm:X.mg "range"=none)(ha:PA X [a] ta)(hs:starEach [a] X.env=[(false,eval a X.env)]:=by rfl):PI X tg (.Call (.Name "range" p) [a] [] pos) (QeC ta):=by intro aa s σ H R I h;refine Call_ (Sr I hg hm boot_range (PyProof.Rows.callWith_type1 (Qa (ha pos aa s σ H _ I h) λus s1⟨vs,H1,I1,r1,q1⟩=>?_) hs rfl));obtain⟨j,e,q1,q2,q⟩:=q1;subst e;cases r1 with|cons r rr=>cases rr;obtain⟨t,rfl⟩:=r;exact call_range_1 (QiQ I1 (by omega) (by omega) q1 q2 (by simpa using q))
def QjK(wi:TI)(g:TG)(tb:TS):TS:=λD σ H=>wi σ H λJ H1=>∃W:Nat->Nat->St->Hp->Prop,(∃m,W 0 m σ H1)/\∀i m σ H,W i m σ H->J.stop i H/\D.nx σ H\/J.go i H/\∃N:St->Hp->Prop,(∀σ' H',N σ' H'->∃m',m'<m/\W (i+1) m' σ' H')/\∀x H',J.yld i H x H'->g x σ H' λσ2 H2=>tb {D with nx:=N,ct:=N,bk:=D.nx} σ2 H2
noncomputable def Of(fp:List Addr)(h:Heap):List (Addr×Obj):=fp.filterMap λb=>(h.get? b).map λo=>(b,o)
def Nw{fp:List Addr}{h:Heap}{b:Addr}{o:Obj}(hb:b∈fp)(e:h.get? b=some o):(b,o)∈Of fp h:=List.mem_filterMap.mpr ⟨b,hb,by rw[e];rfl⟩
def Qgj{fp:List Addr}{h:Heap}{p:Addr×Obj}(hp:p∈Of fp h):p.1∈fp/\h.get? p.1=some p.2:=by obtain⟨b,hb,e⟩:=List.mem_filterMap.mp hp;cases q:h.get? b with|none=>rw[q]at e;cases e|some o=>rw[q]at e;have e':(b,o)=p:=Option.some.inj e;subst e';exact⟨hb,q⟩
def Inv.pinned{aa:List (Addr×Obj)}{σ:St}{H:Hp}{s:Shared}{fp:List Addr}(I:Inv X aa σ H s)(hf:∀b∈fp,Vr X aa H b)(ho:∀b∈fp,∃o,s.heap.get? b=some o/\∀v,o.data≠.cell v):Inv X (aa++Of fp s.heap) σ H s:=I.pins_of λp hp=>(q_7.mp hp).elim (λz=>I.pin p (YF _ z)) λz=>by obtain⟨hb,e⟩:=Qgj z;obtain⟨f0,f1,f2,_⟩:=hf p.1 hb;obtain⟨o,e',d⟩:=ho p.1 hb;rw[e]at e';cases e';exact⟨e,f0,f1,f2,d⟩
def Inv.unpinned{aa pl:List (Addr×Obj)}{σ:St}{H:Hp}{s:Shared}(I:Inv X (aa++pl) σ H s):Inv X aa σ H s:=I.pins_of λp hp=>I.pin p (YF _ (V0 _ hp))
def Bm{iter:Expr}{body:List Stmt}{wi:TI}{g:TG}{tb:TS}{pos:Pos}(hp:PassesOwn (model X.prog X.w) X.A X.env X.xe)(hc:X.calm=true)(hi:PI X tg iter wi)(hg:PG X tg g)(hb:PSs X body tb)(hs:∀x,foldedSetIterable iter X.env x=pure x:=by intro _;rfl):PS X (.For tg iter body [] pos) (QjK wi g tb):=by
 intro aa s σ H D I h;refine wpAny_For (Qa (hi aa s σ H _ I h) λv s1 h1=>Qa h1 λiQ s2 h2=>?_) hs;obtain⟨it,fp,tn,J,H2,e,I2,T,ef,f2,W,⟨m0,w0⟩,turn⟩:=h2;subst e;have stat:∀{H':Hp},(∀b∈fp,H' b=none)->∀b∈fp,Vr X aa H' b:=λhn b hb=>⟨hn b hb,(f2 b hb).2⟩;refine codeAny_forLoop_any (λn s'=>∃i σ' H',Inv X aa σ' H' s'/\tn i s'.heap/\(∀b∈fp,H' b=none)/\W i n σ' H') ?_ m0 ⟨0,σ,H2,I2,ef,λb hb=>(f2 b hb).1,w0⟩;rintro n s3⟨i,σ3,H3,I3,eR,gh,w3⟩;rcases turn i n σ3 H3 w3 with⟨stop,qn⟩|⟨go,N,hN,step⟩
 ·refine wpAny_passesOwn hp (Qa (T.done X rfl rfl rfl hc i aa s3 σ3 H3 X.xe I3 (stat gh) eR stop) λr s4⟨hr,I4⟩=>?_);subst hr;exact wpAny_execs_nil ⟨σ3,H3,I4,qn⟩
 ·refine wpAny_passesOwn hp (Qa (T.item X rfl rfl rfl hc i aa s3 σ3 H3 X.xe I3 (stat gh) eR go) λr s4⟨u,hr,h4⟩=>?_);subst hr;refine wpAny_passesOwn hp (Qa h4 λ_ s5⟨x,H5,I5,r5,y5,eQ,jf⟩=>?_);have js:=I5.pinned (stat jf) (T.obj _ _ eQ);refine wpAny_passesOwn hp (Qa (hg _ s5 σ3 H5 x u _ js r5 (step x H5 y5)) λ_ s6⟨σ6,H6,I6,q6⟩=>?_);refine wpAny_passesOwn hp (Qa (hb _ s6 σ6 H6 _ I6 q6) λf s7 q7=>?_);have again:∀{σ7:St}{H7:Hp},Inv X (aa++Of fp s5.heap) σ7 H7 s7->N σ7 H7->∃m,m<n/\∃i σ' H',Inv X aa σ' H' s7/\tn i s7.heap/\(∀b∈fp,H' b=none)/\W i m σ' H':=λ{σ7 H7}I7 n7=>by
   obtain⟨m',hm,w7⟩:=hN σ7 H7 n7;refine⟨m',hm,i+1,σ7,H7,I7.unpinned,T.keep _ _ _ eQ λb hb o e=>(I7.pin (b,o) (YF _ (YF _ (Nw hb e)))).1,λb hb=>?_,w7⟩;obtain⟨o,e,d⟩:=T.obj _ _ eQ b hb;exact(I7.pin (b,o) (YF _ (YF _ (Nw hb e)))).2.1
  cases f with
  |next=>obtain⟨σ7,H7,I7,n7⟩:=q7;exact again I7 n7|cont=>obtain⟨σ7,H7,I7,n7⟩:=q7;exact again I7 n7|brk=>obtain⟨σ7,H7,I7,q7⟩:=q7;exact⟨σ7,H7,I7.unpinned,q7⟩|ret v=>obtain⟨x7,σ7,H7,I7,r7,q7⟩:=q7;exact⟨x7,σ7,H7,I7.unpinned,r7,q7⟩
end
abbrev R2:=V->V->Hp->VK->Prop
def OpR(X:Cx)(f:Value->Value->Sem Value)(r:R2):Prop:=∀(aa:List (Addr×Obj))(s:Shared)(σ:St)(H:Hp)(x y:V)(v u:Value)(Q:VK),Inv X aa σ H s->RelV x v->RelV y u->r x y H Q->wpAny (model X.prog X.w) X.A (f v u) (EP X aa σ Q) X.xe s
def Lr(X:Cx)(f:Value->Sem Value)(r:V->Hp->VK->Prop):Prop:=∀(aa:List (Addr×Obj))(s:Shared)(σ:St)(H:Hp)(x:V)(v:Value)(Q:VK),Inv X aa σ H s->RelV x v->r x H Q->wpAny (model X.prog X.w) X.A (f v) (EP X aa σ Q) X.xe s
def CallR(X:Cx)(f:Value)(r:List V->Hp->VK->Prop):Prop:=∀(aa:List (Addr×Obj))(s:Shared)(σ:St)(H:Hp)(xs:List V)(us:List Value)(Q:VK),Inv X aa σ H s->Vals xs us->r xs H Q->wpAny (model X.prog X.w) X.A (call f us) (EP X aa σ Q) X.xe s
noncomputable def X6(r:R2)(ta tb:TE):TE:=λσ H Q=>ta σ H λx H1=>tb σ H1 λy H2=>r x y H2 Q
noncomputable def tUn(r:V->Hp->VK->Prop)(ta:TE):TE:=λσ H Q=>ta σ H λx H1=>r x H1 Q
noncomputable def rI(C:Int->Int->Prop)(g:Int->Int->V):R2:=λx y H Q=>∃i j,x=.int i/\y=.int j/\C i j/\Q (g i j) H
noncomputable def YK(g:Int->Int->V):R2:=λx y H Q=>∃i j,x=.int i/\y=.int j/\Q (g i j) H
noncomputable def rU(g:Int->V):V->Hp->VK->Prop:=λx H Q=>∃i,x=.int i/\Q (g i) H
section
variable{X:Cx}{a b c:Expr}{ta tb tc:TE}{pos:Pos}
def IT(ha:PE X a ta)(hb:PE X b tb){aa:List (Addr×Obj)}{s:Shared}{σ:St}{H:Hp}{R:V->V->Hp->Prop}(I:Inv X aa σ H s)(h:ta σ H λx H1=>tb σ H1 λy H2=>R x y H2){Q:Value->Shared->Prop}{f:Value->Value->Sem Value}(hf:∀v u s2 x y H2,Inv X aa σ H2 s2->RelV x v->RelV y u->R x y H2->wpAny (model X.prog X.w) X.A (f v u) Q X.xe s2):wpAny (model X.prog X.w) X.A (eval a X.env) (λv s₁=>wpAny (model X.prog X.w) X.A (eval b X.env) (λu s₂=>wpAny (model X.prog X.w) X.A (f v u) Q X.xe s₂) X.xe s₁) X.xe s:=by refine Qa (ha aa s σ H _ I h) λv s1⟨x,H1,I1,r1,q1⟩=>?_;refine Qa (hb aa s1 σ H1 _ I1 q1) λu s2⟨y,H2,I2,r2,q2⟩=>?_;exact hf v u s2 x y H2 I2 r1 r2 q2
def Hn{op:Operator}{r:R2}(ho:OpR X (binaryOp op) r)(ha:PE X a ta)(hb:PE X b tb):PE X (.BinOp a op b pos) (X6 r ta tb):=by intro aa s σ H Q I h;exact wpAny_BinOp (IT ha hb I h λv u s2 x y H2 I2 rx ry q=>ho aa s2 σ H2 x y v u Q I2 rx ry q)
def Ho{op:UnaryOp}{r:V->Hp->VK->Prop}(ho:Lr X (unaryOp op) r)(ha:PE X a ta):PE X (.UnaryOp op a pos) (tUn r ta):=by intro aa s σ H Q I h;exact UnaryOp_ (Qa (ha aa s σ H _ I h) λv s1⟨x,H1,I1,r1,q1⟩=>ho aa s1 σ H1 x v Q I1 r1 q1)
def XO{f:Value->Value->Sem Value}{C:Int->Int->Prop}{g:Int->Int->Int}(rule:∀(i j:Int)(t u:Tok)(s:Shared)(Q:Value->Shared->Prop)(E:Value->Shared->Prop),C i j->Q (.int (g i j) s.toks) {s with toks:=s.toks+1}->wpAny (model X.prog X.w) X.A (f (.int i t) (.int j u)) Q E s):OpR X f (rI C λi j=>.int (g i j)):=by intro aa s σ H x y v u Q I rx ry h;obtain⟨i,j,rfl,rfl,hc,q⟩:=h;obtain⟨t,rfl⟩:=rx;obtain⟨t',rfl⟩:=ry;exact rule i j t t' s _ _ hc ⟨.int (g i j),H,I.tok _,⟨_,rfl⟩,q⟩
def M5{f:Value->Value->Sem Value}{g:Int->Int->Int}(rule:∀(i j:Int)(t u:Tok)(s:Shared)(Q:Value->Shared->Prop)(E:Value->Shared->Prop),Q (.int (g i j) s.toks) {s with toks:=s.toks+1}->wpAny (model X.prog X.w) X.A (f (.int i t) (.int j u)) Q E s):OpR X f (YK λi j=>.int (g i j)):=by intro aa s σ H x y v u Q I rx ry h;obtain⟨i,j,rfl,rfl,q⟩:=h;obtain⟨t,rfl⟩:=rx;obtain⟨t',rfl⟩:=ry;exact rule i j t t' s _ _ ⟨.int (g i j),H,I.tok _,⟨_,rfl⟩,q⟩
def Hf{f:Value->Value->Sem Value}{g:Int->Int->Bool}(rule:∀(i j:Int)(t u:Tok)(s:Shared)(Q:Value->Shared->Prop)(E:Value->Shared->Prop),Q (.bool (g i j)) s->wpAny (model X.prog X.w) X.A (f (.int i t) (.int j u)) Q E s):OpR X f (YK λi j=>.bl (g i j)):=by intro aa s σ H x y v u Q I rx ry h;obtain⟨i,j,rfl,rfl,q⟩:=h;obtain⟨t,rfl⟩:=rx;obtain⟨t',rfl⟩:=ry;exact rule i j t t' s _ _ ⟨.bl (g i j),H,I,rfl,q⟩
def LH(i j:Int):Prop:=0<j/\j<1073741824
def LI(i j:Int):Prop:=0<=j/\j<=1000000/\i.natAbs<2^64
def CMul(i j:Int):Prop:=-2^64<i/\i<2^64\/-2^64<j/\j<2^64
def CMul.ok{i j:Int}(h:CMul i j):IntMulOk i j:=by
 rcases h with⟨h1,h2⟩|⟨h1,h2⟩;·exact .of_left (intBits_le_64 h1 h2)
 ·exact .of_right (intBits_le_64 h1 h2)
def Qhu:OpR X (binaryOp .Add) (YK λi j=>.int (i+j)):=M5 λ_ _ _ _ _ _ _ q=>add_int q
def QhK:OpR X (binaryOp .Sub) (YK λi j=>.int (i-j)):=M5 λ_ _ _ _ _ _ _ q=>sub_int q
def BU:OpR X (binaryOp .Mult) (rI CMul λi j=>.int (i*j)):=XO λ_ _ _ _ _ _ _ hc q=>mul_int q hc.ok
def Qhx:OpR X (binaryOp .FloorDiv) (rI LH λi j=>.int (i/j)):=XO λi j _ _ _ _ _ hc q=>by have h1:(0:Int)<j:=hc.1;have h2:j<1073741824:=hc.2;exact floordiv_int (by omega) (by rw[Int.fdiv_eq_ediv_of_nonneg i (by omega)];exact q) (.inl (PyProof.noPylong_small (by omega)))
def QhE:OpR X (binaryOp .Mod) (rI (λ_ j=>0<j) λi j=>.int (i%j)):=XO λi j _ _ _ _ _ hc q=>by have h1:(0:Int)<j:=hc;exact mod_int' (by omega) (by rw[Int.fmod_eq_emod_of_nonneg i (by omega)];exact q)
def QhI:OpR X (binaryOp .Pow) (rI LI λi j=>.int (i^j.toNat)):=XO λ_ _ _ _ _ _ _ hc q=>pow_int_small hc.1 hc.2.1 hc.2.2 q
def QeJ:OpR X (inplaceOp .Add) (YK λi j=>.int (i+j)):=M5 λ_ _ _ _ _ _ _ q=>iadd_int q
def QeL:OpR X (inplaceOp .Sub) (YK λi j=>.int (i-j)):=M5 λ_ _ _ _ _ _ _ q=>isub_int q
def unI{f:Value->Sem Value}{g:Int->Int}(rule:∀(i:Int)(t:Tok)(s:Shared)(Q:Value->Shared->Prop)(E:Value->Shared->Prop),Q (.int (g i) s.toks) {s with toks:=s.toks+1}->wpAny (model X.prog X.w) X.A (f (.int i t)) Q E s):Lr X f (rU λi=>.int (g i)):=by intro aa s σ H x v Q I rx h;obtain⟨i,rfl,q⟩:=h;obtain⟨t,rfl⟩:=rx;exact rule i t s _ _ ⟨.int (g i),H,I.tok _,⟨_,rfl⟩,q⟩
def Gn:Lr X (unaryOp .USub) (rU λi=>.int (-i)):=unI λ_ _ _ _ _ q=>neg_int q
end
section
variable{X:Cx}{a b c:Expr}{ta tb tc:TE}{pos:Pos}
def QhD:OpR X (compareOp .Lt) (YK λi j=>.bl (decide (i<j))):=Hf λ_ _ _ _ _ _ _ q=>lt_int q
def QhB:OpR X (compareOp .LtE) (YK λi j=>.bl (decide (i<=j))):=Hf λ_ _ _ _ _ _ _ q=>le_int q
def Qhy:OpR X (compareOp .Gt) (YK λi j=>.bl (decide (j<i))):=Hf λ_ _ _ _ _ _ _ q=>gt_int q
def OpR.or{f:Value->Value->Sem Value}{r r':R2}(h:OpR X f r)(h':OpR X f r'):OpR X f λx y H Q=>r x y H Q\/r' x y H Q:=by
 intro aa s σ H x y v u Q I rx ry q;rcases q with q|q;·exact h aa s σ H x y v u Q I rx ry q
 ·exact h' aa s σ H x y v u Q I rx ry q
def Z8(b:Expr){op:CmpOp}(h:op≠.In:=by decide)(h2:op≠.NotIn:=by decide):behindInMarks op b=false:=by
 have e1:(op==CmpOp.In)=false:=by cases op<;>first|rfl|exact absurd rfl h
 have e2:(op==CmpOp.NotIn)=false:=by cases op<;>first|rfl|exact absurd rfl h2
 cases b<;>simp[behindInMarks,e1,e2]
def QhZ{op:CmpOp}{r:R2}(ho:OpR X (compareOp op) r)(ha:PE X a ta)(hb:PE X b tb)(hm:behindInMarks op b=false):PE X (.Compare a [op] [b] pos) (X6 r ta tb):=by intro aa s σ H Q I h;exact wpAny_Compare1 (IT ha hb I h λv u s2 x y H2 I2 rx ry q=>ho aa s2 σ H2 x y v u Q I2 rx ry q) hm
def QjS(t:TE):TT:=λσ H Q=>t σ H λx H'=>∃k,x=.bl k/\Q k H'
def Qix{op:CmpOp}{r:R2}(ho:OpR X (compareOp op) r)(ha:PE X a ta)(hb:PE X b tb)(hm:behindInMarks op b=false):PT X (.Compare a [op] [b] pos) (QjS (X6 r ta tb)):=by intro aa s σ H Q I h;refine wpAny_isTrue_Compare1 (Qa (ha aa s σ H _ I h) λv s1⟨x,H1,I1,r1,q1⟩=>Qa (hb aa s1 σ H1 _ I1 q1) λu s2⟨y,H2,I2,r2,q2⟩=>Qa (ho aa s2 σ H2 x y v u _ I2 r1 r2 q2) λc s3⟨z,H3,I3,r3,k,e,q3⟩=>?_) hm;subst e;cases r3;exact wpAny_truthy_bool ⟨H3,I3,q3⟩
noncomputable def Qau(r r':R2)(ta tb tc:TE):TE:=λσ H Q=>ta σ H λx H1=>tb σ H1 λy H2=>r x y H2 λz H3=>∃k,z=.bl k/\if k=true then tc σ H3 λw' H4=>r' y w' H4 Q else Q (.bl false) H3
def QhY{op eS:CmpOp}{r r':R2}(ho:OpR X (compareOp op) r)(cD:OpR X (compareOp eS) r')(ha:PE X a ta)(hb:PE X b tb)(hc:PE X c tc)(hm:lastMarks [op,eS] [b,c]=false:=by with_unfolding_all rfl):PE X (.Compare a [op,eS] [b,c] pos) (Qau r r' ta tb tc):=by intro aa s σ H Q I h;refine Compare_chain (Qa (ha aa s σ H _ I h) λv s1⟨x,H1,I1,r1,q1⟩=>chain_link (Qa (hb aa s1 σ H1 _ I1 q1) λu s2⟨y,H2,I2,r2,q2⟩=>Qa (ho aa s2 σ H2 x y v u _ I2 r1 r2 q2) λd s3⟨z,H3,I3,r3,k,e,q3⟩=>?_)) hm;subst e;cases r3;refine wpAny_truthy_bool ?_;cases k with|false=>exact ite_ff ⟨.bl false,H3,I3,rfl,q3⟩|true=>exact ite_tt (chain_last (Qa (hc aa s3 σ H3 _ I3 q3) λw' s4⟨z',H4,I4,r4,q4⟩=>cD aa s4 σ H4 y z' u w' Q I4 r2 r4 q4))
def Su:(sizeLine:Nat)<2^63:=by rw[sizeLine_eq];decide
def Hh:OpR X (binaryOp .Add) λx y H Q=>∃i j,x=.str i/\y=.str j/\i.length+j.length<=sizeLine/\Q (.str (i++j)) H:=by intro aa s σ H x y v u Q I rx ry h;obtain⟨i,j,rfl,rfl,hz,q⟩:=h;obtain⟨t,rfl⟩:=rx;obtain⟨t',rfl⟩:=ry;exact add_str (λt' tk=>⟨.str (i++j),H,I.tok _,⟨_,rfl⟩,q⟩) hz
def QeK:OpR X (inplaceOp .Add) λx y H Q=>∃i j,x=.str i/\y=.str j/\i.length+j.length<=sizeLine/\Q (.str (i++j)) H:=by intro aa s σ H x y v u Q I rx ry h;obtain⟨i,j,rfl,rfl,hz,q⟩:=h;obtain⟨t,rfl⟩:=rx;obtain⟨t',rfl⟩:=ry;exact iadd_str (λt' tk=>⟨.str (i++j),H,I.tok _,⟨_,rfl⟩,q⟩) hz
def Xy{x:V}{us:List Value}(r:Vals [x] us):∃u,us=[u]/\RelV x u:=by cases r with|cons r1 r2=>cases r2;exact⟨_,rfl,r1⟩
def LC{x y:V}{us:List Value}(r:Vals [x,y] us):∃u w',us=[u,w']/\RelV x u/\RelV y w':=by cases r with|cons r1 r2=>cases r2 with|cons r3 r4=>cases r4;exact⟨_,_,rfl,r1,r3⟩
def QbR(hc:X.calm=true):CallR X (.builtin "max") λxs H Q=>∃i j,xs=[.int i,.int j]/\Q (.int (if j>i then j else i)) H:=by
 intro aa s σ H xs us Q I r h;obtain⟨i,j,rfl,q⟩:=h;obtain⟨u,w',rfl,⟨t,rfl⟩,⟨t',rfl⟩⟩:=LC r;refine max_two_ints (I.ok.hd hc) λh' tk k=>⟨_,H,I.kept k,? _,q⟩;by_cases hj:j>i;·rw[if_pos hj,if_pos hj];exact⟨_,rfl⟩
 ·rw[if_neg hj,if_neg hj];exact⟨_,rfl⟩
def QbN:CallR X (.type "int") λxs H Q=>(∃i,xs=[.int i]/\Q (.int i) H)\/∃k,xs=[.bl k]/\Q (.int (if k then 1 else 0)) H:=by
 intro aa s σ H xs us Q I r h;rcases h with⟨i,rfl,q⟩|⟨k,rfl,q⟩;·obtain⟨u,rfl,t,rfl⟩:=Xy r;exact call_int_int ⟨.int i,H,I,⟨_,rfl⟩,q⟩
 ·obtain⟨u,rfl,r1⟩:=Xy r;cases r1;exact call_int_bool ⟨.int (if k then 1 else 0),H,I.tok _,⟨_,rfl⟩,q⟩
def QbT:CallR X (.type "str") λxs H Q=>∃i,xs=[.int i]/\i.natAbs.log2<1920/\Q (.str (toString i)) H:=by intro aa s σ H xs us Q I r h;obtain⟨i,rfl,hz,q⟩:=h;obtain⟨u,rfl,t,rfl⟩:=Xy r;exact PySem.P.str_of_int hz ⟨.str _,H,I.tok _,⟨_,rfl⟩,q⟩
end
structure ObjM(h:Heap)(x dx C:Addr)(mA:Str->Option Value):Prop where
 obj:h.get? x=some (W.instObj C dx)ns:h.Ns1 dx mA
 ne:dx≠x
def Qfy{h:Heap}{dx:Addr}{mA:Str->Option Value}(n:h.Ns1 dx mA):∃od,h.get? dx=some od/\∀name,W.lookIn name od=some (mA name):=by
 obtain⟨o,es,ep,ho,hd,hk,_,hm⟩:=n;refine⟨o,ho,λname=>?_⟩;have e:=hm name;unfold nsFind findBy at e;rw[<-Array.find?_toList]at e;unfold W.lookIn;rw[hd];dsimp only;split;·rename_i y q;rw[q]at e;exact congrArg some e
 ·rename_i q;rw[q]at e;have a:es.toList.any (·.refKey)=false:=by
   rw[List.any_eq_false];intro y hy;obtain⟨z,t,fu⟩:=hk y (Array.mem_toList_iff.mp hy);simp[DictEntry.refKey,fu]
  have a':¬es.toList.any (·.refKey)=true:=by rw[a];exact W0
  rw[if_neg a'];exact congrArg some e
def ObjM.look{h:Heap}{x dx C:Addr}{mA:Str->Option Value}(I:ObjM h x dx C mA):∃od,W.InstAt h x (W.instObj C dx) C (some od)/\∀name,W.lookIn name od=some (mA name):=let⟨od,ho,hl⟩:=Qfy I.ns
 ⟨od,⟨I.obj,rfl,rfl,ho⟩,hl⟩
def RelO.some_of{v:V}{o:Option Value}(r:RelO (some v) o):∃u,o=some u/\RelV v u:=by cases o with|none=>exact(show False from r).elim|some u=>exact⟨u,rfl,r⟩
section
variable{P:Program}{w:World}{H H':Hp}{h h':Heap}{a C dx:Addr}{fs je:List (Str×V)}
def QeG(hok:HOk P w H h)(e:H a=some (.ins C dx fs)):∃mA,ObjM h a dx C mA/\(∀f,RelO (fs.lookup f) (mA f))/\PySem.Within mA (fs.map (·.1))/\fs.length<=1000/\H dx=some (.own a):=by obtain⟨d,z,ne,ob,mA,n,r,q⟩:=show ObjOk P w H h a (.ins C dx fs)from hok a _ e;exact⟨mA,⟨ob,n,ne⟩,r,q,z,d⟩
end
structure Cls(K:W.Frag)(C:Addr):Prop where
 pg:W.plainGet K C Str.empty=true
 hd:W.hasDictIn K C=true
 po:W.plainOver K C=true
 sa:W.findIn K (.ref C) "__setattr__"=some (some (.builtin "object.__setattr__"))
def Cls.get{K:W.Frag}{C:Addr}(c:Cls K C)(f:Str):W.plainGet K C f=true:=c.pg
section
variable{X:Cx}{aa:List (Addr×Obj)}{σ:St}{H:Hp}{s:Shared}{A:Around}{E:Value->Shared->Prop}{Q:Value->Shared->Prop}{c:Value}{b:Bool}
inductive TyOf(K:W.Frag)(H:Hp):V->Value->Prop where|non:TyOf K H .non (.type "NoneType")|bl(x:Bool):TyOf K H (.bl x) (.type "bool")|int(i:Int):TyOf K H (.int i) (.type "int")|str(x:Str):TyOf K H (.str x) (.type "str")|flt(x:UInt64):TyOf K H (.flt x) (.type "float")|lst{a:Addr}{xs:List V}(e:H a=some (.lst xs)):TyOf K H (.ref a) (.type "list")|frz{a:Addr}{o:Obj}{xs:List V}(e:H a=some (.frz o (.lst xs))):TyOf K H (.ref a) (.type "list")|tup{a:Addr}{xs:List V}(e:H a=some (.tup xs)):TyOf K H (.ref a) (.type "tuple")|dK{a:Addr}{ah:List (JC×V)}(e:H a=some (.dK ah)):TyOf K H (.ref a) (.type "dict")|dT{a:Addr}{ah:List (List JC×V)}(e:H a=some (.dT ah)):TyOf K H (.ref a) (.type "dict")|frzD{a:Addr}{o:Obj}{ah:List (JC×V)}(e:H a=some (.frz o (.dK ah))):TyOf K H (.ref a) (.type "dict")|ins{a C dx:Addr}{fs:List (Str×V)}(e:H a=some (.ins C dx fs))(cl:Cls K C)(ha:W.findIn K (.ref C) "__class__"=some (some (.builtin "object.__class__")))(hn:W.specialIn K (.builtin "object.__class__") "__get__"=some (some (.builtin "getset_descriptor.__get__")))(ka:W.takesIn K (.builtin "object.__class__")=some true)(hm:W.mroIn K C (.type "object")=some true):TyOf K H (.ref a) (.ref C)
def QeQ{x:V}{u t:Value}(I:Inv X aa σ H s)(rx:RelV x u)(ty:TyOf X.K H x t)(e:W.kitOne X.K t c=some b)(h:∀tk,Q (.bool b) {s with toks:=tk}):wpAny (model X.prog X.w) A (call (.builtin "isinstance") [u,c]) Q E s:=by cases ty with|non=>cases(show u=Value.none from rx);exact W.kia_one W.kitx_none I.kIn True.intro e (λz=>nomatch z) h|bl y=>cases(show u=Value.bool y from rx);exact W.kia_one W.kitx_bool I.kIn True.intro e (λz=>nomatch z) h|int i=>obtain⟨t,q⟩:=(show∃t,u=Value.int i t from rx);cases q;exact W.kia_one W.kitx_int I.kIn True.intro e (λz=>nomatch z) h|str y=>obtain⟨t,q⟩:=(show∃t,u=Value.str y t from rx);cases q;exact W.kia_one W.kitx_str I.kIn True.intro e (λz=>nomatch z) h|flt y=>obtain⟨t,q⟩:=(show∃t,u=Value.float y t from rx);cases q;exact W.kia_one W.kitx_float I.kIn True.intro e (λz=>nomatch z) h|@lst a xs ea=>cases(show u=Value.ref a from rx);obtain⟨_,_,n,_,h1⟩:=(show ObjOk X.prog X.w H s.heap a (.lst xs)from I.hok a _ ea);exact W.kia_one W.kitx_list I.kIn ⟨_,h1,rfl⟩ e (λz=>nomatch z) h|@frz a ob xs ea=>cases(show u=Value.ref a from rx);obtain⟨_,_,_,n,_,h1⟩:=(show ObjOk X.prog X.w H s.heap a (.frz ob (.lst xs))from I.hok a _ ea);exact W.kia_one W.kitx_list I.kIn ⟨_,h1,rfl⟩ e (λz=>nomatch z) h|@tup a xs ea=>cases(show u=Value.ref a from rx);obtain⟨_,_,_,p⟩:=(show ObjOk X.prog X.w H s.heap a (.tup xs)from I.hok a _ ea);obtain⟨o,h1,h2,_⟩:=p;exact W.kia_one W.kitx_tuple I.kIn ⟨o,h1,h2⟩ e (λz=>nomatch z) h|@dK a ah ea=>cases(show u=Value.ref a from rx);obtain⟨_,_,vs,_,p⟩:=(show ObjOk X.prog X.w H s.heap a (.dK ah)from I.hok a _ ea);obtain⟨o,es,ep,h1,h2,_⟩:=p;exact W.kia_one W.kitx_dict I.kIn ⟨o,h1,h2.1⟩ e (λz=>nomatch z) h|@frzD a ob ah ea=>cases(show u=Value.ref a from rx);obtain⟨_,_,vs,_,p⟩:=(show ObjOk X.prog X.w H s.heap a (.frz ob (.dK ah))from I.hok a _ ea).2;obtain⟨o,es,ep,h1,h2,_⟩:=p;exact W.kia_one W.kitx_dict I.kIn ⟨o,h1,h2.1⟩ e (λz=>nomatch z) h|@dT a ah ea=>cases(show u=Value.ref a from rx);obtain⟨_,_,xs,_,o,es,ep,h1,h2,_⟩:=(show ObjOk X.prog X.w H s.heap a (.dT ah)from I.hok a _ ea);exact W.kia_one W.kitx_dict I.kIn ⟨o,h1,h2.1⟩ e (λz=>nomatch z) h|@ins a C dx fs ea cl ha hn ka hm=>cases(show u=Value.ref a from rx);obtain⟨mA,O,_⟩:=QeG I.hok ea;obtain⟨od,J,_⟩:=O.look;exact W.kia_one (W.kitx_own (cl.get _) cl.hd ha hn ka hm) I.kIn J e (λz=>nomatch z) h
end
structure Room(k:Nat)(A:Around):Prop where
 hd:A.handled=none
 dp:A.depth+3*k+5<recursionLimit
 un:A.units+16*k+200<cLine
def Room.mono{j k:Nat}{A:Around}(r:Room k A)(h:j<=k):Room j A:=⟨r.hd,by have:=r.dp;omega,by have:=r.un;omega⟩
theorem Room.deeper{k:Nat}{A:Around}(r:Room (k+1) A)(env:Env):Room k (A.deeper env):=⟨r.hd,by have:=r.dp;show A.depth+1+3*k+5<_;omega,by have:=r.un;show A.units+3+16*k+200<_;omega⟩
theorem Room.depth{k:Nat}{A:Around}(r:Room k A):A.depth<recursionLimit:=by have:=r.dp;omega
theorem Room.units{k:Nat}{A:Around}(r:Room k A):A.units+64<cLine:=by have:=r.un;omega
def Room.units0{k:Nat}{A:Around}(r:Room k A):A.units<cLine:=by have:=r.un;omega
def X5:TA:=λ_ H Q=>Q [] H
def Vo(ta:TE)(tr:TA):TA:=λσ H Q=>ta σ H λx H1=>tr σ H1 λxs H2=>Q (x::xs) H2
section
variable{X:Cx}{e:Expr}{es:List Expr}{te:TE}{t:TA}{pos:Pos}
def VW:PA X [] X5:=λ_ _ _ _ H Q I h=>Calls.spliced_nil ⟨[],H,I,.nil,h⟩
def ZE(ha:PE X e te)(hr:PA X es t)(hs:starEach (e::es) X.env=(false,eval e X.env)::starEach es X.env:=by rfl):PA X (e::es) (Vo te t):=by intro pos aa s σ H Q I h;rw[hs];show wpAny _ _ (spliced ((false,eval e X.env)::backTo pos (starEach es X.env))) _ _ s;refine Calls.spliced_cons (Qa (ha aa s σ H _ I h) λu s1⟨x,H1,I1,r1,q1⟩=>?_);exact Qa (hr pos aa s1 σ H1 _ I1 q1) λus s2⟨xs,H2,I2,r2,q2⟩=>⟨x::xs,H2,I2,.cons r1 r2,q2⟩
def Qax(t:TA):TE:=λσ H Q=>t σ H λxs H1=>xs.length<=sizeLine/\∀p,H1 p=none->Q (.ref p) (upd H1 p (.tup xs))
def Gh(t:TA):TE:=λσ H Q=>t σ H λxs H1=>xs.length<=sizeLine/\∀p,H1 p=none->Q (.ref p) (upd H1 p (.lst xs))
def Bd{x1}(h:PA X es t):PE X (.Tuple es x1 pos) (Qax t):=by intro aa s σ H Q I hq;refine wpAny_Tuple_spliced (Qa (h pos aa s σ H _ I hq) λus s1⟨xs,H1,I1,r,z,q⟩=>⟨by rw[<-r.length];exact z,?_⟩);have hf:H1 s1.heap.objs.size=none:=I1.hok.fresh (Qx _);refine⟨.ref s1.heap.objs.size,upd H1 s1.heap.objs.size (.tup xs),I1.laid (t':=s1.toks) (λb u e=>Heap.get?_push_of_some _ e) (Qx _) ?_,rfl,q _ hf⟩;exact⟨z,us,r,⟨_,Heap.get?_push_size _ rfl,rfl,_,rfl⟩⟩
def Mi(h:PA X es t):PE X (.List es pos) (Gh t):=by intro aa s σ H Q I hq;refine wpAny_List_spliced (Qa (h pos aa s σ H _ I hq) λus s1⟨xs,H1,I1,r,z,q⟩=>⟨by rw[<-r.length];exact z,?_⟩);have hf:H1 s1.heap.objs.size=none:=I1.hok.fresh (Qx _);refine⟨.ref s1.heap.objs.size,upd H1 s1.heap.objs.size (.lst xs),I1.laid (t':=s1.toks) (λb u e=>Heap.get?_push_of_some _ e) (Qx _) ?_,rfl,q _ hf⟩;exact⟨z,us,0,r,Heap.get?_push_size _ rfl⟩
end
abbrev Sp:=List V->Hp->VK->XK->Prop
noncomputable abbrev X8:=List Env->Hp->Shared->XK->Value->Shared->Prop
structure Env0(P:Program)(w:World)(K:W.Frag)(mg:Str->Option Value)(ab:Heap)(A:Around)(ag:List Env)(s:Shared)(H:Hp):Prop where
 frames:A.frames=some ag
 mod:Mod K mg ab
 bs:∀b o,ab.get? b=some o->s.heap.get? b=some o/\H b=none
 bsz:ab.objs.size<=s.heap.objs.size
 funs:s.heap.FunFrames ab ag
 frf:∀b∈Wu ag,H b=none
 hok:HOk P w H s.heap
 bare:AllBare s.gens
def CE(ag:List Env)(P:Program)(w:World)(H:Hp)(s:Shared)(Q:VK)(u:Value)(s':Shared):Prop:=∃v H',s'.os=s.os/\AllBare s'.gens/\Un (Wu ag) [] H H' s.heap s'.heap/\HOk P w H' s'.heap/\RelV v u/\Q v H'
def CR(CX:X8)(ag:List Env)(P:Program)(w:World)(H:Hp)(s:Shared)(Q:VK)(E:XK)(r:Result)(s':Shared):Prop:=match r with|.ok (.ret u)=>CE ag P w H s Q u s'|.ok _=>False|.error e=>CX ag H s E e s'
structure FnOk(P:Program)(w:World)(K:W.Frag)(mg:Str->Option Value)(ab:Heap)(CX:X8)(k:Nat)(f:Addr)(fd:FuncData)(ps:List Str)(sp:Sp):Prop where
 len:∀vs H Q E,sp vs H Q E->vs.length=ps.length
 run:∀(A:Around)(ag:List Env)(s:Shared)(H:Hp)(args:Args)(us:List Value)(vs:List V)(Q:VK)(E:XK),Room k A->Env0 P w K mg ab A ag s H->BindsTo s fd args (ps.zip us)->Vals vs us->sp vs H Q E->codeAny (model P w) A (.call (.ref f) args) (CR CX ag P w H s Q E) s
section
variable{X:Cx}{aa:List (Addr×Obj)}{σ:St}{H:Hp}{s s':Shared}
def Inv.env0(I:Inv X aa σ H s):Env0 X.prog X.w X.K X.mg X.ab X.A X.stack s H:=⟨I.ok.frames,I.ok.mod,I.bs,ZP I.ok.bsz I.sz,I.stack,I.stkFree,I.hok,I.bare⟩
def Inv.after{Q:VK}{u:Value}(I:Inv X aa σ H s)(h:CE X.stack X.prog X.w H s Q u s'):EP X aa σ Q u s':=by obtain⟨v,H',os,bare,un,hok,r,q⟩:=h;obtain⟨hh,g,d,t,kX⟩:=s';obtain rfl:kX=s.os:=os;exact⟨v,H',I.call (h':=hh) (g':=g) (d':=d) (t':=t) (ch:=[]) un hok bare λb z=>absurd z (by simp),r,q⟩
end
def Oo(sp:Sp)(eJ:List V)(E:XK)(t:TA):TE:=λσ H Q=>t σ H λvs H1=>sp (vs++eJ) H1 Q E
def Binds(K:W.Frag)(fd:FuncData)(ps:List Str)(ds:List Value):Prop:=∀(s:Shared)(us:List Value),K.In s.heap->(us++ds).length=ps.length->BindsTo s fd ⟨us,[]⟩ (ps.zip (us++ds))
def Binds.all{K:W.Frag}{fd:FuncData}{ps:List Str}(h:∀us:List Value,us.length=ps.length->bindArgs fd ⟨us,[]⟩=pure (ps.zip us)):Binds K fd ps []:=λs us _ hl=>by rw[Zp]at hl⊢;exact .of_eq (h us hl)
def Lm(CX:X8)(X:Cx)(E:XK):Prop:=∀(aa:List (Addr×Obj))(σ:St)(H:Hp)(s:Shared)(e:Value)(s':Shared),Inv X aa σ H s->CX X.stack H s E e s'->X.xe e s'
section
variable{X:Cx}{CX:X8}{k:Nat}{f C:Addr}{fd:FuncData}{ps:List Str}{sp:Sp}{eJ:List V}{ds:List Value}{E:XK}{x m:Str}{p pos apos:Pos}{e o:Expr}{es:List Expr}{ta:TE}{t:TA}
def Qi4{aa:List (Addr×Obj)}{σ:St}{H:Hp}{s:Shared}{Q:VK}{us:List Value}{vs:List V}(F:FnOk X.prog X.w X.K X.mg X.ab CX k f fd ps sp)(hr:Room k X.A)(hb:Binds X.K fd ps ds)(hd:Vals eJ ds)(hx:Lm CX X E)(I:Inv X aa σ H s)(r:Vals vs us)(h:sp (vs++eJ) H Q E):wpAny (model X.prog X.w) X.A (call (.ref f) us) (EP X aa σ Q) X.xe s:=by
 have r2:Vals (vs++eJ) (us++ds):=r.append hd;have hl:(us++ds).length=ps.length:=by rw[<-r2.length];exact F.len _ _ _ _ h
 refine wpAny_call (codeAny_mono (F.run X.A X.stack s H ⟨us,[]⟩ (us++ds) (vs++eJ) Q E hr I.env0 (hb s us I.kIn hl) r2 h) λr s' hq=>?_);cases r with|error e=>exact hx aa σ H s e s' I hq|ok fl=>cases fl with|ret u=>exact I.after hq|next=>exact False.elim hq|brk=>exact False.elim hq|cont=>exact False.elim hq
def Hl(F:FnOk X.prog X.w X.K X.mg X.ab CX k f fd ps sp)(hr:Room k X.A)(hg:Gl X x)(hm:X.mg x=some (.ref f))(hk:W.keepIn X.K (.ref f)=true)(hb:Binds X.K fd ps ds)(hd:Vals eJ ds)(hx:Lm CX X E)(ha:PA X (e::es) t)(cj:(x==("__debug__":Str))=false:=by decide)(he:starEach (e::es) X.env=(false,eval e X.env)::starEach es X.env:=by rfl)(cR:(backTo pos (starEach es X.env)).any (·.1)=false:=by rfl):PE X (.Call (.Name x p) (e::es) [] pos) (Oo sp eJ E t):=by intro aa s σ H Q I h;refine wpAny_Call_Name_kw (Cm I hg hm ?_ cj);refine W.callWith_K (h₀:=X.ab) I.ok.mod.kin hk (Qa (ha pos aa s σ H _ I h) λus s1⟨vs,H1,I1,r,q⟩=>⟨I1.kIn,?_⟩) he cR;exact Qi4 F hr hb hd hx I1 r q
end
structure FnScope(N P:List Str)(sc:Scope):Prop where
 kind:sc.kind=.function
 co:sc.isCoroutine=false
 gen:sc.isGenerator=false
 nd:N.Nodup
 pre:N.take P.length=P
 par:∀x∈P,sc.names.lookup x=some .local\/sc.names.lookup x=some .cell
 nofree:∀y∈sc.names,y.2≠.free
theorem Ea{kindOf:Str->Option NameKind}{x:Str}:∀{binds:List (Str×Value)}{m:Str->Option Value},(∀v,(x,v)∉binds)->bindL kindOf binds m x=m x
 |[],_,_=>rfl|(n,v)::r,m,h=>by
  unfold bindL;rw[Ea λw hw=>h w (JH _ hw)];split
  ·have:x≠n:=by rintro rfl;exact h v JN
   simp[this]
  ·rfl
theorem EY{kindOf:Str->Option NameKind}{x:Str}:∀{binds:List (Str×Value)}{m:Str->Option Value},(∀v,(x,v)∉binds)->bindC kindOf binds m x=m x
 |[],_,_=>rfl|(n,v)::r,m,h=>by
  unfold bindC;rw[EY λw hw=>h w (JH _ hw)];split;·rfl
  ·have:x≠n:=by rintro rfl;exact h v JN
   simp[this]
theorem EZ{kindOf:Str->Option NameKind}{x:Str}{v:Value}:∀{P:List Str}{vs:List Value}{i:Nat}{m:Str->Option Value},P.Nodup->P[i]?=some x->vs[i]?=some v->kindOf x=some .local->bindL kindOf (P.zip vs) m x=some v|[],_,_,_,_,h,_,_=>by simp at h|_::_,[],_,_,_,_,h,_=>by simp at h|p::P,w::vs,0,m,nd,h1,h2,hk=>by simp at h1 h2;subst h1;subst h2;show bindL kindOf ((p,w)::P.zip vs) m p=_;unfold bindL;rw[Ea λv hv=>(q_46.mp nd).1 (WT hv).1,if_pos hk];simp|p::P,w::vs,i+1,m,nd,h1,h2,hk=>by show bindL kindOf ((p,w)::P.zip vs) m x=_;unfold bindL;exact EZ (i:=i) (q_46.mp nd).2 (by simpa using h1) (by simpa using h2) hk
theorem EX{kindOf:Str->Option NameKind}{x:Str}{v:Value}:∀{P:List Str}{vs:List Value}{i:Nat}{m:Str->Option Value},P.Nodup->P[i]?=some x->vs[i]?=some v->kindOf x≠some .local->bindC kindOf (P.zip vs) m x=some v|[],_,_,_,_,h,_,_=>by simp at h|_::_,[],_,_,_,_,h,_=>by simp at h|p::P,w::vs,0,m,nd,h1,h2,hk=>by simp at h1 h2;subst h1;subst h2;show bindC kindOf ((p,w)::P.zip vs) m p=_;unfold bindC;rw[EY λv hv=>(q_46.mp nd).1 (WT hv).1,if_neg hk];simp|p::P,w::vs,i+1,m,nd,h1,h2,hk=>by show bindC kindOf ((p,w)::P.zip vs) m x=_;unfold bindC;exact EX (i:=i) (q_46.mp nd).2 (by simpa using h1) (by simpa using h2) hk
noncomputable def Wc(N:List Str)(vs:List V):St:=vs.map some++List.replicate (N.length-vs.length) none
def V9(CX:X8)(P:Program)(w:World)(K:W.Frag)(mg:Str->Option Value)(ab:Heap)(N:List Str)(qual:Str)(scope:Scope)(f:Addr)(cd:Value)(A:Around)(ag:List Env)(s:Shared)(H:Hp)(E:XK):Cx where
 prog:=P
 w:=w
 K:=K
 mg:=mg
 ab:=ab
 A:=A.deeper (envOfC qual scope s.heap.objs.size f cd)
 N:=N
 s₀:=s
 H₀:=H
 env:=envOfC qual scope s.heap.objs.size f cd
 ag:=ag
 stack:=envOfC qual scope s.heap.objs.size f cd::ag
 ex:=[]
 calm:=true
 fn:=λ_=>true
 pn:=[]
 xe:=λe s'=>wpAny (model P w) (A.deeper (envOfC qual scope s.heap.objs.size f cd)) (leaving (envOfC qual scope s.heap.objs.size f cd) e) (λ_ gM=>CX ag H s E e gM) (λe' gM=>CX ag H s E e' gM) s'
def Ek{sc:Scope}{n:Nat}{x:Str}(h:sc.names.lookup x=some .cell):∃c,(cellsFrom n sc.names []).lookup x=some c:=by have q:=W.cellsFrom_some sc.names n [] (.inl h);exact Option.isSome_iff_exists.mp q
def QeI{CX:X8}{P:Program}{w:World}{K:W.Frag}{mg:Str->Option Value}{ab:Heap}{N ps:List Str}{qual:Str}{scope:Scope}{f:Addr}{cd:Value}{A:Around}{ag:List Env}{s s1:Shared}{H:Hp}{E:XK}{us:List Value}{vs:List V}(S:FnScope N ps scope)(hd:A.handled=none)(e0:Env0 P w K mg ab A ag s H)(hl:vs.length=ps.length)(r:Vals vs us)(x:InCallC s s.heap.objs.size (bindL (envOfC qual scope s.heap.objs.size f cd).kindOf (ps.zip us) λ_=>none) (cellsFrom (s.heap.objs.size+1) scope.names []) (bindC (envOfC qual scope s.heap.objs.size f cd).kindOf (ps.zip us) λ_=>none) s1):Inv (V9 CX P w K mg ab N qual scope f cd A ag s H E) [] (Wc N vs) H s1:=by
 have cR:ps.length<=N.length:=by have:=congrArg List.length S.pre;rw[YG]at this;omega
 obtain⟨h1,tk,rfl,hk⟩:=x.done;have fU:∀b:Addr,b∉(V9 CX P w K mg ab N qual scope f cd A ag s H E).ex:=λb z=>absurd (show b∈([]:List Addr)from z) (by simp);refine⟨⟨e0.mod,S.kind,rfl,rfl,Qx _,λy z c h1 h2=>?_,λy hy=>?_,λy c _ h=>?_,λ_=>hd,Around.frames_deeper e0.frames,.inr ⟨rfl,rfl⟩,λb z=>absurd z (fU b),e0.bs,e0.bsz,λb _ _=>fU b,λb z=>absurd z (fU b),e0.funs,e0.frf⟩,rfl,e0.bare,Un.kept hk,⟨_,x.toInCall.ns,λi y v h1 h2 h3=>?_⟩,λy c h=>⟨_,x.cell y c h⟩,e0.hok.fresh (Qx _),λy c h=>?_,λp hp=>absurd (show p∈([]:List (Addr×Obj))from hp) (by simp),e0.hok.kept hk,?_⟩;·exact name_of_addr x.apart (PySem.mem_of_lookup h1) (PySem.mem_of_lookup h2)
 ·have hy:scope.names.lookup y=some .cell\/scope.names.lookup y=some .free:=hy;rcases hy with hy|hy;·exact Ek hy
  ·exact absurd rfl (S.nofree _ (PySem.mem_of_lookup hy))
 ·exact le_of_lt (x.above y c (PySem.mem_of_lookup h))
 ·have hi:i<vs.length:=by
   unfold Wc at h2;by_cases hi:i<vs.length;·exact hi
   ·rw[Vk (by simpa using hi)]at h2;rw[RA]at h2;split at h2<;>cases h2
  have ha:vs[i]?=some v:=by
   unfold Wc at h2;rw[YH (by simpa using hi),Yb]at h2;cases e:vs[i]? with
   |none=>rw[e]at h2;cases h2|some a=>rw[e]at h2;cases h2;rfl
  obtain⟨u,hu,rv⟩:=r.get ha;have hp:ps[i]?=some y:=by rw[<-S.pre,List.getElem?_take_of_lt (by omega)];exact h1
  have j0:ps.Nodup:=by rw[<-S.pre];exact S.nd.sublist (take_sublist _ _)
  refine⟨u,rv,?_⟩;rcases S.par y (Yo hp)with k|k;·exact .inl ⟨k,EZ j0 hp hu k⟩
  ·obtain⟨c,e⟩:=Ek (n:=s.heap.objs.size+1) k;refine .inr ⟨.inl k,c,e,?_⟩;have q:=x.cell y c e;rw[EX j0 hp hu (by show scope.names.lookup y≠_;rw[k];decide)]at q;exact q
 ·exact e0.hok.fresh (le_of_lt (x.above y c (PySem.mem_of_lookup h)))
 ·unfold Wc;show _=N.length;rw[Qg,Qm,RB];omega
def Qed{CX:X8}{P:Program}{w:World}{K:W.Frag}{mg:Str->Option Value}{ab:Heap}{k:Nat}{f:Addr}{name qual:Str}{params:Arguments}{body:List Stmt}{scope:Scope}{dV kV doc pm az ct oc:Value}{an od:Option Addr}{di:Array (Option Value)}{N ps:List Str}{sp:Sp}(lk:K.lookup f=some ⟨oc,od,.func (W.fnOf name qual params body scope dV kV doc pm an az ct),di⟩)(ck:W.codeIn K az qual=true)(S:FnScope N ps scope)(len:∀vs H Q E,sp vs H Q E->vs.length=ps.length)(dI:∀(A:Around)(ag:List Env)(s:Shared)(H:Hp)(vs:List V)(Q:VK)(E:XK),Room k (A.deeper (envOfC qual scope s.heap.objs.size f az))->sp vs H Q E->∃t,PSs (V9 CX P w K mg ab N qual scope f az A ag s H E) body t/\t {nx:=λ_ H'=>Q .non H',rt:=Q} (Wc N vs) H):FnOk P w K mg ab CX (k+1) f (W.fnOf name qual params body scope dV kV doc pm an az ct) ps sp:=by
 refine⟨len,λA ag s H args us vs Q E hr e0 hb r eB=>?_⟩;have hl:=len _ _ _ _ eB;have KX:K.In s.heap:=e0.mod.kin.keeps λb o e=>(e0.bs b o e).1;have lim:s.heap.NoLimit:=e0.mod.nolimit.keeps λb o e=>(e0.bs b o e).1;have gI:∀y∈ps.zip us,scope.names.lookup y.1=some .local\/(scope.names.lookup y.1=some .cell/\((cellsFrom (s.heap.objs.size+1) scope.names []).lookup y.1).isSome=true):=λ⟨n,v⟩hy=>by
  rcases S.par n (WT hy).1 with q|q;·exact .inl q
  ·exact .inr ⟨q,W.cellsFrom_some _ _ _ (.inl q)⟩
 refine codeAny_call_function hr.depth (KX _ _ lk) rfl S.co S.gen rfl (W.codeRec_of KX ck) (hb _ _ _ _ ?_);refine wpAny_newFunctionEnv_cells S.kind gI λenv he s1 x=>?_;subst he;refine⟨lim.keeps x.toInCall.keep,codeAny_func ?_⟩;obtain⟨t,ht,hq⟩:=dI A ag s H vs Q E (hr.deeper _) eB;have I:Inv (V9 CX P w K mg ab N qual scope f az A ag s H E) [] (Wc N vs) H s1:=QeI S hr.hd e0 hl r x;refine wpAny_mono (ht [] s1 (Wc N vs) H _ I hq) (λfl s' hs=>?_) λe s' hs=>hs;have fin:∀{σ':St}{H':Hp}{v:V}{u:Value},Inv (V9 CX P w K mg ab N qual scope f az A ag s H E) [] σ' H' s'->RelV v u->Q v H'->CE ag P w H s Q u s':=λ{σ' H' v u}J rv q=>⟨v,H',J.os,J.bare,J.ab,J.hok,rv,q⟩;cases fl with|ret u=>obtain⟨v,σ',H',J,rv,q⟩:=hs;exact fin J rv q|next=>obtain⟨σ',H',J,q⟩:=hs;exact fin (v:=V.non) (u:=Value.none) J rfl q|brk=>obtain⟨_,_,_,q⟩:=hs;exact False.elim q|cont=>obtain⟨_,_,_,q⟩:=hs;exact False.elim q
section
variable{X:Cx}{x:Str}{p pos:Pos}{e:Expr}{es:List Expr}{t:TA}{id T:String}{r:List V->Hp->VK->Prop}
def tCB(r:List V->Hp->VK->Prop)(t:TA):TE:=λσ H Q=>t σ H λvs H1=>r vs H1 Q
def Hm(hc:CallR X (.builtin id) r)(hg:Gl X x)(hm:X.mg x=none)(hv:bootBuiltins x=some (.builtin id))(ha:PA X (e::es) t)(hn:x≠"__name__":=by decide)(cj:(x==("__debug__":Str))=false:=by decide)(he:starEach (e::es) X.env=(false,eval e X.env)::starEach es X.env:=by rfl)(cR:(backTo pos (starEach es X.env)).any (·.1)=false:=by rfl):PE X (.Call (.Name x p) (e::es) [] pos) (tCB r t):=by intro aa s σ H Q I h;refine wpAny_Call_Name_kw (Sr I hg hm hv ?_ hn cj);exact PyProof.Rows.callWith_builtin1 (Qa (ha pos aa s σ H _ I h) λus s1⟨vs,H1,I1,r1,q1⟩=>hc aa s1 σ H1 vs us Q I1 r1 q1) he cR
def Bb(hc:CallR X (.type T) r)(hg:Gl X x)(hm:X.mg x=none)(hv:bootBuiltins x=some (.type T))(ha:PA X (e::es) t)(hn:x≠"__name__":=by decide)(cj:(x==("__debug__":Str))=false:=by decide)(he:starEach (e::es) X.env=(false,eval e X.env)::starEach es X.env:=by rfl)(cR:(backTo pos (starEach es X.env)).any (·.1)=false:=by rfl):PE X (.Call (.Name x p) (e::es) [] pos) (tCB r t):=by intro aa s σ H Q I h;refine wpAny_Call_Name_kw (Sr I hg hm hv ?_ hn cj);exact PyProof.Rows.callWith_type1 (Qa (ha pos aa s σ H _ I h) λus s1⟨vs,H1,I1,r1,q1⟩=>hc aa s1 σ H1 vs us Q I1 r1 q1) he cR
end
end L2
namespace HT
open PySem PyProof.Rows
def eqAt_int(A:Around)(s:Shared)(a:Int)(t:Tok)(c:Int)(u:Tok):∃e,SeqAt.EqAt A s (.int a t) (.int c u) e/\(e=true↔a=c):=⟨a==c,SeqAt.EqAt.int_int a t c u,by simp⟩
section
variable{prog:Program}{w:World}{A:Around}{E:Value->Shared->Prop}{s:Shared}
def cat_tup{t b:Addr}{vs ws:List Value}{Q:Value->Shared->Prop}(ht:IsTup s.heap t vs.toArray)(hb:IsTup s.heap b ws.toArray)(hv:vs≠[])(h1:ws=[]->Q (.ref t) s)(h2:ws≠[]->Q (.ref s.heap.objs.size) {s with heap:=s.heap.push {cls:=.type "tuple",data:=.seq (vs++ws).toArray}})(hsz:vs.length+ws.length<=sizeLine):wpAny (model prog w) A (binaryOp .Add (.ref t) (.ref b)) Q E s:=by
 obtain⟨⟨cls,dd,data,sl⟩,ho,hc,n,hd⟩:=id ht;obtain⟨⟨jS,fO,data2,fD⟩,dS,gf,n2,hd2⟩:=id hb;simp only at hc hd gf hd2;subst hc hd gf hd2;have e:vs.toArray++ws.toArray=(vs++ws).toArray:=by simp
 by_cases hw:ws=[]
 ·exact concat_meets ⟨_,ho,rfl⟩ ⟨_,dS,rfl⟩ noFill_tuple_add seq_tuple_add PySem.F.slot_tuple_add PySem.F.entry_tuple_add (PySem.F.args_tuple_add_2 _ _) (tuple_addW1 t b vs.toArray ws.toArray n n2 dd fO sl fD (by simpa using hv) (by simp[hw])) ⟨ho,dS,h1 hw⟩
 ·refine concat_meets ⟨_,ho,rfl⟩ ⟨_,dS,rfl⟩ noFill_tuple_add seq_tuple_add PySem.F.slot_tuple_add PySem.F.entry_tuple_add (PySem.F.args_tuple_add_2 _ _) (tuple_addW2 t b vs.toArray ws.toArray n n2 dd fO sl fD (by simpa using hv) (by simpa using hw) (by rw[Ja,Ja];exact hsz)) ⟨ho,dS,?_⟩;rw[e];exact h2 hw
noncomputable def sIx(n d:Nat):Option Int->Nat|none=>d|some v=>if v<0 then(v+(n:Int)).toNat else min v.toNat n
def Qi6(n d:Nat)(hd:d<=n)(o:Option Int):sIx n d o<=n:=by cases o with|none=>exact hd|some v=>
  show(if v<0 then(v+(n:Int)).toNat else min v.toNat n)<=n;by_cases hv:v<0;·rw[if_pos hv];omega
  ·rw[if_neg hv];exact Nat.min_le_right _ _
def El(v:Int)(n d:Nat):(if v<0 then max (v+(n:Int)) 0 else min v (n:Int))=((sIx n d (some v):Nat):Int):=by
 show(if v<0 then max (v+(n:Int)) 0 else min v (n:Int))=((if v<0 then(v+(n:Int)).toNat else min v.toNat n:Nat):Int);by_cases hv:v<0;·simp only[if_pos hv];omega
 ·simp only[if_neg hv];omega
def Qbs(lo hi:Option Int)(n:Nat):Builtin.Slice.sliceAdjust lo hi 1 (n:Int)=(((sIx n 0 lo:Nat):Int),((sIx n n hi:Nat):Int)):=by
 have h1:¬((1:Int)<0):=by omega
 unfold Builtin.Slice.sliceAdjust;simp only[h1,if_false];refine Prod.ext ?_ ?_;·cases lo with|none=>rfl|some v=>exact El v n 0
 ·cases hi with
  |none=>rfl|some v=>exact El v n n
def Qil(i j:Nat):Builtin.Slice.slicePlaces (i:Int) (j:Int) 1=j-i:=by
 unfold Builtin.Slice.slicePlaces;have h1:(1:Int)>0:=by omega
 simp only[h1,if_true,Int.ediv_one];split<;>omega
def Qao{v:Value}{o:Option Int}{Q:Option Int->Shared->Prop}(p:IsPart v o)(h:Q o s):wpAny (model prog w) A (Builtin.Slice.slicePartIndex v) Q E s:=by cases p with|none=>exact slicePart_none h|int i t=>exact slicePart_int h
def Qjr{sl:Addr}{vl vu:Value}{lo hi:Option Int}{n:Nat}{Q:Int×Int×Nat->Shared->Prop}(hs:s.heap.IsSliceOf sl vl vu .none)(pl:IsPart vl lo)(pu:IsPart vu hi)(h:Q (((sIx n 0 lo:Nat):Int),1,sIx n n hi-sIx n 0 lo) s):wpAny (model prog w) A (Builtin.Slice.sliceApplied (.ref sl) (pure (n:Int))) Q E s:=by obtain⟨os,f7,kn,iu⟩:=id hs;unfold Builtin.Slice.sliceApplied Builtin.Slice.sliceFields;refine wpAny_bind (wpAny_bind (wpAny_field f7 iu (x:=vl) rfl (wpAny_bind (wpAny_field f7 iu (x:=vu) rfl (wpAny_bind (wpAny_field f7 iu (x:=.none) rfl (wpAny_pure ?_)))))));refine wpAny_bind (slicePart_none ?_);show wpAny _ _ (if((1:Int)==0)=true then _ else _) _ _ s;rw[if_neg (by decide)];refine wpAny_bind (Qao pl (wpAny_bind (Qao pu (wpAny_bind (wpAny_pure ?_)))));show wpAny _ _ (match Builtin.Slice.sliceAdjust lo hi 1 (n:Int)with|(lo,hi)=>pure (lo,(1:Int),Builtin.Slice.slicePlaces lo hi 1)) _ _ s;rw[Qbs lo hi n];show wpAny _ _ (pure (((sIx n 0 lo:Nat):Int),(1:Int),Builtin.Slice.slicePlaces ((sIx n 0 lo:Nat):Int) ((sIx n n hi:Nat):Int) 1)) _ _ s;rw[Qil];exact wpAny_pure h
def Qii(xs:Array Value)(i k:Nat):((List.range k).filterMap λ(m:Nat)=>xs[((i:Int)+(m:Int)*1).toNat]?).toArray=((xs.toList.drop i).take k).toArray:=by
 have e:(λ(m:Nat)=>xs[((i:Int)+(m:Int)*1).toNat]?)=λm=>xs[i+m]?:=by
  funext m;have:((i:Int)+(m:Int)*1).toNat=i+m:=by omega
  rw[this]
 rw[e];have:=pick_run xs i k;rw[List.filterMap_map]at this;have e2:((λx=>xs[x]?)∘λx=>i+x)=λm=>xs[i+m]?:=rfl;rw[e2]at this;rw[this]
def getItem_tuple_cut{t sl:Addr}{items:Array Value}{vl vu:Value}{lo hi:Option Int}{Q:Value->Shared->Prop}(ht:IsTup s.heap t items)(hs:s.heap.IsSliceOf sl vl vu .none)(pl:IsPart vl lo)(pu:IsPart vu hi)(hw:¬(sIx items.size 0 lo=0/\sIx items.size items.size hi=items.size))(h:Q (.ref s.heap.objs.size) {s with heap:=s.heap.push {cls:=.type "tuple",data:=.seq ((items.toList.drop (sIx items.size 0 lo)).take (sIx items.size items.size hi-sIx items.size 0 lo)).toArray}})(hsz:items.size<=sizeLine):wpAny (model prog w) A (getItem (.ref t) (.ref sl)) Q E s:=by
 have cS:sizeOk (.seq ((items.toList.drop (sIx items.size 0 lo)).take (sIx items.size items.size hi-sIx items.size 0 lo)).toArray):=by
  show((items.toList.drop (sIx items.size 0 lo)).take (sIx items.size items.size hi-sIx items.size 0 lo)).toArray.size<=sizeLine;rw[Ja,YG,length_drop,Oh];omega
 have hj:sIx items.size items.size hi<=items.size:=Qi6 _ _ (Qx _) hi;obtain⟨os,f7,kn,iu⟩:=id hs;have mQ:s.TypeIs (.ref sl) "slice":=⟨os,f7,kn⟩;unfold getItem;try with_reducible refine wpAny_holding ?_
 first|refine wpAny_bind (wpAny_pure ?_)|skip
 refine wpAny_bind (wpAny_sequenceKey ht.typeIs (by decide) ?_);refine wpAny_bind (wpAny_callSpecial?_slot (name:=Str.ofString "__getitem__") ht.typeIs PyProof.Rows.slot_tuple_getitem (wpAny_call_entry PyProof.Rows.slot_tuple_getitem ht.typeIs entry_tuple_getitem ?_ (args_tuple_getitem _ _)));show wpAny _ _ (Builtin.Tuple.tupleItemsOf (.ref t)>>=_) _ _ s;refine wpAny_bind (tupleItemsOf_ ht ?_);refine wpAny_bind (wpAny_typeOf mQ ?_);rw[if_pos (by decide)];refine wpAny_bind (Qjr hs pl pu ?_);have eD:¬((((sIx items.size 0 lo:Nat):Int)==0&&(1:Int)==1&&(sIx items.size items.size hi-sIx items.size 0 lo)==items.size)=true):=by
  intro q;rw[Xs,Xs]at q;have q1:((sIx items.size 0 lo:Nat):Int)=0:=eq_of_beq q.1.1;have q2:sIx items.size items.size hi-sIx items.size 0 lo=items.size:=eq_of_beq q.2;exact hw ⟨by omega,by omega⟩
 show wpAny _ _ (if(((sIx items.size 0 lo:Nat):Int)==0&&(1:Int)==1&&(sIx items.size items.size hi-sIx items.size 0 lo)==items.size)=true then _ else _) _ _ s;rw[if_neg eD,Qii];first|exact wpAny_bind (m:=Builtin.Tuple.tupleExact _) (wpAny_newObj_type (wpAny_pure ⟨_,rfl,wpAny_pure h⟩) cS)|exact wpAny_bind (m:=Builtin.Tuple.tupleExact _) (wpAny_newObj_type (wpAny_bind (wpAny_pure (wpAny_pure ⟨_,rfl,wpAny_pure h⟩))) cS)|exact wpAny_bind (wpAny_bind (m:=Builtin.Tuple.tupleExact _) (wpAny_newObj_type (wpAny_pure (wpAny_pure ⟨_,rfl,wpAny_pure h⟩)) cS))|exact wpAny_bind (wpAny_bind (m:=Builtin.Tuple.tupleExact _) (wpAny_newObj_type (wpAny_pure ⟨_,rfl,wpAny_pure h⟩) cS))
end
end HT
namespace L2
open PySem PySem.Spec PyProof.Rows
noncomputable abbrev TO:=St->Hp->(Option Int->Hp->Prop)->Prop
def PO(X:Cx)(e:Option Expr)(t:TO):Prop:=∀(aa:List (Addr×Obj))(s:Shared)(σ:St)(H:Hp)(Q:Option Int->Hp->Prop),Inv X aa σ H s->t σ H Q->wpAny (model X.prog X.w) X.A (evalPart e X.env) (λu s'=>∃o H',Inv X aa σ H' s'/\IsPart u o/\Q o H') X.xe s
def QjM:TO:=λ_ H Q=>Q none H
def QjQ(t:TE):TO:=λσ H Q=>t σ H λx H1=>∃i,x=.int i/\Q (some i) H1
def CL{ns:List Int}:∀{us:List Value},Vals (ns.map V.int) us->IntsAre us ns:=by induction ns with|nil=>intro us r;rw[map_nil]at r;cases r;exact .nil|cons n ns ih=>intro us r;rw[ZQ]at r;cases r with|cons r1 r2=>obtain⟨t,e⟩:=r1;subst e;exact .cons n t (ih r2)
section
variable{X:Cx}{e:Expr}{te:TE}{lo hi:Option Expr}{tl th:TO}{pos p2:Pos}
def Qin:PO X none QjM:=by intro aa s σ H Q I h;rw[evalPart_none];exact wpAny_pure ⟨none,H,I,.none,h⟩
def Qio(h:PE X e te):PO X (some e) (QjQ te):=by intro aa s σ H Q I hw;rw[evalPart_some];refine Qa (h aa s σ H _ I hw) λu s1⟨x,H1,I1,r1,q1⟩=>?_;obtain⟨i,rfl,q⟩:=q1;obtain⟨t,rfl⟩:=r1;exact⟨some i,H1,I1,.int i t,q⟩
def SlR(X:Cx)(r:V->Option Int->Option Int->Hp->VK->Prop):Prop:=∀(aa:List (Addr×Obj))(s:Shared)(σ:St)(H:Hp)(x:V)(v vl vu:Value)(lo hi:Option Int)(sl:Addr)(Q:VK),Inv X aa σ H s->RelV x v->s.heap.IsSliceOf sl vl vu .none->IsPart vl lo->IsPart vu hi->r x lo hi H Q->∃T id,typeLookup (.type T) "__getitem__"=pure (some (.builtin id))/\s.TypeIs v T/\wpAny (model X.prog X.w) X.A (getItem v (.ref sl)) (EP X aa σ Q) X.xe s
def SlR.or{r r':V->Option Int->Option Int->Hp->VK->Prop}(h:SlR X r)(h':SlR X r'):SlR X λx lo hi H Q=>r x lo hi H Q\/r' x lo hi H Q:=by
 intro aa s σ H x v vl vu lo hi sl Q I rx hs pl pu q;rcases q with q|q;·exact h aa s σ H x v vl vu lo hi sl Q I rx hs pl pu q
 ·exact h' aa s σ H x v vl vu lo hi sl Q I rx hs pl pu q
def tSl(r:V->Option Int->Option Int->Hp->VK->Prop)(te:TE)(tl th:TO):TE:=λσ H Q=>te σ H λx H1=>tl σ H1 λl H2=>th σ H2 λu H3=>r x l u H3 Q
def Qh8{r:V->Option Int->Option Int->Hp->VK->Prop}(hr:SlR X r)(he:PE X e te)(hl:PO X lo tl)(hu:PO X hi th):PE X (.Subscript e (.Slice lo hi none p2) pos) (tSl r te tl th):=by intro aa s σ H Q I h;refine Subscript_ (Qa (he aa s σ H _ I h) λv s1⟨x,H1,I1,r1,q1⟩=>?_);refine wpAny_Slice (Qa (hl aa s1 σ H1 _ I1 q1) λvl s2⟨l,H2,I2,pl,q2⟩=>Qa (hu aa s2 σ H2 _ I2 q2) λvu s3⟨u,H3,I3,pu,q3⟩=>?_);rw[evalPart_none];refine wpAny_pure ?_;have I4:Inv X aa σ H3 {s3 with heap:=s3.heap.push {cls:=.type "slice",data:=.fields #[vl,vu,.none]}}:=I3.kept (t':=s3.toks) λb ob q=>Heap.get?_push_of_some _ q;obtain⟨T,id,hT,ht,hg⟩:=hr aa {s3 with heap:=s3.heap.push {cls:=.type "slice",data:=.fields #[vl,vu,.none]}} σ H3 x v vl vu l u s3.heap.objs.size Q I4 r1 (Heap.IsSliceOf.new ..) pl pu q3;show wpAny (model X.prog X.w) X.A (subscriptTail e (.Slice lo hi none p2) v (.ref s3.heap.objs.size)) (EP X aa σ Q) X.xe {s3 with heap:=s3.heap.push {cls:=.type "slice",data:=.fields #[vl,vu,.none]}};exact tail_any (ops:=[.ref s3.heap.objs.size,v]) ht hT hg (by with_unfolding_all rfl)
def Wh(xs:List V)(lo hi:Option Int):List V:=(xs.drop (HT.sIx xs.length 0 lo)).take (HT.sIx xs.length xs.length hi-HT.sIx xs.length 0 lo)
def Ey(xs:List V)(lo hi:Option Int):(Wh xs lo hi).length<=xs.length:=by unfold Wh;rw[YG,length_drop];omega
def QiO(K:W.Frag):V->Option Int->Option Int->Hp->VK->Prop:=λx lo hi H Q=>∃a xs,x=.ref a/\SqT K H a xs/\¬(HT.sIx xs.length 0 lo=0/\HT.sIx xs.length xs.length hi=xs.length)/\∀p,H p=none->Q (.ref p) (upd H p (.tup (Wh xs lo hi)))
def Qjq:SlR X (QiO X.K):=by
 intro aa s σ H x v vl vu lo hi sl Q I rx hs pl pu h;obtain⟨a,xs,rfl,hx,hw,q⟩:=h;cases rx;obtain⟨its,r,ht,hz⟩:=I.tuple hx;have hlen:its.toArray.size=xs.length:=by rw[Ja];exact r.length.symm
 refine⟨"tuple",_,PyProof.Rows.slot_tuple_getitem.lookup,ht.typeIs,?_⟩;refine HT.getItem_tuple_cut ht hs pl pu (by rw[hlen];exact hw) ?_ (by rw[hlen];exact hz);rw[hlen];refine⟨.ref s.heap.objs.size,_,I.laid (t':=s.toks) (o:=.tup (Wh xs lo hi)) (λb ob q=>Heap.get?_push_of_some _ q) (Qx _) ?_,rfl,q _ (I.hok.fresh (Qx _))⟩;exact⟨ZP (Ey xs lo hi) hz,_,(r.drop (HT.sIx xs.length 0 lo)).take (HT.sIx xs.length xs.length hi-HT.sIx xs.length 0 lo),IsTup.new _ _⟩
def Hy(K:W.Frag):R2:=λx y H Q=>∃a b xs ys,x=.ref a/\y=.ref b/\SqT K H a xs/\SqT K H b ys/\xs≠[]/\xs.length+ys.length<=sizeLine/\(ys=[]->Q (.ref a) H)/\(ys≠[]->∀p,H p=none->Q (.ref p) (upd H p (.tup (xs++ys))))
def Vals.nil_iff{xs:List V}{us:List Value}(r:Vals xs us):us=[]↔xs=[]:=by cases r with|nil=>simp|cons _ _=>simp
def Qhw:OpR X (binaryOp .Add) (Hy X.K):=by intro aa s σ H x y v u Q I rx ry h;obtain⟨a,b,xs,ys,rfl,rfl,ha,hb,hx,hz,q1,q2⟩:=h;cases rx;cases ry;obtain⟨its,r1,p1,_⟩:=I.tuple ha;obtain⟨bO,r2,p2,_⟩:=I.tuple hb;refine HT.cat_tup p1 p2 (λz=>hx (r1.nil_iff.mp z)) (λz=>⟨.ref a,H,I,rfl,q1 (r2.nil_iff.mp z)⟩) (λz=>?_) (by rw[<-r1.length,<-r2.length];exact hz);refine⟨.ref s.heap.objs.size,_,I.laid (t':=s.toks) (o:=.tup (xs++ys)) (λb ob q=>Heap.get?_push_of_some _ q) (Qx _) ?_,rfl,q2 (λw=>z (r2.nil_iff.mpr w)) _ (I.hok.fresh (Qx _))⟩;exact⟨by rw[Qg];exact hz,_,r1.append r2,IsTup.new _ _⟩
end
noncomputable def UL(n:Nat)(i:Int):Option Nat:=if 0<=i then(if i<n then some i.toNat else none)else if-(n:Int)<=i then some (i+n).toNat else none
def XY{α:Type}(xs:List α)(i:Int):Option α:=(UL xs.length i).bind λj=>xs[j]?
def CW{n:Nat}{i:Int}{j:Nat}(h:UL n i=some j):seqIndex? i n=some j/\j<n/\-(n:Int)<=i/\i<n:=by
 unfold UL at h;by_cases h0:0<=i
 ·rw[if_pos h0]at h;by_cases h1:i<n;·rw[if_pos h1]at h;have e:i.toNat=j:=Option.some.inj h;exact⟨by rw[seqIndex_of h0 h1,e],by omega,by omega,h1⟩
  ·rw[if_neg h1]at h;cases h
 ·rw[if_neg h0]at h;by_cases h1:-(n:Int)<=i
  ·rw[if_pos h1]at h;have e:(i+n).toNat=j:=Option.some.inj h;exact⟨by rw[seqIndex_neg (by omega) h1,e],by omega,h1,by omega⟩
  ·rw[if_neg h1]at h;cases h
def K2{α:Type}{xs:List α}{i:Int}{v:α}(h:XY xs i=some v):∃j,seqIndex? i xs.length=some j/\xs[j]?=some v/\j<xs.length/\-(xs.length:Int)<=i/\i<xs.length:=by unfold XY at h;cases e:UL xs.length i with|none=>rw[e]at h;cases h|some j=>rw[e]at h;obtain⟨h1,h2,h3,h4⟩:=CW e;exact⟨j,h1,h,h2,h3,h4⟩
def Ln(b:Expr):Prop:=∀o i,subscripted b false o i=operate [o,i] (getItem o i)
def IxR(X:Cx)(r:R2):Prop:=∀(value slice:Expr)(aa:List (Addr×Obj))(s:Shared)(σ:St)(H:Hp)(x y:V)(v u:Value)(Q:VK),Inv X aa σ H s->RelV x v->RelV y u->r x y H Q->subscripted slice false v u=operate [v,u] (getItem v u)->wpAny (model X.prog X.w) X.A (subscriptTail value slice v u) (EP X aa σ Q) X.xe s
def N0(X:Cx)(id:String)(r:V->List V->Hp->VK->Prop):Prop:=∀(aa:List (Addr×Obj))(s:Shared)(σ:St)(H:Hp)(x:V)(xs:List V)(v:Value)(us:List Value)(Q:VK),Inv X aa σ H s->RelV x v->Vals xs us->r x xs H Q->wpAny (model X.prog X.w) X.A (call (.builtin id) (v::us)) (EP X aa σ Q) X.xe s
section
variable{X:Cx}{a b:Expr}{ta tb:TE}{pos:Pos}
def IxR.or{r r':R2}(h:IxR X r)(h':IxR X r'):IxR X λx y H Q=>r x y H Q\/r' x y H Q:=by
 intro value slice aa s σ H x y v u Q I rx ry q hs;rcases q with q|q;·exact h value slice aa s σ H x y v u Q I rx ry q hs
 ·exact h' value slice aa s σ H x y v u Q I rx ry q hs
def Oe{r:R2}(hr:IxR X r)(ha:PE X a ta)(hb:PE X b tb)(hs:Ln b):PE X (.Subscript a b pos) (X6 r ta tb):=by intro aa s σ H Q I h;exact Subscript_ (IT ha hb I h λv u s2 x y H2 I2 rx ry q=>hr a b aa s2 σ H2 x y v u Q I2 rx ry q (hs _ _))
def Bv(K:W.Frag):R2:=λx y H Q=>∃p xs i v,x=.ref p/\y=.int i/\SqL K H p xs/\XY xs i=some v/\Q v H
def Bx(K:W.Frag):R2:=λx y H Q=>∃p xs i v,x=.ref p/\y=.int i/\SqT K H p xs/\XY xs i=some v/\Q v H
def Bw:R2:=λx y H Q=>∃z i c,x=.str z/\y=.int i/\z.length<=sizeLine/\XY z.cps.toList i=some c/\Q (.str ⟨#[c]⟩) H
def ix_list:IxR X (Bv X.K):=by
 intro value slice aa s σ H x y v u Q I rx ry h hs;obtain⟨p,xs,i,z,rfl,rfl,hq,he,q⟩:=h;cases rx;obtain⟨t,rfl⟩:=ry;obtain⟨its,r,pl,hz⟩:=I.list hq;obtain⟨j,h1,h2,h3,h4,h5⟩:=K2 he;obtain⟨w,ew,cM⟩:=r.get h2;have hl:=r.length;have hn:=Su;have fin:EP X aa σ Q w s:=⟨z,H,I,cM,q⟩;by_cases h0:0<=i
 ·have hj:i.toNat=j:=by
   rw[seqIndex_of h0 h5]at h1;exact Option.some.inj h1
  exact item_listR pl.isList h0 (by omega) (by rw[hj];simpa using ew) fin hs
 ·have hj:(i+(its.toArray.size:Int)).toNat=j:=by
   rw[seqIndex_neg (by omega) h4]at h1;rw[Ja,<-hl];exact Option.some.inj h1
  exact subscriptTail_builtinR (x:=w) pl.isList.typeIs slot_list_getitem.lookup (wpAny_getItem_list_neg (Q:=λr s'=>r=w/\EP X aa σ Q r s') pl.isList (by omega) (by rw[Ja]<;>omega) (by omega) (by rw[hj];simpa using ew) ⟨rfl,fin⟩) hs
def ix_tup:IxR X (Bx X.K):=by intro value slice aa s σ H x y v u Q I rx ry h hs;obtain⟨p,xs,i,z,rfl,rfl,hq,he,q⟩:=h;cases rx;obtain⟨t,rfl⟩:=ry;obtain⟨its,r,pl,hz⟩:=I.tuple hq;obtain⟨j,h1,h2,h3,h4,h5⟩:=K2 he;obtain⟨w,ew,cM⟩:=r.get h2;have hl:=r.length;have hn:=Su;have fin:EP X aa σ Q w s:=⟨z,H,I,cM,q⟩;exact subscriptTail_builtinR (x:=w) pl.typeIs slot_tuple_getitem.lookup (getItem_tuple (j:=j) (Q:=λr s'=>r=w/\EP X aa σ Q r s') pl (by omega) (by omega) (by rw[Ja,<-hl];exact h1) (by simpa using ew) ⟨rfl,fin⟩) hs
def QeX:IxR X Bw:=by
 intro value slice aa s σ H x y v u Q I rx ry h hs;obtain⟨z,i,c,rfl,rfl,hz,he,q⟩:=h;obtain⟨t,rfl⟩:=rx;obtain⟨t',rfl⟩:=ry;obtain⟨j,h1,h2,h3,h4,h5⟩:=K2 he;have hl:z.cps.toList.length=z.length:=by simp[Str.length]
 rw[hl]at h1 h4 h5;have hn:=Su;exact tail_any (typeIs_str s z t) slot_str_getitem.lookup (getItem_str (c:=c) (by
  have e1:decide (i< -(2^63:Int))=false:=JF (by omega);have e2:decide (i≥2^63)=false:=JF (by omega);rw[e1,e2,Bool.or_false]) (by rw[h1];simpa using h2) ⟨.str ⟨#[c]⟩,H,I.tok _,⟨_,rfl⟩,q⟩) hs
def UR(K:W.Frag):R2:=λx y H Q=>Bv K x y H Q\/Bx K x y H Q\/Bw x y H Q
def Pw:IxR X (UR X.K):=ix_list.or (ix_tup.or QeX)
def QfF(its:List Value)(n j:Nat)(u:Value):Obj.mapSeq (·.setIfInBounds j u) {cls:=.type "list",data:=.seq its.toArray n}={cls:=.type "list",data:=.seq (its.set j u).toArray n}:=by simp[Obj.mapSeq]
theorem Inv.lst{aa:List (Addr×Obj)}{σ:St}{H:Hp}{s:Shared}{p:Addr}{xs:List V}(I:Inv X aa σ H s)(h:H p=some (.lst xs)):∃(its:List Value)(n:Nat),Vals xs its/\s.heap.get? p=some {cls:=.type "list",data:=.seq its.toArray n}/\xs.length<=sizeLine:=by obtain⟨z,its,n,r,e⟩:=I.hok p _ h;exact⟨its,n,r,e,z⟩
def Inv.lstUpd{aa:List (Addr×Obj)}{σ:St}{H:Hp}{s:Shared}{p:Addr}{xs ys:List V}{its its':List Value}{n n':Nat}{f:Obj->Obj}(I:Inv X aa σ H s)(h:H p=some (.lst xs))(ho:s.heap.get? p=some {cls:=.type "list",data:=.seq its.toArray n})(hf:f {cls:=.type "list",data:=.seq its.toArray n}={cls:=.type "list",data:=.seq its'.toArray n'})(r:Vals ys its')(hz:ys.length<=sizeLine)(t:Nat):Inv X aa σ (upd H p (.lst ys)) {s with heap:=s.heap.update p f,toks:=t}:=by
 have e:(s.heap.update p f).get? p=some {cls:=.type "list",data:=.seq its'.toArray n'}:=by rw[Heap.get?_update_self f ho (by rw[hf]<;>rfl),hf]
 refine I.write (x:=p) (e:=p) (by rw[h];trivial) (.inl rfl) (λb u hb q=>(Heap.get?_update_other _ _ (Ne.symm hb)).trans q) ⟨_,e⟩ ?_;exact⟨hz,its',n',r,e⟩
def Bz:V->V->V->Hp->(Hp->Prop)->Prop:=λo i v H Q=>∃p xs k j,o=.ref p/\i=.int k/\H p=some (.lst xs)/\UL xs.length k=some j/\Q (upd H p (.lst (xs.set j v)))
def Qjk:EG X Bz:=by
 intro aa s σ H o i v ov iv u Q I ro ri rv h;obtain⟨p,xs,k,j,rfl,rfl,hp,hj,q⟩:=h;cases ro;obtain⟨t,rfl⟩:=ri;obtain⟨its,n,r,ho,hz⟩:=I.lst hp;obtain⟨h1,h2,h3,h4⟩:=CW hj;have hl:=r.length;have hn:=Su;have I':Inv X aa σ (upd H p (.lst (xs.set j v))) {s with heap:=s.heap.update p (Obj.mapSeq (·.setIfInBounds j u))}:=I.lstUpd hp ho (QfF its n j u) (r.set rv j) (by rw[W3];exact hz) s.toks;by_cases h0:0<=k
 ·have hk:k.toNat=j:=by
   rw[seqIndex_of h0 h4]at h1;exact Option.some.inj h1
  exact W.ki_setAt ho h0 (by omega) (by rw[Ja,<-hl];exact h4) (by rw[hk];exact⟨_,I',q⟩)
 ·have hk:(k+(its.toArray.size:Int)).toNat=j:=by
   rw[seqIndex_neg (by omega) h3]at h1;rw[Ja,<-hl];exact Option.some.inj h1
  exact W.ki_setBack ho (by omega) (by rw[Ja,<-hl];exact h3) (by omega) (by rw[hk];exact⟨_,I',q⟩)
def Qju(lo hi:Option Int)(n:Nat):(sliceBounds lo hi none n).1=((HT.sIx n 0 lo:Nat):Int)/\(sliceBounds lo hi none n).2.1=((HT.sIx n n hi:Nat):Int)/\(sliceBounds lo hi none n).2.2=1:=by
 refine⟨?_,?_,rfl⟩;·cases lo with|none=>simp[sliceBounds,HT.sIx]|some i=>
   simp only[sliceBounds,HT.sIx,getD_none,show(1:Int)>0 by decide,if_true];by_cases h:i<0;·simp only[h,if_true]<;>omega
   ·simp only[h,if_false]<;>omega
 ·cases hi with
  |none=>simp[sliceBounds,HT.sIx]|some i=>
   simp only[sliceBounds,HT.sIx,getD_none,show(1:Int)>0 by decide,if_true];by_cases h:i<0;·simp only[h,if_true]<;>omega
   ·simp only[h,if_false]<;>omega
def Qjs(its:List Value)(lo hi:Option Int):slicePick its.toArray lo hi none=((its.drop (HT.sIx its.length 0 lo)).take (HT.sIx its.length its.length hi-HT.sIx its.length 0 lo)).toArray:=by obtain⟨h1,h2,h3⟩:=Qju lo hi its.toArray.size;unfold slicePick;rw[h1,h2,h3];simp only[sliceRange_one,pick_run,Ja]<;>rfl
def QiM(K:W.Frag):V->Option Int->Option Int->Hp->VK->Prop:=λx lo hi H Q=>∃a xs,x=.ref a/\SqL K H a xs/\∀p,H p=none->Q (.ref p) (upd H p (.lst (Wh xs lo hi)))
def Qjo:SlR X (QiM X.K):=by intro aa s σ H x v vl vu lo hi sl Q I rx hs pl pu h;obtain⟨a,xs,rfl,hx,q⟩:=h;cases rx;obtain⟨its,r,ht,hz⟩:=I.list hx;have hlen:=r.length;refine⟨"list",_,slot_list_getitem.lookup,ht.isList.typeIs,?_⟩;refine wpAny_getItem_list_slice ht.isList hs pl pu .none (by simp) ?_ (by rw[Ja]<;>omega);rw[Qjs,<-hlen];refine⟨.ref s.heap.objs.size,_,I.laid (t':=s.toks) (o:=.lst (Wh xs lo hi)) (λb ob q=>Heap.get?_push_of_some _ q) (Qx _) ?_,rfl,q _ (I.hok.fresh (Qx _))⟩;exact⟨ZP (Ey xs lo hi) hz,_,0,(r.drop (HT.sIx xs.length 0 lo)).take (HT.sIx xs.length xs.length hi-HT.sIx xs.length 0 lo),Heap.get?_push_size _ rfl⟩
noncomputable def Xi:V->Bool|.non=>true|.bl _=>true|.int _=>true|.str _=>true|_=>false
noncomputable def Yk:V->V->Bool|.non,.non=>true|.bl a,.bl b=>a==b|.bl a,.int b=>(if a then 1 else 0)==b|.int a,.bl b=>a==if b then 1 else 0|.int a,.int b=>a==b|.str a,.str b=>a==b|_,_=>false
def QdX{A:Around}{s:Shared}{y x:V}{u v:Value}(ry:RelV y u)(rx:RelV x v)(fy:Xi y=true)(fx:Xi x=true):SeqAt.EqAt A s u v (Yk y x):=by cases y with
 |non=>
  cases ry;cases x with
  |non=>cases rx;exact SeqAt.EqAt.same _|bl b=>cases rx;exact SeqAt.EqAt.none_bool b|int b=>obtain⟨t,rfl⟩:=rx;exact SeqAt.EqAt.none_int b t|str b=>obtain⟨t,rfl⟩:=rx;exact SeqAt.EqAt.none_str b t|_=>exact absurd (show false=true from fx) W0
 |bl a=>
  cases ry;cases x with
  |non=>cases rx;exact SeqAt.EqAt.bool_none a|bl b=>cases rx;exact SeqAt.EqAt.bool_bool a b|int b=>obtain⟨t,rfl⟩:=rx;exact SeqAt.EqAt.bool_int a b t|str b=>obtain⟨t,rfl⟩:=rx;exact SeqAt.EqAt.bool_str a b t|_=>exact absurd (show false=true from fx) W0
 |int a=>
  obtain⟨t',rfl⟩:=ry;cases x with
  |non=>cases rx;exact SeqAt.EqAt.int_none a t'|bl b=>cases rx;exact SeqAt.EqAt.int_bool a t' b|int b=>obtain⟨t,rfl⟩:=rx;exact SeqAt.EqAt.int_int a t' b t|str b=>obtain⟨t,rfl⟩:=rx;exact SeqAt.EqAt.int_str a t' b t|_=>exact absurd (show false=true from fx) W0
 |str a=>
  obtain⟨t',rfl⟩:=ry;cases x with
  |non=>cases rx;exact SeqAt.EqAt.str_none a t'|bl b=>cases rx;exact SeqAt.EqAt.str_bool a t' b|int b=>obtain⟨t,rfl⟩:=rx;exact SeqAt.EqAt.str_int a t' b t|str b=>obtain⟨t,rfl⟩:=rx;exact SeqAt.EqAt.str_str a t' b t|_=>exact absurd (show false=true from fx) W0
 |_=>exact absurd (show false=true from fy) W0
def Vi(x:V)(u:Value):Bool:=match u with|.none=>Yk .non x|.bool b=>Yk (.bl b) x|.int i _=>Yk (.int i) x|.str z _=>Yk (.str z) x|_=>false
def DX{x y:V}{u:Value}(r:RelV y u)(f:Xi y=true):Vi x u=Yk y x:=by cases y with|non=>cases r;rfl|bl b=>cases r;rfl|int i=>obtain⟨t,rfl⟩:=r;rfl|str z=>obtain⟨t,rfl⟩:=r;rfl|_=>exact absurd (show false=true from f) W0
theorem Ro{x:V}:∀{xs:List V}{us:List Value},Vals xs us->xs.all Xi=true->us.any (Vi x)=xs.any λy=>Yk y x|_,_,.nil,_=>rfl|y::xs,u::us,.cons r t,f=>by rw[all_cons,Xs]at f;rw[any_cons,any_cons,DX r f.1,Ro t f.2]
theorem O8{A:Around}{s:Shared}{x:V}{v:Value}(rx:RelV x v)(fx:Xi x=true):∀{xs:List V}{us:List Value},Vals xs us->xs.all Xi=true->∀u∈us,SeqAt.EqAt A s u v (Vi x u)
 |_,_,.nil,_=>λu hu=>by cases hu|y::xs,u::us,.cons r t,f=>λu' hu=>by
  rw[all_cons,Xs]at f;rcases q_5.mp hu with rfl|hu;·rw[DX r f.1];exact QdX r rx f.1 fx
  ·exact O8 rx fx t f.2 u' hu
def inV(x:V)(xs:List V):Bool:=xs.any λy=>Yk y x
def UQ(K:W.Frag)(neg:Bool):R2:=λx y H Q=>∃p xs,y=.ref p/\(SqL K H p xs\/SqT K H p xs)/\Xi x=true/\xs.all Xi=true/\Q (.bl (if neg then !inV x xs else inV x xs)) H
def Qhz:OpR X (compareOp .In) (UQ X.K false):=by
 intro aa s σ H x y v u Q I rx ry h;obtain⟨p,xs,rfl,hq,fx,fs,q⟩:=h;cases ry;rcases hq with hq|hq
 ·obtain⟨its,r,pl,hz⟩:=I.list hq;refine SeqAt.in_listAt (Vi x) pl.isList (λw hw=>O8 rx fx r fs w (by simpa using hw)) ⟨.bl _,H,I,rfl,?_⟩;rw[show its.toArray.any (Vi x)=its.any (Vi x)by simp,Ro r fs];exact q
 ·obtain⟨its,r,pl,hz⟩:=I.tuple hq;refine SeqAt.in_tupleAt (Vi x) pl (λw hw=>O8 rx fx r fs w (by simpa using hw)) ⟨.bl _,H,I,rfl,?_⟩;rw[show its.toArray.any (Vi x)=its.any (Vi x)by simp,Ro r fs];exact q
def QhH:OpR X (compareOp .NotIn) (UQ X.K true):=by
 intro aa s σ H x y v u Q I rx ry h;obtain⟨p,xs,rfl,hq,fx,fs,q⟩:=h;cases ry;rcases hq with hq|hq
 ·obtain⟨its,r,pl,hz⟩:=I.list hq;refine SeqAt.notIn_listAt (Vi x) pl.isList (λw hw=>O8 rx fx r fs w (by simpa using hw)) ⟨.bl _,H,I,rfl,?_⟩;rw[show its.toArray.any (Vi x)=its.any (Vi x)by simp,Ro r fs];exact q
 ·obtain⟨its,r,pl,hz⟩:=I.tuple hq;refine SeqAt.notIn_tupleAt (Vi x) pl (λw hw=>O8 rx fx r fs w (by simpa using hw)) ⟨.bl _,H,I,rfl,?_⟩;rw[show its.toArray.any (Vi x)=its.any (Vi x)by simp,Ro r fs];exact q
def QbO:CallR X (.builtin "len") λxs H Q=>∃p ys,xs=[.ref p]/\(SqL X.K H p ys\/SqT X.K H p ys)/\Q (.int ys.length) H:=by
 intro aa s σ H xs us Q I r h;obtain⟨p,ys,rfl,hq,q⟩:=h;obtain⟨u,rfl,rx⟩:=Xy r;cases rx;have hn:=Su;rcases hq with hq|hq;·obtain⟨its,r',pl,hz⟩:=I.list hq;have hlen:=r'.length;exact Calls.call_len_list pl.isList (by simp only[Ja]<;>omega) ⟨.int ys.length,H,I.tok _,⟨s.toks+1,by rw[Ja,hlen]⟩,q⟩
 ·obtain⟨its,r',pl,hz⟩:=I.tuple hq;have hlen:=r'.length;exact len_tuple pl (by simp only[Ja]<;>omega) ⟨.int ys.length,H,I.tok _,⟨s.toks+1,by rw[Ja,hlen]⟩,q⟩
def QbP:CallR X (.builtin "len") λxs H Q=>∃z,xs=[.str z]/\z.length<=sizeLine/\Q (.int z.length) H:=by intro aa s σ H xs us Q I r h;obtain⟨z,rfl,hz,q⟩:=h;obtain⟨u,rfl,t,rfl⟩:=Xy r;have hn:=Su;exact len_str (by omega) ⟨.int z.length,H,I.tok _,⟨_,rfl⟩,q⟩
def CallR.or{f:Value}{r r':List V->Hp->VK->Prop}(h:CallR X f r)(h':CallR X f r'):CallR X f λxs H Q=>r xs H Q\/r' xs H Q:=by
 intro aa s σ H xs us Q I rs q;rcases q with q|q;·exact h aa s σ H xs us Q I rs q
 ·exact h' aa s σ H xs us Q I rs q
def QbQ:CallR X (.type "list") λxs H Q=>∃p ys,xs=[.ref p]/\(SqL X.K H p ys\/SqT X.K H p ys)/\∀l,H l=none->Q (.ref l) (upd H l (.lst ys)):=by
 intro aa s σ H xs us Q I r h;obtain⟨p,ys,rfl,hq,q⟩:=h;obtain⟨u,rfl,rx⟩:=Xy r;cases rx;have fin:∀(its:List Value),Vals ys its->ys.length<=sizeLine->∀(h':Heap)(c':Nat),(∀b o',s.heap.get? b=some o'->h'.get? b=some o')->h'.get? s.heap.objs.size=some {cls:=.type "list",dict:=none,data:=.seq its.toArray c',slots:=#[]}->EP X aa σ Q (.ref s.heap.objs.size) {s with heap:=h'}:=λits r' hz h' c' kp e=>⟨.ref s.heap.objs.size,_,I.laid (t':=s.toks) kp (Qx _) (show ObjOk X.prog X.w _ h' _ (.lst ys)from⟨hz,its,c',r',e⟩),rfl,q _ (I.hok.fresh (Qx _))⟩;rcases hq with hq|hq
 ·obtain⟨its,r',pl,hz⟩:=I.list hq;have hlen:=r'.length;obtain⟨o,ho,hc,n,hd⟩:=pl.isList;exact call_list_seq p (.inl rfl) ho hc hd (λh' c' kp e=>fin its r' hz h' c' kp e) (by simp only[Ja]<;>omega)
 ·obtain⟨its,r',pl,hz⟩:=I.tuple hq;have hlen:=r'.length;obtain⟨o,ho,hc,n,hd⟩:=pl;exact call_list_seq p (.inr rfl) ho hc hd (λh' c' kp e=>fin its r' hz h' c' kp e) (by simp only[Ja]<;>omega)
def Gm(K:W.Frag)(T:String)(x:V)(H:Hp):Prop:=match x with|.str _=>T="str"|.int _=>T="int"|.ref p=>(T="list"/\∃xs,SqL K H p xs)\/(T="tuple"/\∃o,K.lookup p=some o/\o.cls=.type "tuple"/\o.dict=none)\/T="dict"/\((∃ah,H p=some (.dK ah))\/∃ah,H p=some (.dT ah))\/T="set"/\∃S n,H p=some (.set S n)|_=>False
def QaL{aa:List (Addr×Obj)}{σ:St}{H:Hp}{s:Shared}{T:String}{x:V}{v:Value}(I:Inv X aa σ H s)(r:RelV x v)(ty:Gm X.K T x H):s.TypeIs v T/\∀a,v=.ref a->∃ob,s.heap.get? a=some ob/\ob.dict=none:=by cases x with
 |str z=>obtain⟨t,rfl⟩:=r;cases(show T="str"from ty);exact⟨typeIs_str s z t,λ_ e=>nomatch e⟩|int i=>obtain⟨t,rfl⟩:=r;cases(show T="int"from ty);exact⟨typeIs_int s i t,λ_ e=>nomatch e⟩|ref p=>
  cases r;rcases ty with⟨rfl,xs,hq⟩|⟨rfl,o,hk,hc,hd⟩|⟨rfl,hk⟩|⟨rfl,S,n,hk⟩
  ·obtain⟨its,_,pl,_⟩:=I.list hq;refine⟨pl.isList.typeIs,λa e=>?_⟩;cases e;obtain⟨o,n,e,c,hd,_⟩:=pl;exact⟨o,e,hd⟩
  ·refine⟨⟨o,I.kIn p o hk,hc⟩,λa e=>?_⟩;cases e;exact⟨o,I.kIn _ o hk,hd⟩
  ·have z:∃o,s.heap.get? p=some o/\o.ExactDict:=by
    rcases hk with⟨ah,hk⟩|⟨ah,hk⟩
    ·obtain⟨_,_,_,_,o,_,_,e,ex,_⟩:=I.hok p _ hk;exact⟨o,e,ex⟩
    ·obtain⟨_,_,_,_,o,_,_,e,ex,_⟩:=I.hok p _ hk;exact⟨o,e,ex⟩
   obtain⟨o,e,ex⟩:=z;refine⟨⟨o,e,ex.1⟩,λa e2=>?_⟩;cases e2;exact⟨o,e,ex.2.1⟩
  ·obtain⟨o,_,_,_,e,ex,_⟩:=I.hok p _ hk;refine⟨⟨o,e,ex.1⟩,λa e2=>?_⟩;cases e2;exact⟨o,e,ex.2.1⟩|_=>exact False.elim ty
def QjD(K:W.Frag)(T:String)(r:V->List V->Hp->VK->Prop)(to:TE):TE:=λσ H Q=>to σ H λx H1=>Gm K T x H1/\r x [] H1 Q
def RX(K:W.Frag)(T:String)(r:V->List V->Hp->VK->Prop)(to:TE)(t:TA):TE:=λσ H Q=>to σ H λx H1=>Gm K T x H1/\t σ H1 λxs H2=>r x xs H2 Q
variable{o e:Expr}{es:List Expr}{to:TE}{t:TA}{name:Str}{apos aH:Pos}{T id:String}{r:V->List V->Hp->VK->Prop}
def QhX(pa:PlainAttrs T)(slot:Slot T name id)(iW:typeOf (.builtin id)=pure (.type "method_descriptor"))(hm:N0 X id r)(ho:PE X o to)(bL:attributeBase o name X.env (eval o X.env)=eval o X.env:=by rfl)(bK:(apos.endLine==aH.line)=true:=by rfl):PE X (.Call (.Attribute o name apos) [] [] aH) (QjD X.K T r to):=by intro aa s σ H Q I h;refine wpAny_Call_method0_late bL bK (Qa (ho aa s σ H _ I h) λv s1⟨x,H1,I1,r1,ty,q1⟩=>?_);obtain⟨h1,h2⟩:=QaL I1 r1 ty;exact⟨T,id,pa,slot,iW,h1,h2,Calls.callWith_builtin rfl (PySem.evalArgs_none (hm aa s1 σ H1 x [] v [] Q I1 r1 .nil q1))⟩
def R7(pa:PlainAttrs T)(slot:Slot T name id)(iW:typeOf (.builtin id)=pure (.type "method_descriptor"))(hm:N0 X id r)(ho:PE X o to)(ha:PA X (e::es) t)(bL:attributeBase o name X.env (eval o X.env)=eval o X.env:=by rfl)(dA:((backTo aH (starEach (e::es) X.env)).all (λx=>!x.1)&&(backToKw aH (keywordEach [] X.env)).all (λx=>x.1.isSome)&&decide ((e::es).length+([]:List Keyword).length+(if([]:List Keyword).isEmpty then 0 else 1)<30))=true:=by rfl)(bK:(apos.endLine==aH.line)=true:=by rfl)(hs:starEach (e::es) X.env=(false,eval e X.env)::starEach es X.env:=by rfl)(fA:(backTo aH (starEach es X.env)).any (·.1)=false:=by rfl):PE X (.Call (.Attribute o name apos) (e::es) [] aH) (RX X.K T r to t):=by intro aa s σ H Q I h;refine wpAny_Call_method_late bL dA bK rfl (Qa (ho aa s σ H _ I h) λv s1⟨x,H1,I1,r1,ty,q1⟩=>?_);obtain⟨h1,h2⟩:=QaL I1 r1 ty;refine⟨T,id,pa,slot,iW,h1,h2,?_⟩;have hA:=ha aH aa s1 σ H1 _ I1 q1;rw[hs]at hA⊢;refine Calls.callWith_builtin (by show(false||(backTo aH (starEach es X.env)).any (·.1))=false;rw[fA]<;>rfl) (Calls.evalArgs_plain ?_);exact Qa hA λus s2⟨vs,H2,I2,r2,q2⟩=>hm aa s2 σ H2 x vs v us Q I2 r1 r2 q2
end
def E5(X:Cx)(id:String)(r:V->List V->Hp->VK->Prop):Prop:=∀(aa:List (Addr×Obj))(s:Shared)(σ:St)(H:Hp)(x:V)(xs:List V)(v:Value)(us:List Value)(Q:VK),Inv X aa σ H s->RelV x v->Vals xs us->r x xs H Q->wpAny (model X.prog X.w) X.A (call (.builtin id) (v::us)) (EP X aa σ Q) X.xe s
def Vals.one:∀{x:V}{us:List Value},Vals [x] us->∃u,us=[u]/\RelV x u|_,_,.cons r .nil=>⟨_,rfl,r⟩
def Vals.zero:∀{us:List Value},Vals [] us->us=[]|_,.nil=>rfl
theorem Vals.rep{xs:List V}{us:List Value}(h:Vals xs us):∀k:Nat,Vals (List.replicate k xs).flatten (List.replicate k us).flatten|0=>.nil|k+1=>by rw[UN,UN,Tq,Tq];exact Vals.append h (Vals.rep h k)
theorem C5(its:List Value):∀(k:Nat)(acc:List Value),List.foldl (λx1 x2=>x1++x2) acc.toArray (List.replicate k its.toArray)=(acc++(List.replicate k its).flatten).toArray
 |0,acc=>by simp|k+1,acc=>by
  have e:acc.toArray++its.toArray=(acc++its).toArray:=by simp
  have e2:acc++its++(List.replicate k its).flatten=acc++(List.replicate (k+1) its).flatten:=by rw[UN,Tq,VF]
  rw[<-e2,<-C5 its k (acc++its),<-e,UN,Zq]
section
variable{X:Cx}{aa:List (Addr×Obj)}{σ:St}{H:Hp}{s:Shared}{l b:Addr}{xs ys zs:List V}
def Inv.lset{its its':List Value}{n:Nat}{f:Array Value->Array Value}{t':Nat}(I:Inv X aa σ H s)(hH:H l=some (.lst xs))(e:s.heap.get? l=some {cls:=.type "list",data:=.seq its.toArray n})(hf:f its.toArray=its'.toArray)(hv:Vals ys its')(hz:ys.length<=sizeLine):Inv X aa σ (upd H l (.lst ys)) {s with heap:=s.heap.update l (Obj.mapSeq f),toks:=t'}:=by have q:=PySem.IsL.update e f;rw[hf]at q;refine I.write (x:=l) (e:=l) (by rw[hH];exact trivial) (.inl rfl) (λb' u hb hu=>(Heap.get?_update_other s.heap (Obj.mapSeq f) (Ne.symm hb)).trans hu) ⟨_,q⟩ ?_;exact⟨hz,its',_,hv,q⟩
def Inv.lnew{its:List Value}{t':Nat}(I:Inv X aa σ H s)(hv:Vals ys its)(hz:ys.length<=sizeLine):Inv X aa σ (upd H s.heap.objs.size (.lst ys)) {s with heap:=s.heap.push {cls:=.type "list",data:=.seq its.toArray},toks:=t'}:=I.laid (λ_ _ q=>Heap.get?_push_of_some _ q) (Qx _) ⟨hz,its,0,hv,Heap.get?_push_size _ rfl⟩
theorem Inv.fresh(I:Inv X aa σ H s):H s.heap.objs.size=none:=I.hok.fresh (Qx _)
def Inv.lstM(I:Inv X aa σ H s)(hH:H l=some (.lst xs)):xs.length<=sizeLine/\∃(its:List Value)(n:Nat),Vals xs its/\xs.length=its.length/\s.heap.get? l=some {cls:=.type "list",data:=.seq its.toArray n}:=by obtain⟨z,its,n,r,e⟩:=I.hok l _ hH;exact⟨z,its,n,r,r.length,e⟩
def BO{n:Nat}(h:n<=sizeLine):Builtin.List.listTooLong n=false:=by unfold Builtin.List.listTooLong;exact JF (by omega)
end
section
variable{X:Cx}
def Bt:V->List V->Hp->VK->Prop:=λx vs H Q=>∃l xs y,x=.ref l/\vs=[y]/\H l=some (.lst xs)/\xs.length<sizeLine/\Q .non (upd H l (.lst (xs++[y])))
def HP:E5 X "list.append" Bt:=by intro aa s σ H x vs v us Q I rx rv h;obtain⟨l,xs,y,rfl,rfl,hH,hz,q⟩:=h;cases rx;obtain⟨u,rfl,ru⟩:=rv.one;obtain⟨z,its,n,r,hl,e⟩:=I.lstM hH;refine call_meets F.slot_list_append ⟨_,e,rfl⟩ F.entry_list_append (F.args_list_append_2 _ _) (PySem.list_append l its.toArray n u (by rw[Ja];omega)) ⟨e,?_⟩;refine⟨.non,_,I.lset (its':=its++[u]) hH e (by simp) (r.append (.cons ru .nil)) ?_,rfl,q⟩;rw[Qg,RC];omega
def Mp:V->List V->Hp->VK->Prop:=λx vs H Q=>∃l b xs zs,x=.ref l/\vs=[.ref b]/\H l=some (.lst xs)/\H b=some (.lst zs)/\xs.length+zs.length<=sizeLine/\Q .non (upd H l (.lst (xs++zs)))
def HQ:E5 X "list.extend" Mp:=by
 intro aa s σ H x vs v us Q I rx rv h;obtain⟨l,b,xs,zs,rfl,rfl,hH,hB,hz,q⟩:=h;cases rx;obtain⟨u,rfl,ru⟩:=rv.one;cases ru;obtain⟨z,its,n,r,hl,e⟩:=I.lstM hH;obtain⟨z2,bO,n2,r2,dm,e2⟩:=I.lstM hB;have hsz:its.toArray.size+bO.toArray.size<=sizeLine:=by rw[Ja,Ja];omega
 have dG:¬(!its.toArray.isEmpty&&Builtin.List.listTooLong (its.toArray.size+bO.toArray.size))=true:=by
  rw[BO hsz,Bool.and_false];exact W0
 refine call_meets F.slot_list_extend ⟨_,e,rfl⟩ F.entry_list_extend (F.args_list_extend_2 _ _) (AutoSeq1.list_extend_list_list_0 l its.toArray n b bO.toArray n2 dG (by rw[Ja];omega) (by omega)) ⟨e,e2,?_⟩;refine⟨.non,_,I.lset (its':=its++bO) hH e (by simp) (r.append r2) ?_,rfl,q⟩;rw[Qg];omega
def Hx:R2:=λx y H Q=>∃l b xs zs,x=.ref l/\y=.ref b/\H l=some (.lst xs)/\H b=some (.lst zs)/\xs.length+zs.length<=sizeLine/\∀p,H p=none->Q (.ref p) (upd H p (.lst (xs++zs)))
def Qhv:OpR X (binaryOp .Add) Hx:=by
 intro aa s σ H x y v u Q I rx ry h;obtain⟨l,b,xs,zs,rfl,rfl,hH,hB,hz,q⟩:=h;cases rx;cases ry;obtain⟨z,its,n,r,hl,e⟩:=I.lstM hH;obtain⟨z2,bO,n2,r2,dm,e2⟩:=I.lstM hB;refine PySem.P.add_list e e2 ?_ (by rw[Ja,Ja];omega);have ea:its.toArray++bO.toArray=(its++bO).toArray:=by simp
 rw[ea];exact⟨.ref _,_,I.lnew (t':=s.toks) (r.append r2) (by rw[Qg];omega),rfl,q _ I.fresh⟩
def G1:R2:=λx y H Q=>∃l k xs,x=.ref l/\y=.int k/\H l=some (.lst xs)/\-2^63<=k/\k<2^63/\xs.length*k.toNat<=sizeLine/\∀p,H p=none->Q (.ref p) (upd H p (.lst (List.replicate k.toNat xs).flatten))
def Qfv{α:Type}(xs:List α)(k:Nat):(List.replicate k xs).flatten.length=k*xs.length:=by induction k with|zero=>simp|succ k ih=>rw[UN,Tq,Qg,ih,Nat.succ_mul,Nat.add_comm]
def QhJ:OpR X (binaryOp .Mult) G1:=by
 intro aa s σ H x y v u Q I rx ry h;obtain⟨l,k,xs,rfl,rfl,hH,h1,h2,hz,q⟩:=h;cases rx;obtain⟨t,rfl⟩:=ry;obtain⟨z,its,n,r,hl,e⟩:=I.lstM hH;have hlen:its.toArray.size*k.toNat<=sizeLine:=by rw[Ja,<-hl];exact hz
 have jN:¬its.toArray.size*k.toNat>(2^63-1)/8:=by
  have:(sizeLine:Nat)<=(2^63-1)/8:=by decide
  omega
 have dw:¬(!Builtin.List.listFitsIndex k)=true:=by
  rw[fitsIndex_both h1 h2];exact W0
 have dG:¬Builtin.List.listTooLong (its.toArray.size*k.toNat)=true:=by rw[BO hlen];exact W0
 have jI:List.foldl (λx1 x2=>x1++x2) #[] (List.replicate (if its.toArray.isEmpty=true then 0 else k.toNat) its.toArray)=(List.replicate k.toNat its).flatten.toArray:=by
  have f0:∀m:Nat,List.foldl (λx1 x2=>x1++x2) #[] (List.replicate m its.toArray)=(List.replicate m its).flatten.toArray:=λm=>by
   have:=C5 its m [];rw[nil_append]at this;exact this
  rw[f0];cases its with|nil=>simp|cons a r'=>rw[if_neg (by simp)]
 refine wpAny_binaryOp_repeat_ref (T:="list") (U:="int") (by decide) ⟨_,e,rfl⟩ (λs'=>typeIs_int s' k t) noFill_list_mul F.fills_int_mul F.slot_int_rmul repeat_list F.slot_int_index.lookup (call_meets F.slot_int_rmul (typeIs_int s k t) F.entry_int_rmul (F.args_int_rmul_2 _ _) (int___rmul___int_list k t l its.toArray n) ⟨e,rfl,⟨_,e,rfl⟩,call_meets F.slot_list_mul ⟨_,e,rfl⟩ F.entry_list_mul (F.args_list_mul_2 _ _) (AutoListH.list___mul___list_int_3 l its.toArray n k t dw jN dG) ⟨e,?_⟩⟩);rw[jI];exact⟨.ref _,_,I.lnew (t':=s.toks) (r.rep k.toNat) (by rw[Qfv,Nat.mul_comm];exact hz),rfl,q _ I.fresh⟩
end
end L2
namespace Att
open PySem PySem.W PySem.Calls PyProof.Rows
def QeH{P:Params}{h:Heap}:∀(ns:List Int)(vs:List Value),WellAll P h vs (ns.map WData.int)->IntsAre vs ns:=by intro ns;induction ns with|nil=>intro vs w;rw[map_nil]at w;cases w;exact .nil|cons n ns ih=>intro vs w;rw[ZQ]at w;cases w with|cons a b=>cases a;exact .cons _ _ (ih _ b)
def Qi7{l:OpenLaw}{n:Nat}(hn:l.most=some n){P:Params}{h:Heap}{args:List WData}{vals:List Value}(d6:l.row.toRowW.claim.pre args=true)(iT:WellAll P h vals args):∃a vs ns,vals=[Value.ref a]/\args=[WData.list (ns.map WData.int)]/\h.get? a=some {cls:=.type "list",data:=.seq vs.toArray}/\IntsAre vs ns/\ns.length<=n:=by
 have lW:WShape.hasAll [] args [.list .int]=true:=(pre_splitW d6).1;have hc:l.pre.holds [] {args:=args}=true:=(pre_splitW d6).2;obtain⟨d,r,rfl,h1,h2⟩:=hasAllW_cons lW;obtain rfl:=hasAllW_nil h2;obtain⟨xs,rfl,h3⟩:=hasW_list h1;obtain⟨ns,rfl⟩:=items_int h3;have hlen:ns.length<=n:=by
  unfold OpenLaw.pre at hc;have h4:(WTm.not (.lt (.lit (.int (n:Int))) (.len (.arg 0)))).holds [] {args:=[.list (ns.map .int)]}=true:=by
   have h4:=(holds_andW hc).1;rw[hn]at h4;exact h4
  have h5:=condW_of h4 (w_not (w_lt w_lit (w_len_list (w_arg rfl))));rw[Qm]at h5;refine Nat.le_of_not_lt λq=>?_;have q':(n:Int)<((ns.length:Nat):Int):=by omega
  first
   |(rw[Jf q']at h5;exact absurd h5 (by decide))|(simp at h5;omega)
 cases iT with|cons w1 w2=>cases w2;cases w1 with|list ho jO=>exact⟨_,_,ns,rfl,rfl,ho,QeH ns _ jO,hlen⟩
def Qir(l:OpenLaw)(args:List WData):l.row.toRowW.claim.post args (.bool true) args=true:=postW_of (r:=l.row.toRowW) (X:=true==true) (show WShape.has [] (.bool true) .bool=true by first|rfl|decide|simp[WShape.has,WShape.arms,WShape.armsAll]) (show(WTm.eq .res (.lit (.bool true))).value [] {args:=args,res:=some (.bool true),after:=args}=some (.bool (true==true))from w_eq_bool (w_res rfl) w_lit) rfl
def attach_call{l:OpenLaw}{n:Nat}{q:Program}{loose:List Str}{XP:(Str->Option Value)->Heap->Prop}{YP:World->Heap->Prop}{d:DefRec}(hn:l.most=some n)(gd:d.params.defaults=[])(call:∀(w:World)(s₀ s₁:Shared)(mg mb:Str->Option Value)(fa:Addr)(o:Obj)(pm cd doc:Value)(a:Addr)(vs:List Value)(ns:List Int),Ground q loose [] XP w s₀ mg mb s₁.heap->YP w s₁.heap->s₁.heap.get? fa=some o->o.data=.func (docDef d.name d.params d.body d.scope pm cd doc)->s₁.heap.CodeRec cd d.name->mg d.name=some (.ref fa)->s₁.heap.get? a=some {cls:=.type "list",data:=.seq vs.toArray}->IntsAre vs ns->ns.length<=n->s₁.gens=#[]->codeAny (model l.prog w) callerA (.call (.ref fa) ⟨[.ref a],[]⟩) (λr s'=>r=.ok (.ret (.bool true))/\OldK s₁.heap s'.heap/\s'.os=s₁.os/\AllBare s'.gens) s₁):WalkO q loose XP YP l.row.toRowW d [] λf vs=>PySem.call f vs:=by intro w s₀ s₁ mg mb G Y fa o pm cd doc dV kV ho hd ck hD f9 hg args vals as d6 nA hrd iT hlo;obtain rfl:dV=.none:=Dflts.none hD gd;obtain rfl:kV=.none:=Dflts.noKw hD;obtain⟨a,vs,ns,rfl,rfl,fq,hints,hlen⟩:=Qi7 hn d6 iT;refine enter_call (codeAny_mono (call w s₀ s₁ mg mb fa o pm cd doc a vs ns G Y ho (fd_plain hd) ck f9 fq hints hlen hg) λr s' hq=>? _);obtain⟨rfl,h2,h3,h4⟩:=hq;exact⟨.inl ⟨.bool true,.bool true,[],rfl,λ_=>rfl,.bool true,Qir l _,λ_=>⟨List.Pairwise.nil,λ_ hm=>nomatch hm⟩⟩,h2,h3,h4⟩
end Att
namespace L2
open PySem PySem.Spec PyProof.Rows
theorem QaR:∀{vs:List Value}{ns:List Int},IntsAre vs ns->Vals (ns.map V.int) vs|_,_,.nil=>.nil|_,_,.cons n t h=>.cons ⟨t,rfl⟩ (QaR h)
def Lj(H:Hp):Prop:=∀b,H b=none\/∃o xs,H b=some (.frz o (.lst xs))
def Qfl{P:Program}{w:World}{K:W.Frag}{mg mb:Str->Option Value}{CX:X8}{k:Nat}{fa a:Addr}{fd:FuncData}{x:Str}{sp:Sp}{s₁:Shared}{vs:List Value}{ns:List Int}(KX:K.In s₁.heap)(fJ:s₁.heap.Ns mainGlobals mg)(hb:s₁.heap.Ns builtinsNs mb)(mO:∀x:Str,x≠"__name__"->mb x=bootBuiltins x)(jJ:s₁.heap.NoLimit)(hg:s₁.gens=#[])(ha:s₁.heap.get? a=some {cls:=.type "list",data:=.seq vs.toArray})(hi:IntsAre vs ns)(hl:ns.length<=sizeLine)(hr:Room k callerA)(F:∀ab:Heap,K.In ab->ab.Ns mainGlobals mg->FnOk P w K mg ab CX k fa fd [x] sp)(gJ:∀(s:Shared)(u:Value),BindsTo s fd ⟨[u],[]⟩ [(x,u)])(eB:∀H:Hp,Lj H->SqL K H a (ns.map V.int)->sp [.ref a] H (λv _=>v=.bl true) λ_ _ _=>False)(jb:∀H e s',CX [] H s₁ (λ_ _ _=>False) e s'->False):codeAny (model P w) callerA (.call (.ref fa) ⟨[.ref a],[]⟩) (λr s'=>r=.ok (.ret (.bool true))/\OldK s₁.heap s'.heap/\s'.os=s₁.os/\AllBare s'.gens) s₁:=by
 have rv:=QaR hi;have jA:=hi.length;have core:∀H:Hp,Lj H->SqL K H a (ns.map V.int)->HOk P w H s₁.heap->(∀b,H b≠none->b=a)->(H a≠none->K.lookup a=none)->codeAny (model P w) callerA (.call (.ref fa) ⟨[.ref a],[]⟩) (λr s'=>r=.ok (.ret (.bool true))/\OldK s₁.heap s'.heap/\s'.os=s₁.os/\AllBare s'.gens) s₁:=by
  intro H hO hS hok hA hK;have cT:∀{b:Addr}{o:Obj},s₁.heap.get? b=some o->H b=none->(UH s₁.heap H).get? b=some o:=λe n=>Qev e n;have fU:∀{b:Addr}{o:Obj}{es:Array DictEntry}{ep:Nat},s₁.heap.get? b=some o->o.data=.dict es ep->H b=none:=λ{b o es ep}e d=>by cases q:H b with|none=>rfl|some u=>
    have e':b=a:=hA b (by rw[q];simp);subst e';rw[ha]at e;cases e;have d':Data.seq vs.toArray _=Data.dict es ep:=d;cases d'
  have gU:∀{b:Addr}{m:Str->Option Value},s₁.heap.Ns b m->(UH s₁.heap H).Ns b m:=λ{b m}⟨o,es,ep,e,d,r⟩=>⟨o,es,ep,cT e (fU e d),d,r⟩;have kr:K.In (UH s₁.heap H):=λb o e=>cT (KX b o e) (by cases q:H b with
   |none=>rfl|some u=>have e':b=a:=hA b (by rw[q];simp);subst e';rw[hK (by rw[q];simp)]at e;cases e);have hM:Mod K mg (UH s₁.heap H):=⟨kr,gU fJ,⟨mb,gU hb,mO⟩,let⟨mc,h1,h2⟩:=jJ;⟨mc,gU h1,h2⟩⟩;have e0:Env0 P w K mg (UH s₁.heap H) callerA [] s₁ H:=⟨rfl,hM,λb o e=>Qgi e,le_of_eq (Qew _ _),trivial,λb hb=>absurd (show b∈([]:List Addr)from hb) (by simp),hok,.of_eq hg⟩;refine codeAny_mono ((F _ kr (gU fJ)).run callerA [] s₁ H ⟨[.ref a],[]⟩ [.ref a] [.ref a] _ _ hr e0 (gJ s₁ (.ref a)) (.cons rfl .nil) (eB H hO hS)) λr s' h=>?_;cases r with|error e=>exact(jb H e s' h).elim|ok fl=>cases fl with
   |next=>exact False.elim h|brk=>exact False.elim h|cont=>exact False.elim h|ret u=>
    obtain⟨v,H',os,bare,un,jG,r',q⟩:=h;have q':v=.bl true:=q;subst q';obtain rfl:u=Value.bool true:=r';refine⟨rfl,OldK.of_keep λb o e=>?_,os,bare⟩;cases q:H b with|none=>exact un.keep b o e q (by intro z;exact absurd (show b∈([]:List Addr)from z) (by simp)) (by simp)|some u=>
     rcases hO b with z|⟨ob,xs,z⟩;·rw[q]at z;cases z
     ·have z2:=un.frzs b ob _ z;obtain⟨e1,_⟩:=hok b _ z;obtain⟨e2,_⟩:=jG b _ z2;rw[e]at e1;cases e1;exact e2
 cases hk:K.lookup a with
 |some o=>
  have e:=KX a o hk;rw[ha]at e;cases e;refine core (λ_=>none) (λ_=>.inl rfl) (.inr ⟨_,vs.toArray,_,hk,rfl,rfl,rfl,by rw[Ja,jA];exact hl,by simpa using rv⟩) (λb u z=>by have z':(none:Option HO)=some u:=z;cases z') (λb z=>absurd rfl z) λz=>absurd rfl z|none=>
  refine core (λb=>if b=a then some (.frz {cls:=.type "list",data:=.seq vs.toArray} (.lst (ns.map V.int)))else none) (λb=>?_) (.inl (.inr ⟨{cls:=.type "list",data:=.seq vs.toArray},if_pos rfl⟩)) (λb u z=>?_) (λb z=>?_) λ_=>hk
  ·by_cases hb:b=a;·exact .inr ⟨_,_,if_pos hb⟩
   ·exact .inl (if_neg hb)
  ·by_cases hb:b=a
   ·have z':=(if_pos hb).symm.trans z;cases z';subst hb;exact⟨ha,by rw[Qm];exact hl,vs,_,rv,ha⟩
   ·have z':=(if_neg hb).symm.trans z;cases z'
  ·by_cases hb:b=a;·exact hb
   ·exact absurd (if_neg hb) z
def walk_of{l:W.OpenLaw}{n k:Nat}{q:Program}{loose:List Str}{XP:(Str->Option Value)->Heap->Prop}{YP:World->Heap->Prop}{d:DefRec}{K:Params->W.Frag}{CX:World->X8}{sp:World->Sp}{x:Str}(hn:l.most=some n)(ic:n<=sizeLine)(gd:d.params.defaults=[])(hr:Room k callerA)(hY:∀(w:World)(h:Heap),YP w h->(K w.params).In h)(F:∀(w:World)(mg:Str->Option Value)(fa:Addr)(h:Heap),(K w.params).In h->h.Ns mainGlobals mg->mg d.name=some (.ref fa)->∃fd:FuncData,(∀(s:Shared)(u:Value),BindsTo s fd ⟨[u],[]⟩ [(x,u)])/\∀ab:Heap,(K w.params).In ab->ab.Ns mainGlobals mg->FnOk l.prog w (K w.params) mg ab (CX w) k fa fd [x] (sp w))(eB:∀(w:World)(H:Hp)(a:Addr)(ns:List Int),ns.length<=n->Lj H->SqL (K w.params) H a (ns.map V.int)->sp w [.ref a] H (λv _=>v=.bl true) λ_ _ _=>False)(jb:∀(w:World)(H:Hp)(s:Shared)(e:Value)(s':Shared),CX w [] H s (λ_ _ _=>False) e s'->False):W.WalkO q loose XP YP l.row.toRowW d [] λf vs=>PySem.call f vs:=by refine Att.attach_call hn gd λw s₀ s₁ mg mb fa o pm cd doc a vs ns G Y ho hd ck f9 fq hints hlen hg=>? _;have KX:=hY w _ Y;obtain⟨fd,hb,hF⟩:=F w mg fa _ KX G.T.g f9;exact Qfl KX G.T.g G.T.b G.T.builtins G.T.nolimit hg fq hints (ZP hlen ic) hr hF hb (λH hO hS=>eB w H a ns hlen hO hS) λH e s'=>jb w H s₁ e s'
noncomputable def Wl(s:Stmt):Arguments:=match s with|.FunctionDef _ a _ _ _ _ _ _ _ _=>a|_=>{posonlyargs:=[],args:=[],vararg:=none,kwonlyargs:=[],kw_defaults:=[],kwarg:=none,defaults:=[]}
noncomputable def Yp(s:Stmt):List Stmt:=match s with|.FunctionDef _ _ b _ _ _ _ _ _ _=>b|_=>[]
noncomputable def Qp(s:Stmt):Scope:=match s with|.FunctionDef _ _ _ _ _ _ sc _ _ _=>sc|_=>{kind:=.function,names:=[],isGenerator:=false,isCoroutine:=false}
abbrev Yg:X8:=λ_ _ _ _ _ _=>False
abbrev E0:XK:=λ_ _ _=>False
def Hk{X:Cx}:Lm Yg X E0:=λ_ _ _ _ _ _ _ h=>h.elim
structure Fun(K:W.Frag)(x qual:Str)(st:Stmt)(f:Addr)(fd:FuncData):Prop where
 ex:∃(oc:Value)(od:Option Addr)(kV doc pm:Value)(an:Option Addr)(az ct:Value)(di:Array (Option Value)),fd=W.fnOf x qual (Wl st) (Yp st) (Qp st) .none kV doc pm an az ct/\K.lookup f=some ⟨oc,od,.func fd,di⟩/\W.codeIn K az qual=true
 kp:W.keepIn K (.ref f)=true
section
variable{P:Program}{w:World}{K:W.Frag}{mg:Str->Option Value}{ab:Heap}
def Fun.ok{x qual:Str}{st:Stmt}{f:Addr}{fd:FuncData}{N ps:List Str}{k:Nat}{sp:Sp}(F:Fun K x qual st f fd)(S:FnScope N ps (Qp st))(len:∀vs H Q E,sp vs H Q E->vs.length=ps.length)(dI:∀(az:Value)(A:Around)(ag:List Env)(s:Shared)(H:Hp)(vs:List V)(Q:VK)(E:XK),Room k (A.deeper (envOfC qual (Qp st) s.heap.objs.size f az))->sp vs H Q E->∃t,PSs (V9 Yg P w K mg ab N qual (Qp st) f az A ag s H E).nox (Yp st) t/\t {nx:=λ_ H'=>Q .non H',rt:=Q} (Wc N vs) H):FnOk P w K mg ab Yg (k+1) f fd ps sp:=by obtain⟨oc,od,kV,doc,pm,an,az,ct,di,rfl,lk,ck⟩:=F.ex;refine Qed lk ck S len λA ag s H vs Q E hr eB=>?_;obtain⟨t,h,q⟩:=dI az A ag s H vs Q E hr eB;exact⟨t,h.nox,q⟩
def Fun.binds{x qual:Str}{st:Stmt}{f:Addr}{fd:FuncData}{ps:List Str}(F:Fun K x qual st f fd)(h:∀(kV doc pm:Value)(an:Option Addr)(az ct:Value)(us:List Value),us.length=ps.length->bindArgs (W.fnOf x qual (Wl st) (Yp st) (Qp st) .none kV doc pm an az ct) ⟨us,[]⟩=pure (ps.zip us)):Binds K fd ps []:=by obtain⟨oc,od,kV,doc,pm,an,az,ct,di,rfl,lk,ck⟩:=F.ex;exact .all (h kV doc pm an az ct)
def Iu{x qual:Str}{st:Stmt}{f:Addr}{oc:Value}{od an:Option Addr}{di:Array (Option Value)}{kV doc pm az ct:Value}(l:K.lookup f=some ⟨oc,od,.func (W.fnOf x qual (Wl st) (Yp st) (Qp st) .none kV doc pm an az ct),di⟩)(c:W.codeIn K az qual=true)(k:W.keepIn K (.ref f)=true):Fun K x qual st f (W.fnOf x qual (Wl st) (Yp st) (Qp st) .none kV doc pm an az ct):=⟨⟨oc,od,kV,doc,pm,an,az,ct,di,rfl,l,c⟩,k⟩
end
def UJ{A B:Prop}(h:B):if false=true then A else B:=by rw[if_neg W0];exact h
def UK{A B:Prop}(h:A):if true=true then A else B:=by rw[if_pos rfl];exact h
section
variable{κ:Type}[DecidableEq κ]
noncomputable def Zs(ah:List (κ×V))(k:κ):Option V:=(ah.find? λkv=>decide (kv.1=k)).map (·.2)
noncomputable def Yn(ah:List (κ×V))(k:κ)(v:V):List (κ×V):=if(ah.any λkv=>decide (kv.1=k))=true then ah.map (λkv=>if kv.1=k then(kv.1,v)else kv)else ah++[(k,v)]
noncomputable def Qkn(ah:List (κ×V))(k:κ):List (κ×V):=ah.filter λkv=>decide (kv.1≠k)
def Ow{p:κ×V}{r:List (κ×V)}{k:κ}(e:p.1=k):Zs (p::r) k=some p.2:=by simp[Zs,find?_cons,e]
def Rb{p:κ×V}{r:List (κ×V)}{k:κ}(e:¬p.1=k):Zs (p::r) k=Zs r k:=by simp[Zs,find?_cons,e]
theorem Gp(k:κ):∀ah:List (κ×V),(ah.any λkv=>decide (kv.1=k))=(Zs ah k).isSome
 |[]=>rfl|p::r=>by
  rw[any_cons];by_cases e:p.1=k;·simp only[Ow e,Jf e,Bool.true_or,Option.isSome_some]
  ·rw[Rb e,JF e,Bool.false_or];exact Gp k r
def HJ(ah:List (κ×V))(k:κ)(v:V):(Yn ah k v).length<=ah.length+1:=by
 unfold Yn;split;·rw[Qm];omega
 ·rw[Qg,JM,WU];omega
def QiC{ah:List (κ×V)}{k:κ}(v:V)(h:Zs ah k=none):Yn ah k v=ah++[(k,v)]:=by unfold Yn;rw[Gp,h];exact if_neg (by decide)
def RelO.isSome_eq{o:Option V}{u:Option Value}(r:RelO o u):o.isSome=u.isSome:=by cases o with
 |none=>cases u with|none=>rfl|some _=>exact(show False from r).elim
 |some _=>cases u with|none=>exact(show False from r).elim|some _=>rfl
def KV.val{ah:List (κ×V)}{vs:List (κ×Value)}(r:KV ah vs)(k:κ):RelO (Zs ah k) (valueAt vs k):=by unfold KV at r;induction r with|nil=>exact True.intro|@cons p q ps qs h t ih=>
  obtain⟨h1,h2⟩:=h;by_cases e:p.1=k
  ·have e':q.1=k:=h1.symm.trans e;have b:valueAt (q::qs) k=some q.2:=by simp[valueAt,find?_cons,e']
   rw[Ow e,b];exact h2
  ·have e':¬q.1=k:=λz=>e (h1.trans z);have b:valueAt (q::qs) k=valueAt qs k:=by simp[valueAt,find?_cons,e']
   rw[Rb e,b];exact ih
theorem KV.any{ah:List (κ×V)}{vs:List (κ×Value)}(r:KV ah vs)(k:κ):(ah.any λkv=>decide (kv.1=k))=vs.any λkv=>decide (kv.1=k):=by unfold KV at r;induction r with|nil=>rfl|cons h t ih=>rw[any_cons,any_cons,ih,h.1]
def KV.repl{ah:List (κ×V)}{vs:List (κ×Value)}(r:KV ah vs)(k:κ){y:V}{u:Value}(ry:RelV y u):KV (ah.map λkv=>if kv.1=k then(kv.1,y)else kv) (vs.map λkv=>if kv.1=k then(kv.1,u)else kv):=by unfold KV at r⊢;induction r with|nil=>exact .nil|@cons p q ps qs h t ih=>
  rw[ZQ,ZQ];refine .cons ?_ ih;obtain⟨h1,h2⟩:=h;by_cases e:p.1=k;·rw[if_pos e,if_pos (h1.symm.trans e)];exact⟨h1,ry⟩
  ·rw[if_neg e,if_neg (λz=>e (h1.trans z))];exact⟨h1,h2⟩
def KV.put{ah:List (κ×V)}{vs:List (κ×Value)}(r:KV ah vs)(k:κ){y:V}{u:Value}(ry:RelV y u):KV (Yn ah k y) (stored vs k u):=by
 unfold Yn stored;rw[r.any k];by_cases e:(vs.any λkv=>decide (kv.1=k))=true;·rw[if_pos e,if_pos e];exact r.repl k ry
 ·rw[if_neg e,if_neg e];exact Paired.snoc r ⟨rfl,ry⟩
theorem KV.length{ah:List (κ×V)}{vs:List (κ×Value)}(r:KV ah vs):ah.length=vs.length:=Paired.length r
end
def Sq{P:Program}{w:World}{k:JC}{u:Value}(r:RelV (kV k) u):(YY P w).is k u=true:=by cases k with|inl i=>obtain⟨t,e⟩:=show∃t,u=Value.int i t from r;subst e;exact QfJ P w i t|inr x=>obtain⟨t,e⟩:=show∃t,u=Value.str x t from r;subst e;exact QfK P w x t
theorem CP{P:Program}{w:World}:∀{ks:List JC}{us:List Value},Vals (ks.map kV) us->ItemsAre (YY P w) ks us|[],_,r=>by rw[map_nil]at r;cases r;exact .nil|k::ks,_,r=>by rw[ZQ]at r;cases r with|cons h t=>exact .cons (Sq h) (CP t)
abbrev KT(H:Hp):List (List JC×V)->List (List JC×Addr×Value)->Prop:=Paired λp q=>p.1=q.1/\H q.2.1=some (.tup (p.1.map kV))/\RelV p.2 q.2.2
def KT.val{H:Hp}{ah:List (List JC×V)}{xs:List (List JC×Addr×Value)}(r:KT H ah xs)(k:List JC):RelO (Zs ah k) ((atKey xs k).map (·.2)):=by induction r with|nil=>exact True.intro|@cons p q ps qs h t ih=>
  obtain⟨h1,_,h2⟩:=h;by_cases e:p.1=k
  ·have e':q.1=k:=h1.symm.trans e;have b:atKey (q::qs) k=some q.2:=by simp[atKey,find?_cons,e']
   rw[Ow e,b];exact h2
  ·have e':¬q.1=k:=λz=>e (h1.trans z);have b:atKey (q::qs) k=atKey qs k:=by simp[atKey,find?_cons,e']
   rw[Rb e,b];exact ih
def KT.repl{H:Hp}{ah:List (List JC×V)}{xs:List (List JC×Addr×Value)}(r:KT H ah xs)(k:List JC){y:V}{u:Value}(ry:RelV y u):KT H (ah.map λkv=>if kv.1=k then(kv.1,y)else kv) (xs.map (putAt k u)):=by induction r with
 |nil=>exact .nil|@cons p q ps qs h t ih=>
  rw[ZQ,ZQ];refine .cons ?_ ih;obtain⟨h1,h2,h3⟩:=h;unfold putAt;by_cases e:p.1=k;·rw[if_pos e,if_pos (h1.symm.trans e)];exact⟨h1,h2,ry⟩
  ·rw[if_neg e,if_neg (λz=>e (h1.trans z))];exact⟨h1,h2,h3⟩
def KT.put{H:Hp}{ah:List (List JC×V)}{xs:List (List JC×Addr×Value)}(r:KT H ah xs)(k:List JC){b:Addr}{y:V}{u:Value}(hb:H b=some (.tup (k.map kV)))(ry:RelV y u):KT H (Yn ah k y) (storedH xs k b u):=by
 have e:(ah.any λkv=>decide (kv.1=k))=(atKey xs k).isSome:=by rw[Gp,(r.val k).isSome_eq,isSome_map]
 unfold Yn storedH;rw[e];by_cases q:(atKey xs k).isSome=true;·rw[if_pos q,if_pos q];exact r.repl k ry
 ·rw[if_neg q,if_neg q];exact Paired.snoc r ⟨rfl,hb,ry⟩
def KT.keeps{H H':Hp}{ah:List (List JC×V)}{xs:List (List JC×Addr×Value)}(r:KT H ah xs)(ht:∀b ys,H b=some (.tup ys)->H' b=some (.tup ys)):KT H' ah xs:=Paired.mapP r λ_ _ z=>⟨z.1,ht _ _ z.2.1,z.2.2⟩
section
variable{P:Program}{w:World}{H:Hp}{h:Heap}{a:Addr}
def A0{u:HO}(ok:HOk P w H h)(e:Rd H a u):ObjOk P w H h a u:=e.ok ok
def P7{ah:List (JC×V)}(ok:HOk P w H h)(e:Rd H a (.dK ah)):ah.length<=sizeLine/\(a==sysModules)=false/\∃vs,KV ah vs/\h.DictOf (YY P w) a vs:=show ObjOk P w H h a (.dK ah)from A0 ok e
def DI{ah:List (JC×V)}(ok:HOk P w H h)(e:H a=some (.dK ah)):ah.length<=sizeLine/\(a==sysModules)=false/\∃vs,KV ah vs/\h.DictOf (YY P w) a vs:=P7 ok (.inl e)
def Px{ks:List JC}(ok:HOk P w H h)(e:H a=some (.tup (ks.map kV))):(tupleKind (YY P w)).is h ks a:=by obtain⟨_,its,r,o,h1,h2,n,h3⟩:=show ObjOk P w H h a (.tup (ks.map kV))from ok a _ e;exact⟨o,its.toArray,n,h1,h2,h3,by simpa using CP r⟩
def PB{ah:List (List JC×V)}(ok:HOk P w H h)(e:Rd H a (.dT ah)):ah.length<=sizeLine/\(a==sysModules)=false/\∃xs,KT H ah xs/\h.DictOfH (tupleKind (YY P w)) a xs:=by
 obtain⟨z,y,xs,r,o,es,ep,h1,h2,h3,h4,h5⟩:=(show ObjOk P w H h a (.dT ah)from A0 ok e);refine⟨z,y,xs,r,o,es,ep,h1,h2,h3,h4,λx hx=>?_,h5⟩;have all:∀{l:List (List JC×V)}{m:List (List JC×Addr×Value)},KT H l m->∀x∈m,(tupleKind (YY P w)).is h x.1 x.2.1:=by intro l m q;induction q with
  |nil=>intro x hx;exact nomatch hx|@cons p q ps qs hq t ih=>
   intro x hx;rcases q_5.mp hx with e|hx
   ·subst e;exact Px ok (by rw[<-hq.1];exact hq.2.1)
   ·exact ih x hx
 exact all r x hx
def QdQ{ah:List (List JC×V)}(ok:HOk P w H h)(e:H a=some (.dT ah)):ah.length<=sizeLine/\(a==sysModules)=false/\∃xs,KT H ah xs/\h.DictOfH (tupleKind (YY P w)) a xs:=PB ok (.inl e)
end
def DGet(H:Hp)(a:Addr)(y:V)(r:Option V):Prop:=(∃ah k,Rd H a (.dK ah)/\y=kV k/\r=Zs ah k)\/∃ah k b,Rd H a (.dT ah)/\y=.ref b/\H b=some (.tup (k.map kV))/\r=Zs ah k
def DPut(H:Hp)(a:Addr)(y v:V)(H':Hp):Prop:=(∃ah k,H a=some (.dK ah)/\y=kV k/\ah.length<sizeLine/\H'=upd H a (.dK (Yn ah k v)))\/∃ah k b,H a=some (.dT ah)/\y=.ref b/\H b=some (.tup (k.map kV))/\ah.length<sizeLine/\H'=upd H a (.dT (Yn ah k v))
theorem DGet.k{H:Hp}{a:Addr}{ah:List (JC×V)}{k:JC}(e:H a=some (.dK ah)):DGet H a (kV k) (Zs ah k):=.inl ⟨ah,k,.inl e,rfl,rfl⟩
theorem DPut.k{H:Hp}{a:Addr}{ah:List (JC×V)}{k:JC}{v:V}(e:H a=some (.dK ah))(hl:ah.length<sizeLine):DPut H a (kV k) v (upd H a (.dK (Yn ah k v))):=.inl ⟨ah,k,e,rfl,hl,rfl⟩
section
variable{X:Cx}{aa:List (Addr×Obj)}{σ:St}{H:Hp}{s:Shared}{a:Addr}{y v:V}{u r:Value}{o:Option V}{A:Around}{E:Value->Shared->Prop}
def Inv.big(I:Inv X aa σ H s):sysModules<s.heap.objs.size:=by have h:mainGlobals<s.heap.objs.size:=(I.mod.glob.keeps I.bk).lt;exact lt_trans (by decide) h
def QcN{Q:Value->Shared->Prop}(hu:A.units+1<cLine)(I:Inv X aa σ H s)(g:DGet H a y (some v))(ry:RelV y u)(h:∀w' s',Inv X aa σ H s'->RelV v w'->Q w' s'):wpAny (model X.prog X.w) A (getItem (.ref a) u) Q E s:=by
 rcases g with⟨ah,k,e,ey,l⟩|⟨ah,k,b,e,ey,eb,l⟩
 ·subst ey;obtain⟨z,hd,vs,rel,dd⟩:=P7 I.hok e;obtain⟨w',hw,cM⟩:=RelO.some_of (v:=v) (o:=valueAt vs k) (by rw[l];exact rel.val k);exact wpAny_getItem_of (Sq ry) dd.mapOf hw (h w' _ (I.tok _) cM)
 ·subst ey;cases(show u=Value.ref b from ry);obtain⟨z,hd,xs,rel,dd⟩:=PB I.hok e;obtain⟨w',hw,cM⟩:=RelO.some_of (v:=v) (o:=(atKey xs k).map (·.2)) (by rw[l];exact rel.val k);obtain⟨p,hp,l9⟩:=q_82.mp hw;refine wpAny_getItem_heap (tupleKind_room_in1 hu) (Px I.hok eb) dd hp ?_;rw[l9];exact h w' _ (I.tok _) cM
def QcQ{Q:Value->Shared->Prop}(hu:A.units+1<cLine)(I:Inv X aa σ H s)(g:DGet H a y o)(ry:RelV y u)(h:∀s',Inv X aa σ H s'->Q (.bool o.isSome) s'):wpAny (model X.prog X.w) A (compareOp .In u (.ref a)) Q E s:=by
 rcases g with⟨ah,k,e,ey,l⟩|⟨ah,k,b,e,ey,eb,l⟩
 ·subst ey;obtain⟨z,hd,vs,rel,dd⟩:=P7 I.hok e;refine wpAny_in_of (Sq ry) hd dd.mapOf ?_;rw[<-(rel.val k).isSome_eq,<-l];exact h _ (I.tok _)
 ·subst ey;cases(show u=Value.ref b from ry);obtain⟨z,hd,xs,rel,dd⟩:=PB I.hok e;refine wpAny_in_heap (tupleKind_room_in1 hu) (Px I.hok eb) hd dd ?_;have q:=(rel.val k).isSome_eq;rw[isSome_map]at q;rw[<-q,<-l];exact h _ (I.tok _)
def Qdb{Q:Value->Shared->Prop}(hu:A.units+1<cLine)(I:Inv X aa σ H s)(g:DGet H a y o)(ry:RelV y u)(h:∀s',Inv X aa σ H s'->Q (.bool (!o.isSome)) s'):wpAny (model X.prog X.w) A (compareOp .NotIn u (.ref a)) Q E s:=by
 rcases g with⟨ah,k,e,ey,l⟩|⟨ah,k,b,e,ey,eb,l⟩
 ·subst ey;obtain⟨z,hd,vs,rel,dd⟩:=P7 I.hok e;refine wpAny_notIn_of (Sq ry) hd dd.mapOf ?_;rw[<-(rel.val k).isSome_eq,<-l];exact h _ (I.tok _)
 ·subst ey;cases(show u=Value.ref b from ry);obtain⟨z,hd,xs,rel,dd⟩:=PB I.hok e;refine wpAny_notIn_heap (tupleKind_room_in1 hu) (Px I.hok eb) hd dd ?_;have q:=(rel.val k).isSome_eq;rw[isSome_map]at q;rw[<-q,<-l];exact h _ (I.tok _)
def Ig{h':Heap}{t':Nat}{ob:HO}(I:Inv X aa σ H s)(mu:Rl (H a))(hs:Heap.SameBut a s.heap h')(he:∃q,h'.get? a=some q)(new:ObjOk X.prog X.w (upd H a ob) h' a ob):Inv X aa σ (upd H a ob) {s with heap:=h',toks:=t'}:=I.write (x:=a) (e:=a) mu (.inl rfl) (λb q hb z=>(hs.2 b hb).trans z) he new
def DH{P:Program}{w:World}{H':Hp}{h':Heap}{ah:List (JC×V)}{vs:List (JC×Value)}(z:ah.length<=sizeLine)(hd:(a==sysModules)=false)(rel:KV ah vs)(dd:h'.DictOf (YY P w) a vs):ObjOk P w H' h' a (.dK ah):=⟨z,hd,vs,rel,dd⟩
def Qdl{H':Hp}{Q:Unit->Shared->Prop}(hu:A.units+1<cLine)(I:Inv X aa σ H s)(g:DPut H a y v H')(ry:RelV y u)(rv:RelV v r)(h:∀s',Inv X aa σ H' s'->Q () s'):wpAny (model X.prog X.w) A (setItem (.ref a) u r) Q E s:=by
 rcases g with⟨ah,k,e,ey,l,eH⟩|⟨ah,k,b,e,ey,eb,l,eH⟩
 ·subst ey eH;obtain⟨z,hd,vs,rel,dd⟩:=DI I.hok e;have hz:vs.length<=sizeLine:=by rw[<-rel.length];exact z
  have hl:(Yn ah k v).length<=sizeLine:=by have:=HJ ah k v;omega
  refine wpAny_setItem_pairs (hsz:=hz) (Sq ry) dd λh' iF hs=>h _ ?_;have he:∃q,h'.get? a=some q:=let⟨q,_,_,hq,_⟩:=iF;⟨q,hq⟩;exact Ig I (by rw[e];exact True.intro) hs he (DH hl hd (rel.put k rv) iF)
 ·subst ey eH;cases(show u=Value.ref b from ry);obtain⟨z,hd,xs,rel,dd⟩:=QdQ I.hok e;have hz:xs.length<=sizeLine:=by rw[<-Paired.length rel];exact z
  have hl:(Yn ah k v).length<=sizeLine:=by have:=HJ ah k v;omega
  refine wpAny_setItem_heap (hsz:=hz) (tupleKind_room_in1 hu) (Px I.hok eb) dd λh' iF hs=>h _ ?_;obtain⟨q,es,ep,hq,h2,h3,h4,_,h5⟩:=iF;refine Ig I (by rw[e];exact True.intro) hs ⟨q,hq⟩ ⟨hl,hd,_,(rel.put k eb rv).keeps λc ys ec=>?_,q,es,ep,hq,h2,h3,h4,h5⟩;rw[Qn (QfZ ec e (λz=>nomatch z))];exact ec
end
def Li(i:Expr):Prop:=∀ov iv,subscripted i false ov iv=operate [ov,iv] (getItem ov iv)
def QjA{prog:Program}{w:World}{A:Around}{E:Value->Shared->Prop}{s:Shared}{env:Env}{value slice:Expr}{pos:Pos}{T id:String}{Q:Value->Shared->Prop}(hl:typeLookup (.type T) "__getitem__"=pure (some (.builtin id)))(hs:Li slice)(h:wpAny (model prog w) A (eval value env) (λo s₁=>wpAny (model prog w) A (eval slice env) (λi s₂=>s₂.TypeIs o T/\wpAny (model prog w) A (getItem o i) Q E s₂) E s₁) E s):wpAny (model prog w) A (eval (.Subscript value slice pos) env) Q E s:=by
 refine Subscript_ (wpAny_mono h (λo s₁ h₁=>wpAny_mono h₁ (λi s₂ h₂=>?_) λ_ _ x=>x) λ_ _ x=>x);obtain⟨hT,h₂⟩:=h₂;unfold subscriptTail;refine wpAny_bind ?_;rw[getitemInPython_of_ne hT.not_modules];refine wpAny_bind (wpAny_specialOf hT hl ?_);have fin:wpAny (model prog w) A (subscripted slice false o i) (λr s₃=>wpAny (model prog w) A (letTemporaryGo value o r>>=λ_=>pure r) Q E s₃) E s₂:=by rw[hs o i];exact wpAny_operating (wpAny_mono h₂ (λr s₃ h₃=>wpAny_bind (wpAny_letTemporaryGo (wpAny_pure h₃))) λ_ _ x=>x)
 first|exact wpAny_pure (wpAny_bind fin)|exact wpAny_bind (wpAny_pure (wpAny_bind fin))|exact wpAny_bind fin
def QdD{X:Cx}{aa:List (Addr×Obj)}{σ:St}{H:Hp}{s:Shared}{a:Addr}{y:V}{o:Option V}(I:Inv X aa σ H s)(g:DGet H a y o):s.TypeIs (.ref a) "dict":=by
 rcases g with⟨ah,k,e,_,_⟩|⟨ah,k,b,e,_,_,_⟩
 ·obtain⟨_,_,vs,_,dd⟩:=P7 I.hok e;exact dd.typeIs
 ·obtain⟨_,_,xs,_,dd⟩:=PB I.hok e;exact dd.typeIs
def QjF(td ty:TE):TE:=λσ H Q=>td σ H λx H1=>ty σ H1 λy H2=>∃a v,x=.ref a/\DGet H2 a y (some v)/\Q v H2
def QjG(ty td:TE):TE:=λσ H Q=>ty σ H λy H1=>td σ H1 λx H2=>∃a o,x=.ref a/\DGet H2 a y o/\Q (.bl o.isSome) H2
def QjI(ty td:TE):TE:=λσ H Q=>ty σ H λy H1=>td σ H1 λx H2=>∃a o,x=.ref a/\DGet H2 a y o/\Q (.bl (!o.isSome)) H2
def Qi5(td ty tv:TE):TS:=λD σ H=>tv σ H λv H1=>td σ H1 λx H2=>ty σ H2 λy H3=>∃a H4,x=.ref a/\DPut H3 a y v H4/\D.nx σ H4
section
variable{X:Cx}{o i e value:Expr}{pos pos' cH:Pos}{td ty tv:TE}
def Qh0(hu:X.A.units+1<cLine)(ho:PE X o td)(hi:PE X i ty)(hs:Li i):PE X (.Subscript o i pos) (QjF td ty):=by intro aa s σ H Q I h;refine QjA PySem.F.slot_dict_getitem.lookup hs (Qa (ho aa s σ H _ I h) λu s1⟨x,H1,I1,rx,q1⟩=>Qa (hi aa s1 σ H1 _ I1 q1) λiv s2⟨y,H2,I2,ry,a,v,ex,g,q2⟩=>?_);subst ex;obtain rfl:u=Value.ref a:=rx;exact⟨QdD I2 g,QcN hu I2 g ry λw' s3 I3 cM=>⟨v,H2,I3,cM,q2⟩⟩
def QhS(hu:X.A.units+1<cLine)(hi:PE X i ty)(ho:PE X o td):PC X .In i o (QjG ty td):=by intro aa s σ H Q I h;refine Qa (hi aa s σ H _ I h) λiv s1⟨y,H1,I1,ry,q1⟩=>Qa (ho aa s1 σ H1 _ I1 q1) λu s2⟨x,H2,I2,rx,a,ov,ex,g,q2⟩=>?_;subst ex;obtain rfl:u=Value.ref a:=rx;exact QcQ hu I2 g ry λs3 I3=>⟨.bl ov.isSome,H2,I3,rfl,q2⟩
def QhT(hu:X.A.units+1<cLine)(hi:PE X i ty)(ho:PE X o td):PC X .NotIn i o (QjI ty td):=by intro aa s σ H Q I h;refine Qa (hi aa s σ H _ I h) λiv s1⟨y,H1,I1,ry,q1⟩=>Qa (ho aa s1 σ H1 _ I1 q1) λu s2⟨x,H2,I2,rx,a,ov,ex,g,q2⟩=>?_;subst ex;obtain rfl:u=Value.ref a:=rx;exact Qdb hu I2 g ry λs3 I3=>⟨.bl (!ov.isSome),H2,I3,rfl,q2⟩
def Qiu(hu:X.A.units+1<cLine)(ho:PE X o td)(hi:PE X i ty)(hv:PE X value tv)(hs:swapsWith value (some (.Subscript o i pos')) pos.line X.env=pure false):PS X (.Assign [.Subscript o i pos'] value pos) (Qi5 td ty tv):=by intro aa s σ H D I h;refine wpAny_Assign_Subscript (Qa (hv aa s σ H _ I h) λr s1⟨v,H1,I1,rv,q1⟩=>Qa (ho aa s1 σ H1 _ I1 q1) λu s2⟨x,H2,I2,rx,q2⟩=>Qa (hi aa s2 σ H2 _ I2 q2) λiv s3⟨y,H3,I3,ry,a,H4,ex,g,q3⟩=>?_) hs;subst ex;obtain rfl:u=Value.ref a:=rx;exact Qdl hu I3 g ry rv λs4 I4=>⟨σ,H4,I4,q3⟩
end
def QdE{P:Program}{w:World}{H:Hp}(h:Heap)(hb:sysModules<h.objs.size):ObjOk P w H (h.push {cls:=.type "dict",data:=.dict #[]}) h.objs.size (.dK []):=⟨WV _,beq_eq_false_iff_ne.mpr (Ne.symm (Y3 hb)),[],.nil,Heap.DictOf.new h⟩
def QjH:TE:=λ_ H Q=>∀p,H p=none->Q (.ref p) (upd H p (.dK []))
section
variable{X:Cx}{pos:Pos}
def Qh1:PE X (.Dict [] [] pos) QjH:=λaa s σ H Q I h=>wpAny_Dict_empty ⟨.ref s.heap.objs.size,_,I.laid (a:=s.heap.objs.size) (o:=.dK []) (t':=s.toks) (λ_ _ q=>Heap.get?_push_of_some _ q) (Qx _) (QdE s.heap I.big),rfl,h _ (I.hok.fresh (Qx _))⟩
end
end L2
namespace Wd
open PySem
abbrev Kd:=Sum Int Str
inductive D where|non|bl(b:Bool)|int(i:Int)|str(x:Str)|tup(xs:List D)|lst(xs:List D)|scr(ns:List Int)|dic(ks:List Kd)(xs:List D)
abbrev QD:=List (Option D)
abbrev Q8:=QD->Option D
abbrev Z4:=QD->Option (List D)
abbrev T5:=QD->Option (Option Int)
abbrev Jk:=D->QD->Option QD
inductive Fl where|nx(e:QD)|rt(d:D)|bk(e:QD)|ct(e:QD)
abbrev QF:=QD->Option Fl
def lI:Nat:=16777216
def YT{α:Type}:Option D->Option α->Option α->Option α|some (.bl c),x,y=>if c=true then x else y|_,_,_=>none
noncomputable def Tg:Option D->Option D|some (.bl c)=>some (.bl (!c))|_=>none
def Jr{α:Type}(c:Bool)(x y:Option α):YT (some (.bl c)) x y=if c=true then x else y:=rfl
def Sy(c:Bool):Tg (some (.bl c))=some (.bl (!c)):=rfl
def Sk{α:Type}{p:Prop}[Decidable p](a b:Option D)(x y:Option α):YT (if p then a else b) x y=if p then YT a x y else YT b x y:=by split<;>rfl
def Sz{p:Prop}[Decidable p](a b:Option D):Tg (if p then a else b)=if p then Tg a else Tg b:=by split<;>rfl
mutual noncomputable def D.dep:D->Nat|.tup xs=>D.depL xs+1|.lst xs=>D.depL xs+1|.scr _=>1|.dic _ xs=>D.depL xs+1|_=>0 noncomputable def D.depL:List D->Nat|[]=>0|x::xs=>max (D.dep x) (D.depL xs)end
def TN:D.dep .non=0:=by rw[D.dep];all_goals simp
def TM(b:Bool):D.dep (.bl b)=0:=by rw[D.dep];all_goals simp
def Z5(i:Int):D.dep (.int i)=0:=by rw[D.dep];all_goals simp
def Zu(x:Str):D.dep (.str x)=0:=by rw[D.dep];all_goals simp
def Vv(xs:List D):D.dep (.tup xs)=D.depL xs+1:=by rw[D.dep]
def VA(xs:List D):D.dep (.lst xs)=D.depL xs+1:=by rw[D.dep]
def Vd:D.depL []=0:=by rw[D.depL]
def Yq(x:D)(xs:List D):D.depL (x::xs)=max (D.dep x) (D.depL xs):=by rw[D.depL]
def XZ(b:Bool):Int:=if b then 1 else 0
noncomputable def Lz:Option Bool->Option Bool->Option Bool|some a,some b=>some (a&&b)|_,_=>none
def U2(a b:Bool):Lz (some a) (some b)=some (a&&b):=rfl
noncomputable def D.oth:D->Option Bool|.scr _=>none|.dic _ _=>none|_=>some false
mutual noncomputable def D.eq:D->D->Option Bool
 |.non,e=>match e with|.non=>some true|e=>e.oth
 |.bl a,e=>match e with
  |.bl b=>some (a==b)|.int j=>some (decide (XZ a=j))|e=>e.oth
 |.int i,e=>match e with
  |.bl b=>some (decide (i=XZ b))|.int j=>some (decide (i=j))|e=>e.oth
 |.str x,e=>match e with
  |.str y=>some (decide (x=y))|e=>e.oth
 |.tup xs,e=>match e with
  |.tup ys=>D.eqL xs ys|e=>e.oth
 |.lst xs,e=>match e with
  |.lst ys=>D.eqL xs ys|e=>e.oth
 |.scr _,_=>none|.dic _ _,_=>none noncomputable def D.eqL:List D->List D->Option Bool|[],[]=>some true|x::xs,y::ys=>Lz (D.eq x y) (D.eqL xs ys)|_,_=>some false end
def ZC(i j:Int):D.eq (.int i) (.int j)=some (decide (i=j)):=by rw[D.eq]
def SW(i j:Bool):D.eq (.bl i) (.bl j)=some (i==j):=by rw[D.eq]
def YS(i j:Str):D.eq (.str i) (.str j)=some (decide (i=j)):=by rw[D.eq]
def VJ(xs ys:List D):D.eq (.tup xs) (.tup ys)=D.eqL xs ys:=by rw[D.eq]
def Ws(xs ys:List D):D.eq (.lst xs) (.lst ys)=D.eqL xs ys:=by rw[D.eq]
def WJ:D.eqL [] []=some true:=by rw[D.eqL]
def Wr(x y:D)(xs ys:List D):D.eqL (x::xs) (y::ys)=Lz (D.eq x y) (D.eqL xs ys):=by rw[D.eqL]
noncomputable def D.cmp(o:Option Bool):Option D:=o.map .bl
noncomputable def D.cmpN(o:Option Bool):Option D:=o.map λb=>.bl (!b)
def D.eqO(x y:D):Option D:=if x.dep<=40 then D.cmp (D.eq x y)else none
def D.neO(x y:D):Option D:=if x.dep<=40 then D.cmpN (D.eq x y)else none
noncomputable def intsOf:List D->Option (List Int)|[]=>some []|.int i::r=>(intsOf r).map (i::·)|_=>none
noncomputable def Ww:List Int->List Int->Bool|[],_=>true|_::_,[]=>false|x::xs,y::ys=>if x=y then Ww xs ys else decide (x<y)
noncomputable def D.lt:D->D->Option D|.int i,.int j=>some (.bl (decide (i<j)))|_,_=>none
def D.le:D->D->Option D
 |.int i,.int j=>some (.bl (decide (i<=j)))|.tup xs,.tup ys=>match intsOf xs,intsOf ys with
  |some a,some b=>some (.bl (Ww a b))|_,_=>none
 |_,_=>none
noncomputable def D.gt:D->D->Option D|.int i,.int j=>some (.bl (decide (j<i)))|_,_=>none
noncomputable def D.ge:D->D->Option D|.int i,.int j=>some (.bl (decide (j<=i)))|_,_=>none
noncomputable def D.len:D->Option D|.str x=>if x.length<=lI then some (.int x.length)else none|.tup xs=>some (.int xs.length)|.lst xs=>some (.int xs.length)|.scr ns=>some (.int ns.length)|_=>none
noncomputable def D.add:D->D->Option D|.int i,.int j=>some (.int (i+j))|.str x,.str y=>if x.length+y.length<=lI then some (.str (x++y))else none|.lst xs,.lst ys=>if xs.length+ys.length<=lI then some (.lst (xs++ys))else none|.tup (x::xs),.tup ys=>if xs.length+1+ys.length<=lI then some (.tup (x::xs++ys))else none|_,_=>none
noncomputable def D.addI:D->D->Option D|.int i,.int j=>some (.int (i+j))|.str x,.str y=>if x.length+y.length<=lI then some (.str (x++y))else none|_,_=>none
noncomputable def D.sub:D->D->Option D|.int i,.int j=>some (.int (i-j))|_,_=>none
noncomputable def D.mul:D->D->Option D|.int i,.int j=>if-2^64<i/\i<2^64\/-2^64<j/\j<2^64 then some (.int (i*j))else none|_,_=>none
noncomputable def D.mod:D->D->Option D|.int i,.int j=>if 0<j then some (.int (i%j))else none|_,_=>none
noncomputable def D.fdiv:D->D->Option D|.int i,.int j=>if 0<j/\j<1073741824 then some (.int (i/j))else none|_,_=>none
noncomputable def D.pow:D->D->Option D|.int i,.int j=>if 0<=j/\j<=1000000/\i.natAbs<2^64 then some (.int (i^j.toNat))else none|_,_=>none
noncomputable def D.neg:D->Option D|.int i=>some (.int (-i))|_=>none
def Sx{i j:Int}(h:-2^64<i/\i<2^64):D.mul (.int i) (.int j)=some (.int (i*j)):=if_pos (.inl h)
def Nx{i j:Int}(h:-2^64<j/\j<2^64):D.mul (.int i) (.int j)=some (.int (i*j)):=if_pos (.inr h)
def Xp{i j:Int}(h:0<j):D.mod (.int i) (.int j)=some (.int (i%j)):=if_pos h
def Qd6{i j:Int}(h:0<j/\j<1073741824):D.fdiv (.int i) (.int j)=some (.int (i/j)):=if_pos h
def Bi{i j:Int}(h:0<=j/\j<=1000000/\i.natAbs<2^64):D.pow (.int i) (.int j)=some (.int (i^j.toNat)):=if_pos h
noncomputable def D.strI:D->Option D|.int i=>if i.natAbs<2^1900 then some (.str (Str.ofString (toString i)))else none|_=>none
noncomputable def D.intB:D->Option D|.int i=>some (.int i)|.bl b=>some (.int (if b then 1 else 0))|_=>none
noncomputable def D.min2:D->D->Option D|.int i,.int j=>some (.int (if j<i then j else i))|_,_=>none
noncomputable def D.max2:D->D->Option D|.int i,.int j=>some (.int (if j>i then j else i))|_,_=>none
noncomputable def D.isT:D->Option D|.bl b=>some (.bl b)|.int _=>some (.bl false)|_=>none
noncomputable def W9:D->String|.non=>"NoneType"|.bl _=>"bool"|.int _=>"int"|.str _=>"str"|.tup _=>"tuple"|.lst _=>"list"|.scr _=>"list"|.dic _ _=>"dict"
def D.inst(t:String)(d:D):Option D:=match d with|.scr _=>none|d=>some (.bl (decide (W9 d=t)||decide (t="int")&&decide (W9 d="bool")))
noncomputable def Jh(n:Nat)(i:Int):Option Nat:=if 0<=i then(if i<n then some i.toNat else none)else if-(n:Int)<=i then some (i+n).toNat else none
def D.ix:D->D->Option D|.tup xs,.int i=>(Jh xs.length i).bind λk=>xs[k]?|.lst xs,.int i=>(Jh xs.length i).bind λk=>xs[k]?|.scr ns,.int i=>(Jh ns.length i).bind λk=>(ns[k]?).map .int|.str x,.int i=>if x.length<=lI then(Jh x.length i).bind λk=>(x.cps[k]?).map λc=>.str ⟨#[c]⟩else none|_,_=>none
noncomputable def YL(n d:Nat):Option Int->Nat|none=>d|some v=>if v<0 then(v+(n:Int)).toNat else min v.toNat n
def Zc{α:Type}(xs:List α)(lo hi:Option Int):List α:=(xs.drop (YL xs.length 0 lo)).take (YL xs.length xs.length hi-YL xs.length 0 lo)
def D.cut:D->Option Int->Option Int->Option D|.lst xs,lo,hi=>some (.lst (Zc xs lo hi))|.tup xs,lo,hi=>if YL xs.length 0 lo=0/\YL xs.length xs.length hi=xs.length then none else some (.tup (Zc xs lo hi))|.scr ns,lo,hi=>some (.lst ((Zc ns lo hi).map .int))|_,_,_=>none
def Qca(x:D)(lo hi:Option Int):Option D:=D.cut x lo hi
def eV(i:Nat):Q8:=λe=>(e[i]?).join
def eC(d:D):Q8:=λ_=>some d
noncomputable def Q4(g:D->D->Option D)(a b:Q8):Q8:=λe=>(a e).bind λx=>(b e).bind λy=>g x y
noncomputable def QE(g:D->Option D)(a:Q8):Q8:=λe=>(a e).bind λx=>g x
def Zw(a:Q8):Q8:=λe=>Tg (a e)
noncomputable def JV(a b:Q8):Q8:=λe=>YT (a e) (b e) (some (.bl false))
noncomputable def J8(a b:Q8):Q8:=λe=>YT (a e) (some (.bl true)) (b e)
noncomputable def Vg(c a b:Q8):Q8:=λe=>YT (c e) (a e) (b e)
noncomputable def Xe(g g':D->D->Option D)(a b c:Q8):Q8:=λe=>(a e).bind λx=>(b e).bind λy=>YT (g x y) ((c e).bind λz=>g' y z) (some (.bl false))
def lN:Z4:=λ_=>some []
noncomputable def lC(a:Q8)(l:Z4):Z4:=λe=>(a e).bind λx=>(l e).map λxs=>x::xs
def QT(l:Z4):Q8:=λe=>(l e).map .tup
def QS(l:Z4):Q8:=λe=>(l e).map .lst
noncomputable def eK(f:List D->Option D)(l:Z4):Q8:=λe=>(l e).bind f
def Vh(t:String)(a:Q8):Q8:=λe=>(a e).bind λx=>D.inst t x
def Zz:T5:=λ_=>some none
noncomputable def Z9(a:Q8):T5:=λe=>(a e).bind λd=>match d with|.int i=>some (some i)|_=>none
def SQ(a:Q8)(lo hi:T5):Q8:=λe=>(a e).bind λx=>(lo e).bind λl=>(hi e).bind λh=>Qca x l h
noncomputable def gS(i:Nat):Jk:=λd e=>some (e.set i (some d))
noncomputable def VC:List Jk->List D->QD->Option QD|[],[],e=>some e|g::gs,d::ds,e=>(g d e).bind λe'=>VC gs ds e'|_,_,_=>none
def Jb(gs:List Jk):Jk:=λd e=>match d with|.tup ds=>VC gs ds e|_=>none
noncomputable def XT:Option Fl->QF->Option Fl|some (.nx e),k=>k e|some (.rt d),_=>some (.rt d)|some (.bk e),_=>some (.bk e)|some (.ct e),_=>some (.ct e)|none,_=>none
def X4(e:QD)(k:QF):XT (some (.nx e)) k=k e:=rfl
def UT(d:D)(k:QF):XT (some (.rt d)) k=some (.rt d):=rfl
def RN(e:QD)(k:QF):XT (some (.bk e)) k=some (.bk e):=rfl
def RO(e:QD)(k:QF):XT (some (.ct e)) k=some (.ct e):=rfl
def RQ(k:QF):XT none k=none:=rfl
def RP{c:Prop}[Decidable c](a b:Option Fl)(k:QF):XT (if c then a else b) k=if c then XT a k else XT b k:=by split<;>rfl
def sQ(a b:QF):QF:=λe=>XT (a e) b
noncomputable def QC(c:Q8)(a b:QF):QF:=λe=>YT (c e) (a e) (b e)
def QQ(a:Q8):QF:=λe=>(a e).map .rt
def RL:QF:=λ_=>some (.rt .non)
noncomputable def QA(a:Q8)(g:Jk):QF:=λe=>(a e).bind λd=>(g d e).map .nx
noncomputable def W6(i:Nat)(g:D->D->Option D)(a:Q8):QF:=λe=>(eV i e).bind λx=>(a e).bind λy=>(g x y).map λz=>.nx (e.set i (some z))
noncomputable def Wa(a:Q8):QF:=λe=>(a e).map λ_=>.nx e
def QK:QF:=λe=>some (.nx e)
def RI:QF:=λe=>some (.bk e)
def Uv:QF:=λe=>some (.ct e)
noncomputable def D.app:D->D->Option D|.lst xs,d=>if xs.length<lI then some (.lst (xs++[d]))else none|_,_=>none
noncomputable def D.ext:D->D->Option D|.lst xs,.lst ys=>if xs.length+ys.length<=lI then some (.lst (xs++ys))else none|_,_=>none
def sP(i:Nat)(a:Q8):QF:=λe=>(eV i e).bind λx=>(a e).bind λd=>(D.app x d).map λz=>.nx (e.set i (some z))
def G6(i:Nat)(a:Q8):QF:=λe=>(eV i e).bind λx=>(a e).bind λd=>(D.ext x d).map λz=>.nx (e.set i (some z))
noncomputable def Vp:Option Fl->QF->Option Fl|some (.nx e),k=>k e|some (.ct e),k=>k e|some (.bk e),_=>some (.nx e)|some (.rt d),_=>some (.rt d)|none,_=>none
def QaJ(e:QD)(k:QF):Vp (some (.nx e)) k=k e:=rfl
def VP(g:Jk)(b:QF):List D->QF|[],e=>some (.nx e)|d::ds,e=>Vp ((g d e).bind b) (VP g b ds)
abbrev ZH:=QD->Option (List D)
def Qz(it:ZH)(g:Jk)(b:QF):QF:=λe=>(it e).bind λds=>VP g b ds e
noncomputable def rD(lo:Int)(n:Nat):List D:=(List.range n).map λi:Nat=>.int (lo+(i:Int))
noncomputable def WI:Nat->List D->List D|_,[]=>[]|n,d::ds=>.tup [.int n,d]::WI (n+1) ds
def D.rng:D->Option (List D)|.int n=>if n.natAbs<4611686018427387904 then some (rD 0 n.toNat)else none|_=>none
noncomputable def D.its:D->Option (List D)|.lst xs=>some xs|.scr ns=>some (ns.map .int)|_=>none
noncomputable def D.itsT:D->Option (List D)|.tup xs=>some xs|_=>none
def ZM(a:Q8):ZH:=λe=>(a e).bind λd=>D.rng d
def Ql(a:Q8):ZH:=λe=>(a e).bind λd=>D.its d
def Xj(a:Q8):ZH:=λe=>(a e).bind λd=>(D.its d).map λds=>WI 0 ds
noncomputable def Ub:Option Fl->Option D|some (.rt d)=>some d|some (.nx _)=>some .non|_=>none
def SV(d:D):Ub (some (.rt d))=some d:=rfl
def SU(e:QD):Ub (some (.nx e))=some .non:=rfl
def SS{c:Prop}[Decidable c](a b:Option Fl):Ub (if c then a else b)=if c then Ub a else Ub b:=by split<;>rfl
def S9{α β:Type}{c:Prop}[Decidable c](a b:Option α)(f:α->Option β):(if c then a else b).bind f=if c then a.bind f else b.bind f:=by split<;>rfl
def Sv{α β:Type}{c:Prop}[Decidable c](a b:Option α)(f:α->β):(if c then a else b).map f=if c then a.map f else b.map f:=by split<;>rfl
noncomputable def sD(n:Nat)(ds:List D):QD:=ds.map some++List.replicate (n-ds.length) none
def Qj(n k:Nat)(b:QF)(ds:List D):Option D:=if ds.length=k then Ub (b (sD n ds))else none
noncomputable def XA(g:Jk)(c el:Q8):List D->QD->Option (List D)|[],_=>some []|d::ds,e=>(g d e).bind λe1=>YT (c e1) ((el e1).bind λx=>(XA g c el ds e1).map λr=>x::r) (XA g c el ds e1)
noncomputable def Xa(n:Nat)(caps:List Nat)(e:QD):QD:=List.replicate n none++caps.map λi=>(e[i]?).join
def JB(n:Nat)(caps:List Nat)(it:ZH)(g:Jk)(c el:Q8):Q8:=λe=>(it e).bind λds=>if ds.length<=lI then(XA g c el ds (Xa n caps e)).map .lst else none
def V8(x:Str)(lo hi:Option Int):Str:=⟨(Zc x.cps.toList lo hi).toArray⟩
noncomputable def YC(x:Str)(n:Int):Str:=⟨(List.replicate n.toNat x.cps.toList).flatten.toArray⟩
def Vb(x:D)(lo hi:Option Int):Option D:=match x with|.str z=>if z.length<=lI then some (.str (V8 z lo hi))else none|d=>D.cut d lo hi
def ZK(a:Q8)(lo hi:T5):Q8:=λe=>(a e).bind λx=>(lo e).bind λl=>(hi e).bind λh=>Vb x l h
noncomputable def D.strip:D->Option D|.str x=>if x.length<=lI then some (.str (Txt.strip x))else none|_=>none
def D.mulA:D->D->Option D|.int i,.int j=>D.mul (.int i) (.int j)|.str x,.int n=>if-1073741824<n/\n<1073741824/\x.length*n.toNat<=lI then some (.str (YC x n))else none|.lst xs,.int n=>if-1073741824<n/\n<1073741824/\xs.length*n.toNat<=lI then some (.lst (List.replicate n.toNat xs).flatten)else none|_,_=>none
noncomputable def Y9:D->Bool|.non|.bl _|.int _|.str _=>true|_=>false
def inD(x:D):List D->Bool|[]=>false|y::ys=>D.eq y x==some true||inD x ys
def D.inO(x y:D):Option D:=match y with|.tup ys=>if Y9 x=true/\ys.all Y9=true then some (.bl (inD x ys))else none|.lst ys=>if Y9 x=true/\ys.all Y9=true then some (.bl (inD x ys))else none|_=>none
def D.notInO(x y:D):Option D:=match y with|.tup ys=>if Y9 x=true/\ys.all Y9=true then some (.bl (!inD x ys))else none|.lst ys=>if Y9 x=true/\ys.all Y9=true then some (.bl (!inD x ys))else none|_=>none
noncomputable def D.listOf:D->Option D|.lst xs=>some (.lst xs)|.tup xs=>some (.lst xs)|.scr ns=>some (.lst (ns.map .int))|_=>none
noncomputable def Jp:Int->List Int->Int|m,[]=>m|m,n::ns=>Jp (if n>m then n else m) ns
theorem O7:∀(ns:List Int)(m:Int),(Jp m ns=m\/Jp m ns∈ns)/\m<=Jp m ns/\∀a∈ns,a<=Jp m ns
 |[],m=>⟨.inl rfl,JW _,λ_ h=>by cases h⟩|n::ns,m=>by
  obtain⟨h1,h2,h3⟩:=O7 ns (if n>m then n else m);show(Jp (if n>m then n else m) ns=m\/_)/\_;refine⟨?_,?_,λa ha=>?_⟩
  ·rcases h1 with h|h
   ·by_cases z:n>m;·right;show Jp (if n>m then n else m) ns∈n::ns;rw[h,if_pos z];exact JN
    ·left;rw[h,if_neg z]
   ·right;exact JH _ h
  ·show m<=Jp (if n>m then n else m) ns;refine ZW ?_ h2;split<;>omega
  ·show a<=Jp (if n>m then n else m) ns;rcases q_5.mp ha with z|z
   ·subst z;refine ZW ?_ h2;split<;>omega
   ·exact h3 a z
def D.maxL:D->Option D
 |.lst xs=>match intsOf xs with
  |some (m::ns)=>some (.int (Jp m ns))|_=>none
 |_=>none
def D.sumL:D->Option D|.lst xs=>(intsOf xs).map λns=>.int ns.sum|_=>none
noncomputable def U5:List D->Option (List Bool)|[]=>some []|.bl b::r=>(U5 r).map (b::·)|_=>none
def D.anyL:D->Option D|.lst xs=>(U5 xs).map λbs=>.bl (bs.any id)|_=>none
def X3:QF:=λ_=>none
def Xq(i j:Int):D.mulA (.int i) (.int j)=D.mul (.int i) (.int j):=rfl
noncomputable def Xk:D->Option Kd|.str x=>some (.inr x)|.int i=>some (.inl i)|_=>none
noncomputable def hasK(k:Kd)(ks:List Kd):Bool:=ks.any λc=>decide (c=k)
noncomputable def XC:List Kd->List D->Kd->Option D|c::ks,d::ds,k=>if c=k then some d else XC ks ds k|_,_,_=>none
noncomputable def NJ:List Kd->List D->Kd->D->List D|c::ks,d::ds,k,v=>(if c=k then v else d)::NJ ks ds k v|_,_,_,_=>[]
def D.dget:D->D->Option D|.dic ks ds,y=>(Xk y).bind λk=>XC ks ds k|_,_=>none
def D.dIn(y d:D):Option D:=match d with|.dic ks _=>(Xk y).map λk=>.bl (hasK k ks)|_=>none
def D.dNotIn(y d:D):Option D:=match d with|.dic ks _=>(Xk y).map λk=>.bl (!hasK k ks)|_=>none
def Wj(ks:List Kd)(ds:List D)(k:Kd)(v:D):D:=if hasK k ks=true then .dic ks (NJ ks ds k v)else .dic (ks++[k]) (ds++[v])
def D.put(x y v:D):Option D:=match x with|.dic ks ds=>(Xk y).bind λk=>if ks.length<lI then some (Wj ks ds k v)else none|_=>none
def WZ(i:Nat)(key val:Q8):QF:=λe=>(val e).bind λv=>(eV i e).bind λx=>(key e).bind λy=>(D.put x y v).map λz=>.nx (e.set i (some z))
def Xc(n k:Nat)(b:QF)(ds:List D):Option D:=if ds.length=k then match b (sD n ds)with|some (.nx e)=>(e[k-1]?).join|_=>none else none
noncomputable def XS(i:Nat)(f:List D->Option D)(l:Z4):QF:=λe=>(l e).bind λds=>(eV i e).bind λd=>(f (ds++[d])).map λz=>.nx (e.set i (some z))
noncomputable def V5:List D->List D->List D|a::as,b::bs=>.tup [a,b]::V5 as bs|_,_=>[]
def WN(a b:Q8):ZH:=λe=>(a e).bind λx=>(b e).bind λy=>(D.its x).bind λxs=>(D.its y).map λys=>V5 xs ys
def X7(c:Q8)(b:QF):Nat->QF|0,_=>none|n+1,e=>YT (c e) (Vp (b e) (X7 c b n)) (some (.nx e))
def A9(c:Q8)(b:QF):QF:=X7 c b 100000
def Qj5{o:Option Fl}{k k':QF}{r:Fl}(h:∀e r,k e=some r->k' e=some r)(q:Vp o k=some r):Vp o k'=some r:=by cases o with|none=>cases q|some f=>cases f with|nx e=>exact h e r q|ct e=>exact h e r q|bk e=>exact q|rt d=>exact q
theorem QaT(c:Q8)(b:QF):∀(n m:Nat),n<=m->∀e r,X7 c b n e=some r->X7 c b m e=some r
 |0,_,_,e,r,h=>by cases h|n+1,0,hm,_,_,_=>by omega|n+1,m+1,hm,e,r,h=>by
  have h':YT (c e) (Vp (b e) (X7 c b n)) (some (.nx e))=some r:=h;show YT (c e) (Vp (b e) (X7 c b m)) (some (.nx e))=some r;cases q:c e with
  |none=>rw[q]at h';cases h'|some d=>cases d with
   |bl k=>
    rw[q]at h';cases k with|true=>exact Qj5 (QaT c b n m (by omega)) h'|false=>exact h'
   |_=>rw[q]at h';cases h'
noncomputable def kD:Sum Int Str->D|.inl i=>.int i|.inr x=>.str x
def HB(ev:Q8):ZH:=λe=>(ev e).bind λd=>match d with|.dic ks _=>some (ks.map kD)|_=>none
end Wd
namespace Wd
open PySem PySem.Spec PyProof.Rows L2
abbrev Fg:=W.Frag
def Sm(F H:Hp):Prop:=∀a o,F a=some o->H a=some o
def Sm.refl(F:Hp):Sm F F:=λ_ _ h=>h
def Sm.trans{F G H:Hp}(a:Sm F G)(b:Sm G H):Sm F H:=λx o h=>b x o (a x o h)
theorem Sm.none{F H:Hp}(s:Sm F H){a:Addr}(h:H a=none):F a=none:=by cases e:F a with|none=>rfl|some o=>rw[s a o e]at h;cases h
theorem Sm.upd{F H:Hp}(s:Sm F H){p:Addr}(o:HO)(h:F p=Option.none):Sm F (L2.upd H p o):=λa x e=>by
 have:a≠p:=λz=>by rw[z,h]at e;cases e
 rw[Qn this];exact s a x e
def Sm.upd2{F H:Hp}(s:Sm F H)(p:Addr)(o:HO):Sm (L2.upd F p o) (L2.upd H p o):=λa x e=>by
 by_cases z:a=p;·subst z;rw[Jq]at e⊢;exact e
 ·rw[Qn z]at e⊢;exact s a x e
def Sm.sqL{K:Fg}{F H:Hp}(s:Sm F H){a:Addr}{xs:List V}(h:SqL K F a xs):SqL K H a xs:=by
 rcases h with(h|⟨o,h⟩)|h;·exact .inl (.inl (s _ _ h))
 ·exact .inl (.inr ⟨o,s _ _ h⟩)
 ·exact .inr h
mutual inductive Rep(K:Fg)(F:Hp):V->D->Prop where|non:Rep K F .non .non|bl(b:Bool):Rep K F (.bl b) (.bl b)|int(i:Int):Rep K F (.int i) (.int i)|str(x:Str):Rep K F (.str x) (.str x)|tup{a:Addr}{xs:List V}{ds:List D}(h:F a=some (.tup xs))(r:Reps K F xs ds):Rep K F (.ref a) (.tup ds)|lst{a:Addr}{xs:List V}{ds:List D}(h:F a=some (.lst xs))(r:Reps K F xs ds):Rep K F (.ref a) (.lst ds)|scr{a:Addr}{ns:List Int}(h:SqL K F a (ns.map V.int)):Rep K F (.ref a) (.scr ns)|dic{a:Addr}{o:Obj}{ks:List Kd}{xs:List V}{ds:List D}(h:F a=some (.frz o (.dK (ks.zip xs))))(hl:ks.length=xs.length)(r:Reps K F xs ds):Rep K F (.ref a) (.dic ks ds)inductive Reps(K:Fg)(F:Hp):List V->List D->Prop where|nil:Reps K F [] []|cons{x:V}{d:D}{xs:List V}{ds:List D}(h:Rep K F x d)(r:Reps K F xs ds):Reps K F (x::xs) (d::ds)end
theorem Rep.mono{K:Fg}{F F':Hp}(s:Sm F F'){v:V}{d:D}(r:Rep K F v d):Rep K F' v d:=Rep.rec (motive_1:=λv d _=>Rep K F' v d) (motive_2:=λv d _=>Reps K F' v d) .non .bl .int .str (λh _ i=>.tup (s _ _ h) i) (λh _ i=>.lst (s _ _ h) i) (λh=>.scr (s.sqL h)) (λh l _ i=>.dic (s _ _ h) l i) .nil (λ_ _ i j=>.cons i j) r
theorem Reps.mono{K:Fg}{F F':Hp}(s:Sm F F'){v:List V}{d:List D}(r:Reps K F v d):Reps K F' v d:=Reps.rec (motive_1:=λv d _=>Rep K F' v d) (motive_2:=λv d _=>Reps K F' v d) .non .bl .int .str (λh _ i=>.tup (s _ _ h) i) (λh _ i=>.lst (s _ _ h) i) (λh=>.scr (s.sqL h)) (λh l _ i=>.dic (s _ _ h) l i) .nil (λ_ _ i j=>.cons i j) r
section
variable{K:Fg}{F H:Hp}
theorem Reps.length:∀{vs:List V}{ds:List D},Reps K F vs ds->vs.length=ds.length|_,_,.nil=>rfl|_,_,.cons _ r=>by rw[JM,JM,r.length]
theorem Reps.get:∀{vs:List V}{ds:List D}{i:Nat}{d:D},Reps K F vs ds->ds[i]?=some d->∃v,vs[i]?=some v/\Rep K F v d|_,_,_,_,.nil,e=>by simp at e|_,_,0,_,.cons h _,e=>by simp at e;subst e;exact⟨_,rfl,h⟩|_,_,i+1,d,.cons _ r,e=>by obtain⟨v,h1,h2⟩:=Reps.get (i:=i) (d:=d) r (by simpa using e);exact⟨v,by simpa using h1,h2⟩
theorem Reps.getV:∀{vs:List V}{ds:List D}{i:Nat}{v:V},Reps K F vs ds->vs[i]?=some v->∃d,ds[i]?=some d/\Rep K F v d|_,_,_,_,.nil,e=>by simp at e|_,_,0,_,.cons h _,e=>by simp at e;subst e;exact⟨_,rfl,h⟩|_,_,i+1,v,.cons _ r,e=>by obtain⟨d,h1,h2⟩:=Reps.getV (i:=i) (v:=v) r (by simpa using e);exact⟨d,by simpa using h1,h2⟩
theorem Reps.append:∀{vs ws:List V}{ds es:List D},Reps K F vs ds->Reps K F ws es->Reps K F (vs++ws) (ds++es)|_,_,_,_,.nil,s=>s|_,_,_,_,.cons h r,s=>.cons h (Reps.append r s)
theorem Reps.drop:∀{vs:List V}{ds:List D}(n:Nat),Reps K F vs ds->Reps K F (vs.drop n) (ds.drop n)|_,_,0,r=>r|_,_,_+1,.nil=>.nil|_,_,n+1,.cons _ r=>Reps.drop n r
theorem Reps.take:∀{vs:List V}{ds:List D}(n:Nat),Reps K F vs ds->Reps K F (vs.take n) (ds.take n)|_,_,0,_=>.nil|_,_,_+1,.nil=>.nil|_,_,n+1,.cons h r=>.cons h (Reps.take n r)
theorem Reps.ints:∀(ns:List Int),Reps K F (ns.map V.int) (ns.map D.int)|[]=>.nil|n::ns=>.cons (.int n) (Reps.ints ns)
theorem Reps.intsOf:∀{vs:List V}{ds:List D}{ns:List Int},Reps K F vs ds->Wd.intsOf ds=some ns->vs=ns.map V.int|_,_,ns,.nil,e=>by cases e;rfl|_,_,ns,.cons (d:=d) h r,e=>by cases h with
  |int i=>
   simp only[Wd.intsOf]at e;cases q:Wd.intsOf _ with
   |none=>rw[q]at e;cases e|some ms=>
    rw[q]at e;cases e;rw[Reps.intsOf r q];rfl
  |_=>simp[Wd.intsOf]at e
end
noncomputable def ho:Option (List Kd)->List V->HO|none,xs=>.lst xs|some ks,xs=>.dK (ks.zip xs)
noncomputable def Zm:Option (List Kd)->List D->D|none,ds=>.lst ds|some ks,ds=>.dic ks ds
noncomputable def Vs:Option (List Kd)->List V->Prop|none,_=>True|some ks,xs=>ks.length=xs.length
noncomputable def hz(o:Obj):Option (List Kd)->List V->HO|none,xs=>.lst xs|some ks,xs=>.frz o (.dK (ks.zip xs))
theorem Rep.hz{K:Fg}{F:Hp}{p:Addr}{o:Obj}:∀{k:Option (List Kd)}{xs:List V}{ds:List D},F p=some (hz o k xs)->Vs k xs->Reps K F xs ds->Rep K F (.ref p) (Zm k ds)|none,_,_,h,_,r=>.lst h r|some _,_,_,h,hl,r=>.dic h hl r
def RdD(K:Fg)(F H:Hp)(v:V)(d:D):Prop:=Rep K F v d\/∃p k xs ds,v=.ref p/\H p=some (ho k xs)/\Reps K F xs ds/\d=Zm k ds/\Vs k xs
structure Gr(F H F' H':Hp):Prop where
 ff:Sm F F'
 hh:Sm H H'
 fh:Sm F' H'
 fr:∀a o,F' a=some o->F a=some o\/H a=none
theorem Gr.refl{F H:Hp}(s:Sm F H):Gr F H F H:=⟨.refl _,.refl _,s,λ_ _ h=>.inl h⟩
theorem Gr.trans{F H F1 H1 F2 H2:Hp}(a:Gr F H F1 H1)(b:Gr F1 H1 F2 H2):Gr F H F2 H2:=⟨a.ff.trans b.ff,a.hh.trans b.hh,b.fh,λx o h=>by
  rcases b.fr x o h with h|h;·exact a.fr x o h
  ·exact .inr (a.hh.none h)⟩
def Gr.new{F H:Hp}(s:Sm F H){p:Addr}(h:H p=none)(o:HO):Gr F H (upd F p o) (upd H p o):=⟨(Sm.refl F).upd o (s.none h),(Sm.refl H).upd o h,s.upd2 p o,λa x e=>by
  by_cases z:a=p;·subst z;exact .inr h
  ·rw[Qn z]at e;exact .inl e⟩
def Gr.newO{F H:Hp}(s:Sm F H){p:Addr}(h:H p=none)(o:HO):Gr F H F (upd H p o):=⟨.refl F,(Sm.refl H).upd o h,s.upd o (s.none h),λ_ _ e=>.inl e⟩
def RdD.gr{K:Fg}{F H F' H':Hp}{v:V}{d:D}(g:Gr F H F' H')(r:RdD K F H v d):RdD K F' H' v d:=by
 rcases r with r|⟨p,k,xs,ds,rfl,h,r,rfl,hk⟩;·exact .inl (r.mono g.ff)
 ·exact .inr ⟨p,k,xs,ds,rfl,g.hh _ _ h,r.mono g.ff,rfl,hk⟩
structure Fz where
 f:Hp
 h:Hp
 p:Option Addr
def Qh(i:Nat):Nat:=1000+i
structure RS(K:Fg)(H₀:Hp)(F0:Fz)(F H:Hp)(σ:L2.St)(e:QD)(O:List Nat):Prop where
 fh:Sm F H
 hh:Sm F0.h H
 ff:Sm F0.f F
 fr:∀a o,F a=some o->F0.f a=some o\/F0.h a=none
 slot:∀i d,e[i]?=some (some d)->i∉O->∃v,σ[i]?=some (some v)/\Rep K F v d
 own:∀i d,e[i]?=some (some d)->i∈O->∃p k xs ds,σ[i]?=some (some (.ref p))/\F0.h p=none/\F p=none/\H p=some (ho k xs)/\Reps K F xs ds/\d=Zm k ds/\Vs k xs
 dis:∀i j p d d',i∈O->j∈O->e[i]?=some (some d)->e[j]?=some (some d')->σ[i]?=some (some (.ref p))->σ[j]?=some (some (.ref p))->i=j
 pin:∀i,Qh i∈O->∃p,F0.p=some p/\σ[i]?=some (some (.ref p))len:σ.length=e.length
def RS.grow{K:Fg}{H₀:Hp}{F0:Fz}{F H F' H':Hp}{σ:L2.St}{e:QD}{O:List Nat}(r:RS K H₀ F0 F H σ e O)(g:Gr F H F' H'):RS K H₀ F0 F' H' σ e O where
 fh:=g.fh
 hh:=r.hh.trans g.hh
 ff:=r.ff.trans g.ff
 fr:=λa o h=>by
  rcases g.fr a o h with h|h;·exact r.fr a o h
  ·exact .inr (r.hh.none h)
 slot:=λi d h hi=>by obtain⟨v,h1,h2⟩:=r.slot i d h hi;exact⟨v,h1,h2.mono g.ff⟩
 own:=λi d h hi=>by
  obtain⟨p,k,xs,ds,h1,h2,h3,h4,h5,h6⟩:=r.own i d h hi;refine⟨p,k,xs,ds,h1,h2,?_,g.hh _ _ h4,h5.mono g.ff,h6⟩;cases q:F' p with|none=>rfl|some o=>
   rcases g.fr p o q with z|z;·rw[h3]at z;cases z
   ·rw[h4]at z;cases z
 dis:=r.dis
 pin:=r.pin
 len:=r.len
section
variable(X:Cx)(O:List Nat)
noncomputable def tD(ev:Q8):TE:=λσ H Q=>∃F0 F e d,RS X.K X.H₀ F0 F H σ e O/\ev e=some d/\∀v F' H',Gr F H F' H'->Rep X.K F' v d->Q v H'
def tR(ev:Q8):TE:=λσ H Q=>∃F0 F e d,RS X.K X.H₀ F0 F H σ e O/\ev e=some d/\∀v F' H',Gr F H F' H'->RdD X.K F' H' v d->Q v H'
def tO(ev:Q8):TE:=λσ H Q=>∃F0 F e d,RS X.K X.H₀ F0 F H σ e O/\ev e=some d/\∀p k xs ds F' H',Gr F H F' H'->H p=none->F' p=none->H' p=some (ho k xs)->Reps X.K F' xs ds->d=Zm k ds->Vs k xs->Q (.ref p) H'
def tDT(ev:Q8):TT:=λσ H Q=>∃F0 F e b,RS X.K X.H₀ F0 F H σ e O/\ev e=some (.bl b)/\∀F' H',Gr F H F' H'->Q b H'
def tL(l:Z4):TA:=λσ H Q=>∃F0 F e ds,RS X.K X.H₀ F0 F H σ e O/\l e=some ds/\∀vs F' H',Gr F H F' H'->Reps X.K F' vs ds->Q vs H'
def L5(l:T5):TO:=λσ H Q=>∃F0 F e o,RS X.K X.H₀ F0 F H σ e O/\l e=some o/\∀F' H',Gr F H F' H'->Q o H'
end
section
variable{X:Cx}{O:List Nat}{e a b c:Expr}{pos:Pos}
def PE.imp{t t':TE}(h:PE X e t)(q:∀σ H Q,t' σ H Q->t σ H Q):PE X e t':=λaa s σ H Q I z=>h aa s σ H Q I (q σ H Q z)
def PT.imp{t t':TT}(h:PT X e t)(q:∀σ H Q,t' σ H Q->t σ H Q):PT X e t':=λaa s σ H Q I z=>h aa s σ H Q I (q σ H Q z)
def PW.imp{t t':TT}(h:PW X e t)(q:∀σ H Q,t' σ H Q->t σ H Q):PW X e t':=λw aa s σ H Q I z=>h w aa s σ H Q I (q σ H Q z)
def PA.imp{es:List Expr}{t t':TA}(h:PA X es t)(q:∀σ H Q,t' σ H Q->t σ H Q):PA X es t':=λp aa s σ H Q I z=>h p aa s σ H Q I (q σ H Q z)
def PS.imp{st:Stmt}{t t':TS}(h:PS X st t)(q:∀D σ H,t' D σ H->t D σ H):PS X st t':=λaa s σ H D I z=>h aa s σ H D I (q D σ H z)
def PSs.imp{st:List Stmt}{t t':TS}(h:PSs X st t)(q:∀D σ H,t' D σ H->t D σ H):PSs X st t':=λaa s σ H D I z=>h aa s σ H D I (q D σ H z)
def dr{ev:Q8}(h:PE X e (tD X O ev)):PE X e (tR X O ev):=PE.imp h λσ H Q⟨F0,F,en,d,r,w,k⟩=>⟨F0,F,en,d,r,w,λv F' H' g q=>k v F' H' g (.inl q)⟩
def dC{v:V}{d:D}(hr:∀K F,Rep K F v d)(h:PE X e (tC v)):PE X e (tD X O (eC d)):=PE.imp h λσ H Q⟨F0,F,en,d',r,w,k⟩=>by cases w;exact k v F H (.refl r.fh) (hr _ _)
def WC{b:Bool}{j}:PE X (.Constant (.bool b) j pos) (tD X O (eC (.bl b))):=dC (λ_ _=>.bl b) QhV
def J3{i:Int}{j}:PE X (.Constant (.int i) j pos) (tD X O (eC (.int i))):=dC (λ_ _=>.int i) R8
def QI{x:Str}{j}:PE X (.Constant (.str x) j pos) (tD X O (eC (.str x))):=dC (λ_ _=>.str x) Bc
def JP{x:Str}{i:Int}(hm:∃t,X.mg x=some (.int i t))(hg:Gl X x)(hd:(x==("__debug__":Str))=false:=by decide):PE X (.Name x pos) (tD X O (eC (.int i))):=by obtain⟨t,hm⟩:=hm;exact dC (λ_ _=>.int i) (Qh3 hg hm (show RelV (.int i) _ from⟨t,rfl⟩) hd)
def VB{i:Nat}{en:QD}{d:D}(h:eV i en=some d):en[i]?=some (some d):=by unfold eV at h;cases q:en[i]? with|none=>rw[q]at h;cases h|some o=>rw[q]at h;cases o with|none=>cases h|some x=>cases h;rfl
def Qe(i:Nat){x:Str}(hN:X.N[i]?=some x:=by rfl)(hv:Vu X.env.scope x:=by first|exact Or.inl rfl|exact Or.inr (Or.inl rfl)|exact Or.inr (Or.inr rfl))(hO:i∉O:=by decide)(hd:(x==("__debug__":Str))=false:=by decide)(ck:(x==("__classdict__":Str))=false:=by decide):PE X (.Name x pos) (tD X O (eV i)):=PE.imp (Zo hN hv hd ck) λσ H Q⟨F0,F,en,d,r,w,k⟩=>by obtain⟨v,h1,h2⟩:=r.slot i d (VB w) hO;exact⟨v,h1,k v F H (.refl r.fh) h2⟩
def Yt(i:Nat){x:Str}(hN:X.N[i]?=some x:=by rfl)(hv:Vu X.env.scope x:=by first|exact Or.inl rfl|exact Or.inr (Or.inl rfl)|exact Or.inr (Or.inr rfl))(hd:(x==("__debug__":Str))=false:=by decide)(ck:(x==("__classdict__":Str))=false:=by decide):PE X (.Name x pos) (tR X O (eV i)):=PE.imp (Zo hN hv hd ck) λσ H Q⟨F0,F,en,d,r,w,k⟩=>by
  by_cases hO:i∈O
  ·obtain⟨p,kk,xs,ds,h1,_,_,h4,h5,h6,h7⟩:=r.own i d (VB w) hO;exact⟨_,h1,k _ F H (.refl r.fh) (.inr ⟨p,kk,xs,ds,rfl,h4,h5,h6,h7⟩)⟩
  ·obtain⟨v,h1,h2⟩:=r.slot i d (VB w) hO;exact⟨v,h1,k v F H (.refl r.fh) (.inl h2)⟩
def Jz(X:Cx)(r:R2)(g:D->D->Option D):Prop:=∀(F H:Hp)(x y:V)(dx dy d:D)(Q:VK),Sm F H->RdD X.K F H x dx->RdD X.K F H y dy->g dx dy=some d->(∀v F' H',Gr F H F' H'->Rep X.K F' v d->Q v H')->r x y H Q
def U4{α β γ:Type}{a:Option α}{b:Option β}{g:α->β->Option γ}{d:γ}(h:(a.bind λx=>b.bind λy=>g x y)=some d):∃x y,a=some x/\b=some y/\g x y=some d:=by cases a with|none=>cases h|some x=>cases b with|none=>cases h|some y=>exact⟨x,y,rfl,rfl,h⟩
def J2{α β:Type}{a:Option α}{g:α->Option β}{d:β}(h:(a.bind λx=>g x)=some d):∃x,a=some x/\g x=some d:=by cases a with|none=>cases h|some x=>exact⟨x,rfl,h⟩
def Jy{α β:Type}{a:Option α}{g:α->β}{d:β}(h:a.map g=some d):∃x,a=some x/\g x=d:=by cases a with|none=>cases h|some x=>cases h;exact⟨x,rfl,rfl⟩
def M4{r:R2}{g:D->D->Option D}{ea eb:Q8}(ho:Jz X r g){σ:L2.St}{H:Hp}{Q:VK}(h:tD X O (Q4 g ea eb) σ H Q):X6 r (tR X O ea) (tR X O eb) σ H Q:=by obtain⟨F0,F,en,d,rs,w,k⟩:=h;obtain⟨dx,dy,e1,e2,e3⟩:=U4 w;refine⟨F0,F,en,dx,rs,e1,λx F1 H1 g1 r1=>?_⟩;refine⟨F0,F1,en,dy,rs.grow g1,e2,λy F2 H2 g2 r2=>?_⟩;exact ho F2 H2 x y dx dy d Q g2.fh (r1.gr g2) r2 e3 λv F' H' g3 r3=>k v F' H' ((g1.trans g2).trans g3) r3
def Q9{op:Operator}{r:R2}{g:D->D->Option D}{ea eb:Q8}(ho:OpR X (binaryOp op) r/\Jz X r g)(ha:PE X a (tR X O ea))(hb:PE X b (tR X O eb)):PE X (.BinOp a op b pos) (tD X O (Q4 g ea eb)):=PE.imp (Hn ho.1 ha hb) λσ H Q=>M4 ho.2
def YN{op:CmpOp}{r:R2}{g:D->D->Option D}{ea eb:Q8}(ho:OpR X (compareOp op) r/\Jz X r g)(ha:PE X a (tR X O ea))(hb:PE X b (tR X O eb))(hm:behindInMarks op b=false):PE X (.Compare a [op] [b] pos) (tD X O (Q4 g ea eb)):=PE.imp (QhZ ho.1 ha hb hm) λσ H Q=>M4 ho.2
def Qdy{ea eb:Q8}{r:R2}(ho:IxR X r/\Jz X r D.ix)(ha:PE X a (tR X O ea))(hb:PE X b (tR X O eb))(hs:Ln b:=by intro _ _;rfl):PE X (.Subscript a b pos) (tD X O (Q4 D.ix ea eb)):=PE.imp (Oe ho.1 ha hb hs) λσ H Q=>M4 ho.2
end
section
variable{K:Fg}{F H:Hp}{v:V}
theorem RdD.int{i:Int}(r:RdD K F H v (.int i)):v=.int i:=by
 rcases r with r|⟨_,k,_,_,_,_,_,z,_⟩;·cases r;rfl
 ·cases k<;>cases z
theorem RdD.bl{b:Bool}(r:RdD K F H v (.bl b)):v=.bl b:=by
 rcases r with r|⟨_,k,_,_,_,_,_,z,_⟩;·cases r;rfl
 ·cases k<;>cases z
theorem RdD.str{x:Str}(r:RdD K F H v (.str x)):v=.str x:=by
 rcases r with r|⟨_,k,_,_,_,_,_,z,_⟩;·cases r;rfl
 ·cases k<;>cases z
theorem RdD.non(r:RdD K F H v .non):v=.non:=by
 rcases r with r|⟨_,k,_,_,_,_,_,z,_⟩;·cases r;rfl
 ·cases k<;>cases z
theorem RdD.tup{ds:List D}(r:RdD K F H v (.tup ds)):∃p xs,v=.ref p/\F p=some (.tup xs)/\Reps K F xs ds:=by
 rcases r with r|⟨_,k,_,_,_,_,_,z,_⟩;·cases r with|tup h r=>exact⟨_,_,rfl,h,r⟩
 ·cases k<;>cases z
theorem RdD.lst{ds:List D}(s:Sm F H)(r:RdD K F H v (.lst ds)):∃p xs,v=.ref p/\H p=some (.lst xs)/\Reps K F xs ds:=by
 rcases r with r|⟨p,k,xs,bV,h1,h2,h3,z,_⟩;·cases r with|lst h r=>exact⟨_,_,rfl,s _ _ h,r⟩
 ·cases k with|none=>cases z;exact⟨p,xs,h1,h2,h3⟩|some ks=>cases z
theorem RdD.dic{ks:List Kd}{ds:List D}(s:Sm F H)(r:RdD K F H v (.dic ks ds)):∃p xs,v=.ref p/\Rd H p (.dK (ks.zip xs))/\ks.length=xs.length/\Reps K F xs ds:=by
 rcases r with r|⟨p,k,xs,bV,h1,h2,h3,z,h4⟩;·cases r with|dic h hl r=>exact⟨_,_,rfl,.inr ⟨_,s _ _ h⟩,hl,r⟩
 ·cases k with|none=>cases z|some cO=>cases z;exact⟨p,xs,h1,.inl h2,h4,h3⟩
theorem RdD.scr{ns:List Int}(r:RdD K F H v (.scr ns)):∃p,v=.ref p/\SqL K F p (ns.map V.int):=by
 rcases r with r|⟨_,k,_,_,_,_,_,z,_⟩;·cases r with|scr h=>exact⟨_,rfl,h⟩
 ·cases k<;>cases z
def RdD.rep{d:D}(s:Sm F H)(hd:∀ks ds,d≠.dic ks ds)(r:RdD K F H v d):Rep K H v d:=by
 rcases r with r|⟨p,k,xs,bV,rfl,h2,h3,rfl,h4⟩;·exact r.mono s
 ·cases k with|none=>exact .lst h2 (h3.mono s)|some ks=>exact absurd rfl (hd ks bV)
end
section
variable{X:Cx}
def VG:sizeLine=lI:=by decide
def QY:OpR X (binaryOp .Add) (λx y H Q=>((∃i j,x=.int i/\y=.int j/\Q (.int (i+j)) H)\/∃i j,x=.str i/\y=.str j/\i.length+j.length<=sizeLine/\Q (.str (i++j)) H)\/Hx x y H Q\/Hy X.K x y H Q)/\Jz X (λx y H Q=>((∃i j,x=.int i/\y=.int j/\Q (.int (i+j)) H)\/∃i j,x=.str i/\y=.str j/\i.length+j.length<=sizeLine/\Q (.str (i++j)) H)\/Hx x y H Q\/Hy X.K x y H Q) D.add:=by
 refine⟨OpR.or (OpR.or Qhu Hh) (OpR.or Qhv Qhw),λF H x y dx dy d Q s rx ry e k=>? _⟩;cases dx<;>cases dy<;>try(simp[D.add]at e;done)
 case int.int i j=>
  cases e;exact .inl (.inl ⟨i,j,rx.int,ry.int,k _ F H (.refl s) (.int _)⟩)
 case str.str i j=>
  simp only[D.add]at e;split at e
  ·rename_i hz;cases e;exact .inl (.inr ⟨i,j,rx.str,ry.str,by rw[VG];exact hz,k _ F H (.refl s) (.str _)⟩)
  ·cases e
 case lst.lst xs ys=>
  simp only[D.add]at e;split at e
  ·rename_i hz;cases e;obtain⟨p,us,rfl,h1,r1⟩:=rx.lst s;obtain⟨q,ws,rfl,h2,r2⟩:=ry.lst s;refine .inr (.inl ⟨p,q,us,ws,rfl,rfl,h1,h2,by rw[VG,r1.length,r2.length];exact hz,λl hl=>? _⟩);have g:=Gr.new s hl (.lst (us++ws));exact k _ _ _ g (.lst Jq ((r1.append r2).mono g.ff))
  ·cases e
 case tup.tup xs ys=>cases xs with
  |nil=>simp[D.add]at e|cons z xs=>
   simp only[D.add]at e;split at e
   ·rename_i hz;cases e;obtain⟨p,us,rfl,h1,r1⟩:=rx.tup;obtain⟨q,ws,rfl,h2,r2⟩:=ry.tup;have hu:us≠[]:=λz=>by subst z;cases r1
    refine .inr (.inr ⟨p,q,us,ws,rfl,rfl,SqT.of (s _ _ h1),SqT.of (s _ _ h2),hu,? _,λz=>? _,λ_ l hl=>? _⟩);·rw[VG,r1.length,r2.length];exact hz
    ·subst z;cases r2;refine k _ F H (.refl s) ? _;rw[Zp];exact .tup h1 r1
    ·have g:=Gr.new s hl (.tup (us++ws));exact k _ _ _ g (.tup Jq ((r1.append r2).mono g.ff))
   ·cases e
def Nm{g:D->D->Option D}(h:∀dx dy d,g dx dy=some d->∃i j,dx=.int i/\dy=.int j){C:Int->Int->Prop}{f:Int->Int->V}{fd:Int->Int->D}(hg:∀i j d,g (.int i) (.int j)=some d->C i j/\d=fd i j)(hf:∀K F i j,Rep K F (f i j) (fd i j)):Jz X (rI C f) g:=λF H x y dx dy d Q s rx ry e k=>by obtain⟨i,j,rfl,rfl⟩:=h dx dy d e;obtain⟨c,rfl⟩:=hg i j d e;exact⟨i,j,rx.int,ry.int,c,k _ F H (.refl s) (hf _ _ i j)⟩
def Nn{g:D->D->Option D}(h:∀dx dy d,g dx dy=some d->∃i j,dx=.int i/\dy=.int j){f:Int->Int->V}{fd:Int->Int->D}(hg:∀i j d,g (.int i) (.int j)=some d->d=fd i j)(hf:∀K F i j,Rep K F (f i j) (fd i j)):Jz X (YK f) g:=λF H x y dx dy d Q s rx ry e k=>by obtain⟨i,j,rfl,rfl⟩:=h dx dy d e;cases hg i j d e;exact⟨i,j,rx.int,ry.int,k _ F H (.refl s) (hf _ _ i j)⟩
def VU:OpR X (binaryOp .Sub) (YK λi j=>.int (i-j))/\Jz X (YK λi j=>.int (i-j)) D.sub:=⟨QhK,Nn (fd:=λi j=>.int (i-j)) (λdx dy d e=>by cases dx<;>cases dy<;>simp[D.sub]at e⊢) (λi j d e=>by cases e;rfl) λ_ _ _ _=>.int _⟩
def QhF:OpR X (binaryOp .Mult) (rI CMul λi j=>.int (i*j))/\Jz X (rI CMul λi j=>.int (i*j)) D.mul:=⟨BU,Nm (fd:=λi j=>.int (i*j)) (λdx dy d e=>by cases dx<;>cases dy<;>simp[D.mul]at e⊢) (λi j d e=>by
  simp only[D.mul]at e;split at e;·rename_i h;cases e;exact⟨h,rfl⟩
  ·cases e) λ_ _ _ _=>.int _⟩
def Ji:OpR X (binaryOp .Mod) (rI (λ_ j=>0<j) λi j=>.int (i%j))/\Jz X (rI (λ_ j=>0<j) λi j=>.int (i%j)) D.mod:=⟨QhE,Nm (fd:=λi j=>.int (i%j)) (λdx dy d e=>by cases dx<;>cases dy<;>simp[D.mod]at e⊢) (λi j d e=>by
  simp only[D.mod]at e;split at e;·rename_i h;cases e;exact⟨h,rfl⟩
  ·cases e) λ_ _ _ _=>.int _⟩
def Yl:OpR X (binaryOp .FloorDiv) (rI LH λi j=>.int (i/j))/\Jz X (rI LH λi j=>.int (i/j)) D.fdiv:=⟨Qhx,Nm (fd:=λi j=>.int (i/j)) (λdx dy d e=>by cases dx<;>cases dy<;>simp[D.fdiv]at e⊢) (λi j d e=>by
  simp only[D.fdiv]at e;split at e;·rename_i h;cases e;exact⟨h,rfl⟩
  ·cases e) λ_ _ _ _=>.int _⟩
def BX:OpR X (binaryOp .Pow) (rI LI λi j=>.int (i^j.toNat))/\Jz X (rI LI λi j=>.int (i^j.toNat)) D.pow:=⟨QhI,Nm (fd:=λi j=>.int (i^j.toNat)) (λdx dy d e=>by cases dx<;>cases dy<;>simp[D.pow]at e⊢) (λi j d e=>by
  simp only[D.pow]at e;split at e;·rename_i h;cases e;exact⟨h,rfl⟩
  ·cases e) λ_ _ _ _=>.int _⟩
def Hi:OpR X (compareOp .Lt) (YK λi j=>.bl (decide (i<j)))/\Jz X (YK λi j=>.bl (decide (i<j))) D.lt:=⟨QhD,Nn (fd:=λi j=>.bl (decide (i<j))) (λdx dy d e=>by cases dx<;>cases dy<;>simp[D.lt]at e⊢) (λi j d e=>by cases e;rfl) λ_ _ _ _=>.bl _⟩
def Xr:OpR X (compareOp .Gt) (YK λi j=>.bl (decide (j<i)))/\Jz X (YK λi j=>.bl (decide (j<i))) D.gt:=⟨Qhy,Nn (fd:=λi j=>.bl (decide (j<i))) (λdx dy d e=>by cases dx<;>cases dy<;>simp[D.gt]at e⊢) (λi j d e=>by cases e;rfl) λ_ _ _ _=>.bl _⟩
def K3{xs:List V}{ds:List D}{F:Hp}{i:Int}{d:D}(r:Reps X.K F xs ds)(e:((Jh ds.length i).bind λk=>ds[k]?)=some d):∃v,XY xs i=some v/\Rep X.K F v d:=by obtain⟨k,e1,e2⟩:=J2 e;obtain⟨v,h1,h2⟩:=r.get e2;refine⟨v,?_,h2⟩;unfold XY;rw[r.length,show UL ds.length i=some k from e1];exact h1
def Qht:Jz X (UR X.K) D.ix:=λF H x y dx dy d Q s rx ry e k=>by
 cases dx<;>cases dy<;>try(simp[D.ix]at e;done)
 case str.int z i=>
  simp only[D.ix]at e;split at e
  ·rename_i hz;obtain⟨j,e1,e2⟩:=J2 e;obtain⟨c,e3,rfl⟩:=Jy e2;refine .inr (.inr ⟨z,i,c,rx.str,ry.int,by rw[VG];exact hz,?_,k _ F H (.refl s) (.str _)⟩);unfold XY;have hl:z.cps.toList.length=z.length:=by simp[Str.length]
   rw[hl,show UL z.length i=some j from e1];simpa using e3
  ·cases e
 case tup.int ds i=>
  obtain⟨p,xs,rfl,h,r⟩:=rx.tup;obtain⟨v,h1,h2⟩:=K3 r e;exact .inr (.inl ⟨p,xs,i,v,rfl,ry.int,SqT.of (s _ _ h),h1,k _ F H (.refl s) h2⟩)
 case lst.int ds i=>
  obtain⟨p,xs,rfl,h,r⟩:=rx.lst s;obtain⟨v,h1,h2⟩:=K3 r e;exact .inl ⟨p,xs,i,v,rfl,ry.int,SqL.of h,h1,k _ F H (.refl s) h2⟩
 case scr.int ns i=>
  obtain⟨p,rfl,h⟩:=rx.scr;have r:Reps X.K F (ns.map V.int) (ns.map D.int):=Reps.ints ns;have e':((Jh (ns.map D.int).length i).bind λk=>(ns.map D.int)[k]?)=some d:=by
   rw[Qm];simp only[D.ix]at e;simpa using e
  obtain⟨v,h1,h2⟩:=K3 r e';exact .inl ⟨p,_,i,v,rfl,ry.int,s.sqL h,h1,k _ F H (.refl s) h2⟩
def QhA:IxR X (UR X.K)/\Jz X (UR X.K) D.ix:=⟨Pw,Qht⟩
def QU{O:List Nat}{a b:Expr}{pos:Pos}{ea eb:Q8}(ha:PE X a (tR X O ea))(hb:PE X b (tR X O eb))(hs:Ln b:=by intro _ _;rfl):PE X (.Subscript a b pos) (tD X O (Q4 D.ix ea eb)):=Qdy QhA ha hb hs
end
def WH(ds es:List D)(j:Nat):Bool:=match ds[j]?,es[j]? with|some d,some e=>(D.eq d e).getD false|_,_=>false
def QdR(d e:D)(ds es:List D)(j:Nat):WH (d::ds) (e::es) (j+1)=WH ds es j:=by simp[WH]
theorem NR:∀(ds es:List D)(b:Bool),D.eqL ds es=some b->(∀(j:Nat)(d e:D),ds[j]?=some d->es[j]?=some e->∃c,D.eq d e=some c)/\b=((List.range (min ds.length es.length)).all (WH ds es)&&ds.length==es.length)
 |[],[],b,h=>by
  rw[D.eqL]at h;cases h;exact⟨λj d e h=>by simp at h,by simp⟩|[],e::es,b,h=>by
  rw[D.eqL]at h;·cases h;exact⟨λj d e h=>by simp at h,by simp⟩
  all_goals simp|d::ds,[],b,h=>by
  rw[D.eqL]at h;·cases h;exact⟨λj d e _ h=>by simp at h,by simp⟩
  all_goals simp|d::ds,e::es,b,h=>by
  rw[D.eqL]at h;cases q1:D.eq d e with
  |none=>rw[q1]at h;cases h|some b1=>cases q2:D.eqL ds es with
   |none=>rw[q1,q2]at h;cases h|some b2=>
    rw[q1,q2,U2]at h;cases h;obtain⟨i1,i2⟩:=NR ds es b2 q2;refine⟨λj d' e' h1 h2=>?_,?_⟩;·cases j with
     |zero=>simp at h1 h2;subst h1 h2;exact⟨b1,q1⟩|succ j=>exact i1 j d' e' (by simpa using h1) (by simpa using h2)
    ·have hm:min (d::ds).length (e::es).length=min ds.length es.length+1:=by simp only[JM];omega
     rw[hm,List.range_succ_eq_map,all_cons,List.all_map];have h0:WH (d::ds) (e::es) 0=b1:=by simp[WH,q1]
     have hf:(WH (d::ds) (e::es)∘Nat.succ)=WH ds es:=funext λj=>QdR d e ds es j;rw[h0,hf,i2];simp[Bool.and_assoc]
theorem eqs_same{K:Fg}{H:Hp}{xs:List V}{ds es:List D}{b:Bool}(r1:Reps K H xs ds)(r2:Reps K H xs es)(h:D.eqL ds es=some b):b=true:=by
 refine Reps.rec (motive_1:=λx d _=>∀(e:D)(b:Bool),Rep K H x e->D.eq d e=some b->b=true) (motive_2:=λxs ds _=>∀(es:List D)(b:Bool),Reps K H xs es->D.eqL ds es=some b->b=true) ?_ ?_ ?_ ?_ ?_ ?_ ?_ ?_ ?_ ?_ r1 es b r2 h
 ·intro e b r h;cases r;rw[D.eq]at h;cases h;rfl
 ·intro c e b r h;cases r;rw[D.eq]at h;cases h;exact beq_self_eq_true c
 ·intro c e b r h;cases r;rw[D.eq]at h;cases h;exact decide_eq_true rfl
 ·intro c e b r h;cases r;rw[D.eq]at h;cases h;exact decide_eq_true rfl
 ·intro a xs ds h1 r1 i e b r h;cases r with
  |tup h2 r2=>rw[h1]at h2;cases h2;rw[D.eq]at h;exact i _ _ r2 h|lst h2 r2=>rw[h1]at h2;cases h2|scr h2=>rw[D.eq]at h;cases h;exact nofun|dic h2 _ r2=>rw[D.eq]at h;cases h;exact nofun
 ·intro a xs ds h1 r1 i e b r h;cases r with
  |lst h2 r2=>rw[h1]at h2;cases h2;rw[D.eq]at h;exact i _ _ r2 h|tup h2 r2=>rw[h1]at h2;cases h2|scr h2=>rw[D.eq]at h;cases h;exact nofun|dic h2 _ r2=>rw[D.eq]at h;cases h;exact nofun
 ·intro a ns h1 e b r h;rw[D.eq]at h;cases h
 ·intros;rename_i h;rw[D.eq]at h;cases h
 ·intro e b r h;cases r;rw[D.eqL]at h;cases h;rfl
 ·intro x d xs ds h1 r1 i1 i2 es b r h;cases r with|@cons _ e _ es h2 r2=>rw[D.eqL]at h;cases q1:D.eq d e with|none=>rw[q1]at h;cases h|some b1=>cases q2:D.eqL ds es with|none=>rw[q1,q2]at h;cases h|some b2=>rw[q1,q2,U2]at h;cases h;rw[i1 _ _ h2 q1,i2 _ _ r2 q2];rfl
def IQ(i j:Int):(i==j)=decide (i=j):=by by_cases h:i=j<;>simp[h]
theorem D6:∀{ds:List D}{j:Nat}{d:D},ds[j]?=some d->d.dep<=D.depL ds|[],_,_,h=>by simp at h|d::ds,0,_,h=>by simp at h;subst h;rw[Yq];exact Nat.le_max_left _ _|d::ds,j+1,x,h=>by rw[Yq];exact ZP (D6 (ds:=ds) (j:=j) (by simpa using h)) (Nat.le_max_right _ _)
section
variable{X:Cx}{aa:List (Addr×Obj)}{σ:L2.St}{H:Hp}{s:Shared}
def Ox(A:Around)(s:Shared)(v u:Value)(b:Bool):Prop:=SeqAt.RcAt A s v u b/\SeqAt.EqAt A s v u b/\SeqAt.RcNeAt A s v u (!b)
def CQ(I:Inv X aa σ H s){n:Nat}{ds es:List D}{xs ys:List V}{us ws:List Value}{A:Around}{b:Bool}(hn:D.depL ds<=n)(hA:A.units+n<cLine)(ih:∀(d e:D)(x y:V)(v u:Value)(b:Bool),d.dep<=n->Rep X.K H x d->Rep X.K H y e->RelV x v->RelV y u->D.eq d e=some b->Ox A s v u b)(r1:Reps X.K H xs ds)(r2:Reps X.K H ys es)(v1:Vals xs us)(v2:Vals ys ws)(h:D.eqL ds es=some b):∀j(h1:j<us.toArray.size)(h2:j<ws.toArray.size),SeqAt.EqAt A s us.toArray[j] ws.toArray[j] (WH ds es j):=λj h1 h2=>by
 obtain⟨q1,q2⟩:=NR ds es b h;have l1:=r1.length;have l2:=r2.length;have l3:=v1.length;have l4:=v2.length;simp only[Ja]at h1 h2;have hd:j<ds.length:=by omega
 have he:j<es.length:=by omega
 obtain⟨x,hx,rx⟩:=r1.get (Qk hd);obtain⟨y,hy,ry⟩:=r2.get (Qk he);obtain⟨u,hu,ru⟩:=v1.get hx;obtain⟨w,hw,cM⟩:=v2.get hy;obtain⟨c,hc⟩:=q1 j _ _ (Qk hd) (Qk he);have e1:us.toArray[j]=u:=by
  rw[Qk h1]at hu;simpa using Option.some.inj hu
 have e2:ws.toArray[j]=w:=by
  rw[Qk h2]at hw;simpa using Option.some.inj hw
 have e3:WH ds es j=c:=by simp[WH,Qk hd,Qk he,hc]
 rw[e1,e2,e3];exact(ih _ _ x y u w c (ZP (D6 (Qk hd)) hn) rx ry ru cM hc).2.1
def G2{A:Around}{p q:Addr}{b:Bool}(h:SeqAt.RcAt A s (.ref p) (.ref q) b)(hn:SeqAt.RcNeAt A s (.ref p) (.ref q) (!b))(hs:p=q->b=true):Ox A s (.ref p) (.ref q) b:=by
 refine⟨h,?_,hn⟩;by_cases e:p=q;·rw[hs e,e];exact SeqAt.EqAt.same _
 ·exact SeqAt.EqAt.of_refs e h
def De(I:Inv X aa σ H s){d e:D}{x y:V}{v u:Value}{A:Around}{b:Bool}(hd:d.dep=0)(hu:A.units<cLine)(rx:Rep X.K H x d)(ry:Rep X.K H y e)(rv:RelV x v)(ru:RelV y u)(h:D.eq d e=some b):Ox A s v u b:=by
 have L:∀{a:Addr}{xs:List V},H a=some (.lst xs)->∃its,s.heap.IsList a its:=λh=>let⟨its,_,pl,_⟩:=I.list (SqL.of h);⟨_,pl.isList⟩;have T:∀{a:Addr}{xs:List V},H a=some (.tup xs)->∃its,s.heap.IsTuple a its:=λh=>let⟨its,_,pl,_⟩:=I.tuple (SqT.of h);⟨_,pl⟩;cases rx with
 |tup h1 r1=>rw[Vv]at hd;omega|lst h1 r1=>rw[VA]at hd;omega|scr h1=>rw[D.eq]at h;cases h|dic h1 mz r1=>cases ry<;>simp[D.eq,D.oth]at h|non=>
  cases show v=Value.none from rv;cases ry with
  |non=>
   cases show u=Value.none from ru;simp[D.eq,D.oth]at h;subst h;exact⟨SeqAt.RcAt.none_none,SeqAt.EqAt.same _,SeqAt.RcNeAt.none_none⟩|bl c2=>cases show u=Value.bool c2 from ru;simp[D.eq,D.oth]at h;subst h;exact⟨SeqAt.RcAt.none_bool _,SeqAt.EqAt.none_bool _,SeqAt.RcNeAt.none_bool _⟩|int i2=>obtain⟨tu,qu⟩:=show∃t,u=Value.int i2 t from ru;cases qu;simp[D.eq,D.oth]at h;subst h;exact⟨SeqAt.RcAt.none_int _ _,SeqAt.EqAt.none_int _ _,SeqAt.RcNeAt.none_int _ _⟩|str z2=>
   obtain⟨tu,qu⟩:=show∃t,u=Value.str z2 t from ru;cases qu;simp[D.eq,D.oth]at h;subst h;exact⟨SeqAt.RcAt.none_str _ _,SeqAt.EqAt.none_str _ _,SeqAt.RcNeAt.none_str _ _⟩|tup h2 r2=>
   cases show u=Value.ref _ from ru;simp[D.eq,D.oth]at h;subst h;obtain⟨its,hi⟩:=T h2;exact⟨SeqAt.RcAt.none_tuple hi hu,SeqAt.EqAt.none_tuple hi hu,SeqAt.RcNeAt.none_tuple hi hu⟩|lst h2 r2=>cases show u=Value.ref _ from ru;simp[D.eq,D.oth]at h;subst h;obtain⟨its,hi⟩:=L h2;exact⟨SeqAt.RcAt.none_list hi hu,SeqAt.EqAt.none_list hi hu,SeqAt.RcNeAt.none_list hi hu⟩|scr h2=>simp[D.eq,D.oth]at h|dic h2 dm r2=>simp[D.eq,D.oth]at h
 |bl c=>cases show v=Value.bool c from rv;cases ry with
  |non=>cases show u=Value.none from ru;simp[D.eq,D.oth]at h;subst h;exact⟨SeqAt.RcAt.bool_none _,SeqAt.EqAt.bool_none _,SeqAt.RcNeAt.bool_none _⟩|bl c2=>
   cases show u=Value.bool c2 from ru;simp only[D.eq]at h;have hb:b=(c==c2):=(Option.some.inj h).symm;subst hb;exact⟨SeqAt.RcAt.bool_bool _ _,SeqAt.EqAt.bool_bool _ _,SeqAt.RcNeAt.bool_bool _ _⟩|int i2=>
   obtain⟨tu,qu⟩:=show∃t,u=Value.int i2 t from ru;cases qu;simp only[D.eq]at h;have hb:b=((if c then 1 else 0)==i2):=by rw[<-Option.some.inj h,IQ];rfl
   subst hb;exact⟨SeqAt.RcAt.bool_int _ _ _,SeqAt.EqAt.bool_int _ _ _,SeqAt.RcNeAt.bool_int _ _ _⟩|str z2=>obtain⟨tu,qu⟩:=show∃t,u=Value.str z2 t from ru;cases qu;simp[D.eq,D.oth]at h;subst h;exact⟨SeqAt.RcAt.bool_str _ _ _,SeqAt.EqAt.bool_str _ _ _,SeqAt.RcNeAt.bool_str _ _ _⟩|tup h2 r2=>
   cases show u=Value.ref _ from ru;simp[D.eq,D.oth]at h;subst h;obtain⟨its,hi⟩:=T h2;exact⟨SeqAt.RcAt.bool_tuple _ hi hu,SeqAt.EqAt.bool_tuple _ hi hu,SeqAt.RcNeAt.bool_tuple _ hi hu⟩|lst h2 r2=>
   cases show u=Value.ref _ from ru;simp[D.eq,D.oth]at h;subst h;obtain⟨its,hi⟩:=L h2;exact⟨SeqAt.RcAt.bool_list _ hi hu,SeqAt.EqAt.bool_list _ hi hu,SeqAt.RcNeAt.bool_list _ hi hu⟩|scr h2=>simp[D.eq,D.oth]at h|dic h2 dm r2=>simp[D.eq,D.oth]at h
 |int i=>obtain⟨tv,qv⟩:=show∃t,v=Value.int i t from rv;cases qv;cases ry with
  |non=>
   cases show u=Value.none from ru;simp[D.eq,D.oth]at h;subst h;exact⟨SeqAt.RcAt.int_none _ _,SeqAt.EqAt.int_none _ _,SeqAt.RcNeAt.int_none _ _⟩|bl c2=>
   cases show u=Value.bool c2 from ru;simp only[D.eq]at h;have hb:b=(i==if c2 then 1 else 0):=by rw[<-Option.some.inj h,IQ];rfl
   subst hb;exact⟨SeqAt.RcAt.int_bool _ _ _,SeqAt.EqAt.int_bool _ _ _,SeqAt.RcNeAt.int_bool _ _ _⟩|int i2=>
   obtain⟨tu,qu⟩:=show∃t,u=Value.int i2 t from ru;cases qu;simp only[D.eq]at h;have hb:b=(i==i2):=by rw[<-Option.some.inj h,IQ]
   subst hb;exact⟨SeqAt.RcAt.int_int _ _ _ _,SeqAt.EqAt.int_int _ _ _ _,SeqAt.RcNeAt.int_int _ _ _ _⟩|str z2=>
   obtain⟨tu,qu⟩:=show∃t,u=Value.str z2 t from ru;cases qu;simp[D.eq,D.oth]at h;subst h;exact⟨SeqAt.RcAt.int_str _ _ _ _,SeqAt.EqAt.int_str _ _ _ _,SeqAt.RcNeAt.int_str _ _ _ _⟩|tup h2 r2=>cases show u=Value.ref _ from ru;simp[D.eq,D.oth]at h;subst h;obtain⟨its,hi⟩:=T h2;exact⟨SeqAt.RcAt.int_tuple _ _ hi hu,SeqAt.EqAt.int_tuple _ _ hi hu,SeqAt.RcNeAt.int_tuple _ _ hi hu⟩|lst h2 r2=>cases show u=Value.ref _ from ru;simp[D.eq,D.oth]at h;subst h;obtain⟨its,hi⟩:=L h2;exact⟨SeqAt.RcAt.int_list _ _ hi hu,SeqAt.EqAt.int_list _ _ hi hu,SeqAt.RcNeAt.int_list _ _ hi hu⟩|scr h2=>simp[D.eq,D.oth]at h|dic h2 dm r2=>simp[D.eq,D.oth]at h
 |str z=>
  obtain⟨tv,qv⟩:=show∃t,v=Value.str z t from rv;cases qv;cases ry with
  |non=>
   cases show u=Value.none from ru;simp[D.eq,D.oth]at h;subst h;exact⟨SeqAt.RcAt.str_none _ _,SeqAt.EqAt.str_none _ _,SeqAt.RcNeAt.str_none _ _⟩|bl c2=>cases show u=Value.bool c2 from ru;simp[D.eq,D.oth]at h;subst h;exact⟨SeqAt.RcAt.str_bool _ _ _,SeqAt.EqAt.str_bool _ _ _,SeqAt.RcNeAt.str_bool _ _ _⟩|int i2=>obtain⟨tu,qu⟩:=show∃t,u=Value.int i2 t from ru;cases qu;simp[D.eq,D.oth]at h;subst h;exact⟨SeqAt.RcAt.str_int _ _ _ _,SeqAt.EqAt.str_int _ _ _ _,SeqAt.RcNeAt.str_int _ _ _ _⟩|str z2=>
   obtain⟨tu,qu⟩:=show∃t,u=Value.str z2 t from ru;cases qu;simp only[D.eq]at h;have hb:b=(z==z2):=by
    rw[<-Option.some.inj h];by_cases q:z=z2<;>simp[q]
   subst hb;exact⟨SeqAt.RcAt.str_str _ _ _ _,SeqAt.EqAt.str_str _ _ _ _,SeqAt.RcNeAt.str_str _ _ _ _⟩|tup h2 r2=>
   cases show u=Value.ref _ from ru;simp[D.eq,D.oth]at h;subst h;obtain⟨its,hi⟩:=T h2;exact⟨SeqAt.RcAt.str_tuple _ _ hi hu,SeqAt.EqAt.str_tuple _ _ hi hu,SeqAt.RcNeAt.str_tuple _ _ hi hu⟩|lst h2 r2=>cases show u=Value.ref _ from ru;simp[D.eq,D.oth]at h;subst h;obtain⟨its,hi⟩:=L h2;exact⟨SeqAt.RcAt.str_list _ _ hi hu,SeqAt.EqAt.str_list _ _ hi hu,SeqAt.RcNeAt.str_list _ _ hi hu⟩|scr h2=>simp[D.eq,D.oth]at h|dic h2 dm r2=>simp[D.eq,D.oth]at h
def DZ(I:Inv X aa σ H s):∀(n:Nat)(d e:D)(x y:V)(v u:Value)(A:Around)(b:Bool),d.dep<=n->A.units+n<cLine->Rep X.K H x d->Rep X.K H y e->RelV x v->RelV y u->D.eq d e=some b->Ox A s v u b:=by
 have L:∀{a:Addr}{xs:List V},H a=some (.lst xs)->∃its:List Value,Vals xs its/\s.heap.IsList a its.toArray:=λh=>let⟨its,r,pl,_⟩:=I.list (SqL.of h);⟨its,r,pl.isList⟩;have T:∀{a:Addr}{xs:List V},H a=some (.tup xs)->∃its:List Value,Vals xs its/\s.heap.IsTuple a its.toArray:=λh=>let⟨its,r,pl,_⟩:=I.tuple (SqT.of h);⟨its,r,pl⟩;intro n;induction n with|zero=>intro d e x y v u A b hd hA rx ry rv ru h;exact De I (by omega) (by omega) rx ry rv ru h|succ n ih=>
  intro d e x y v u A b hd hA rx ry rv ru h;have hu:A.units<cLine:=by omega
  have iy:A.in1.units+n<cLine:=by show A.units+1+n<cLine;omega
  by_cases h0:d.dep=0;·exact De I h0 hu rx ry rv ru h
  cases rx with
  |non=>exact absurd TN h0|bl c=>exact absurd (TM c) h0|int c=>exact absurd (Z5 c) h0|str c=>exact absurd (Zu c) h0|scr h1=>
   rw[D.eq]at h;·cases h
   all_goals simp|dic h1 mz r1=>cases ry<;>simp[D.eq,D.oth]at h|@tup p xs ds h1 r1=>
   cases show v=Value.ref p from rv;rw[Vv]at hd;obtain⟨us,v1,t1⟩:=T h1;cases ry with
   |scr h2=>simp[D.eq,D.oth]at h|dic h2 dm r2=>simp[D.eq,D.oth]at h|non=>cases show u=Value.none from ru;simp[D.eq,D.oth]at h;subst h;exact⟨SeqAt.RcAt.tuple_none t1 hu,SeqAt.EqAt.tuple_none t1 hu,SeqAt.RcNeAt.tuple_none t1 hu⟩|bl c2=>
    cases show u=Value.bool c2 from ru;simp[D.eq,D.oth]at h;subst h;exact⟨SeqAt.RcAt.tuple_bool _ t1 hu,SeqAt.EqAt.tuple_bool _ t1 hu,SeqAt.RcNeAt.tuple_bool _ t1 hu⟩|int i2=>
    obtain⟨tu,qu⟩:=show∃t,u=Value.int i2 t from ru;cases qu;simp[D.eq,D.oth]at h;subst h;exact⟨SeqAt.RcAt.tuple_int _ _ t1 hu,SeqAt.EqAt.tuple_int _ _ t1 hu,SeqAt.RcNeAt.tuple_int _ _ t1 hu⟩|str z2=>
    obtain⟨tu,qu⟩:=show∃t,u=Value.str z2 t from ru;cases qu;simp[D.eq,D.oth]at h;subst h;exact⟨SeqAt.RcAt.tuple_str _ _ t1 hu,SeqAt.EqAt.tuple_str _ _ t1 hu,SeqAt.RcNeAt.tuple_str _ _ t1 hu⟩|@lst q ys es h2 r2=>cases show u=Value.ref q from ru;obtain⟨ws,v2,t2⟩:=L h2;simp[D.eq,D.oth]at h;subst h;exact⟨SeqAt.RcAt.tuple_list t1 t2 hu,SeqAt.EqAt.tuple_list t1 t2 hu,SeqAt.RcNeAt.tuple_list t1 t2 hu⟩|@tup q ys es h2 r2=>
    cases show u=Value.ref q from ru;obtain⟨ws,v2,t2⟩:=T h2;rw[D.eq]at h;have hi:=CQ (A:=A.in1) I (by omega) iy (λd e x y v u b hd rx ry rv ru h=>ih d e x y v u A.in1 b hd iy rx ry rv ru h) r1 r2 v1 v2 h;have hr:=SeqAt.RcAt.tuples t1 t2 hu hi;have hn:=SeqAt.RcNeAt.tuples t1 t2 hu hi;have hb:b=((List.range (min us.toArray.size ws.toArray.size)).all (WH ds es)&&us.toArray.size==ws.toArray.size):=by
     rw[(NR ds es b h).2];simp only[Ja];rw[<-v1.length,<-v2.length,r1.length,r2.length]
    rw[<-hb]at hr hn;refine G2 hr hn λz=>? _;subst z;rw[h1]at h2;cases h2;exact eqs_same r1 r2 h
  |@lst p xs ds h1 r1=>cases show v=Value.ref p from rv;rw[VA]at hd;obtain⟨us,v1,t1⟩:=L h1;cases ry with
   |scr h2=>simp[D.eq,D.oth]at h|dic h2 dm r2=>simp[D.eq,D.oth]at h|non=>cases show u=Value.none from ru;simp[D.eq,D.oth]at h;subst h;exact⟨SeqAt.RcAt.list_none t1 hu,SeqAt.EqAt.list_none t1 hu,SeqAt.RcNeAt.list_none t1 hu⟩|bl c2=>cases show u=Value.bool c2 from ru;simp[D.eq,D.oth]at h;subst h;exact⟨SeqAt.RcAt.list_bool _ t1 hu,SeqAt.EqAt.list_bool _ t1 hu,SeqAt.RcNeAt.list_bool _ t1 hu⟩|int i2=>
    obtain⟨tu,qu⟩:=show∃t,u=Value.int i2 t from ru;cases qu;simp[D.eq,D.oth]at h;subst h;exact⟨SeqAt.RcAt.list_int _ _ t1 hu,SeqAt.EqAt.list_int _ _ t1 hu,SeqAt.RcNeAt.list_int _ _ t1 hu⟩|str z2=>
    obtain⟨tu,qu⟩:=show∃t,u=Value.str z2 t from ru;cases qu;simp[D.eq,D.oth]at h;subst h;exact⟨SeqAt.RcAt.list_str _ _ t1 hu,SeqAt.EqAt.list_str _ _ t1 hu,SeqAt.RcNeAt.list_str _ _ t1 hu⟩|@tup q ys es h2 r2=>cases show u=Value.ref q from ru;obtain⟨ws,v2,t2⟩:=T h2;simp[D.eq,D.oth]at h;subst h;exact⟨SeqAt.RcAt.list_tuple t1 t2 hu,SeqAt.EqAt.list_tuple t1 t2 hu,SeqAt.RcNeAt.list_tuple t1 t2 hu⟩|@lst q ys es h2 r2=>
    cases show u=Value.ref q from ru;obtain⟨ws,v2,t2⟩:=L h2;rw[D.eq]at h;have hb:=(NR ds es b h).2;have l1:=r1.length;have l2:=r2.length;have l3:=v1.length;have l4:=v2.length;by_cases hz:ds.length=es.length
    ·have hi:=CQ (A:=A.in1) I (by omega) iy (λd e x y v u b hd rx ry rv ru h=>ih d e x y v u A.in1 b hd iy rx ry rv ru h) r1 r2 v1 v2 h;have hr:=SeqAt.RcAt.lists t1 t2 (by simp only[Ja];omega) hu hi;have hn:=SeqAt.RcNeAt.lists t1 t2 (by simp only[Ja];omega) hu hi;have eG:b=(List.range us.toArray.size).all (WH ds es):=by
      rw[hb];simp only[Ja];rw[<-l3,l1,hz,min_self];simp
     rw[<-eG]at hr hn;refine G2 hr hn λz=>? _;subst z;rw[h1]at h2;cases h2;exact eqs_same r1 r2 h
    ·have hr:=SeqAt.RcAt.lists_lengths (A:=A) t1 t2 (by simp only[Ja,bne_iff_ne];omega) hu;have hn:=SeqAt.RcNeAt.lists_lengths (A:=A) t1 t2 (by simp only[Ja,bne_iff_ne];omega) hu;have eG:b=false:=by rw[hb];simp[hz]
     rw[eG];refine G2 hr hn λz=>? _;subst z;rw[h1]at h2;cases h2;omega
def Dc{dx dy:D}{b:Bool}(h:D.eq dx dy=some b)(ks:List Kd)(ds:List D):dx≠.dic ks ds:=by rintro rfl;cases dy<;>simp[D.eq,D.oth]at h
def Dd{dx dy:D}{b:Bool}(h:D.eq dx dy=some b)(ks:List Kd)(ds:List D):dy≠.dic ks ds:=by rintro rfl;cases dx<;>simp[D.eq,D.oth]at h
def Mo(X:Cx)(g:Bool->Bool):R2:=λx y H Q=>∃F dx dy b,Sm F H/\RdD X.K F H x dx/\RdD X.K F H y dy/\dx.dep<=40/\D.eq dx dy=some b/\Q (.bl (g b)) H
def Wz(hu:X.A.units+64<cLine):OpR X (compareOp .Eq) (Mo X id)/\Jz X (Mo X id) D.eqO:=by
 refine⟨λaa s σ H x y v u Q I rx ry⟨F,dx,dy,b,sm,r1,r2,hd,h,q⟩=>?_,λF H x y dx dy d Q sm rx ry e k=>?_⟩
 ·have:=(DZ I 40 dx dy x y v u X.A b hd (by omega) (r1.rep sm (Dc h)) (r2.rep sm (Dd h)) rx ry h).1;exact this X.prog X.w X.xe _ ⟨.bl b,H,I,rfl,q⟩
 ·simp only[D.eqO]at e;split at e
  ·rename_i hd;obtain⟨b,e1,rfl⟩:=Jy e;exact⟨F,dx,dy,b,sm,rx,ry,hd,e1,k _ F H (.refl sm) (.bl b)⟩
  ·cases e
def BV(hu:X.A.units+64<cLine):OpR X (compareOp .NotEq) (Mo X (!·))/\Jz X (Mo X (!·)) D.neO:=by
 refine⟨λaa s σ H x y v u Q I rx ry⟨F,dx,dy,b,sm,r1,r2,hd,h,q⟩=>?_,λF H x y dx dy d Q sm rx ry e k=>?_⟩
 ·have:=(DZ I 40 dx dy x y v u X.A b hd (by omega) (r1.rep sm (Dc h)) (r2.rep sm (Dd h)) rx ry h).2.2;exact this X.prog X.w X.xe _ ⟨.bl (!b),H,I,rfl,q⟩
 ·simp only[D.neO]at e;split at e
  ·rename_i hd;obtain⟨b,e1,rfl⟩:=Jy e;exact⟨F,dx,dy,b,sm,rx,ry,hd,e1,k _ F H (.refl sm) (.bl (!b))⟩
  ·cases e
end
def QiR(A:Around)(s:Shared)(a:Int)(t:Tok)(c:Int)(u:Tok)(prog:Program)(w:World)(E:Value->Shared->Prop)(Q:Value->Shared->Prop)(h:Q (.bool (decide (a<=c))) s):wpAny (model prog w) A (richCompare .LtE (.int a t) (.int c u)) Q E s:=(PyProof.Rows.le_int h:wpAny (model prog w) A (compareOp .LtE (.int a t) (.int c u)) Q E s)
section
open PySem.SeqAt
open PySem.AutoSeq1(wpAny_loadPart')
open PySem.MeetsSeq PySem.MeetsSeq2 PySem.MeetsSeq3
def Qfw(x y:Int)(xs ys:List Int):Ww (x::xs) (y::ys)=if x=y then Ww xs ys else decide (x<y):=rfl
def Qj4(l b:Addr)(items bc:Array Value)(n n2:Nat)(dd fO:Option Addr)(sl fD:Array (Option Value))(ns ms:List Int)(hi:IntsAre items.toList ns)(hj:IntsAre bc.toList ms):Meets (Builtin.«tuple.__le__» ⟨[.ref l,.ref b],[]⟩) (λ_ R s=>s.heap.get? l=some {cls:=.type "tuple",dict:=dd,data:=.seq items n,slots:=sl}/\s.heap.get? b=some {cls:=.type "tuple",dict:=fO,data:=.seq bc n2,slots:=fD}/\R (.ok (.ret (.bool (Ww ns ms)))) s):=.of_wp λprog w A R s h=>by
  obtain⟨hp,g,d,tk,os⟩:=s;obtain⟨hl,hb,h⟩:=h;have f2:=AutoSeq1.sub_tuple_tuple;have z1:items.size=ns.length:=by rw[<-hi.length];simp
  have z2:bc.size=ms.length:=by rw[<-hj.length];simp
  wp_walk using wpAny_loadPart' hl,wpAny_loadPart' hb,wpAny_forIn_list _ (λJ5 b s'=>b.1=none/\s'=⟨hp,g,d,tk,os⟩/\∃(vs ws:List Value)(bI fE:List Int),J5=vs.zip ws/\IntsAre vs bI/\IntsAre ws fE/\bI.length+bc.size=fE.length+items.size/\R (.ok (.ret (.bool (Ww bI fE)))) ⟨hp,g,d,tk,os⟩) _;case turn=>rintro⟨y,x⟩J5 b s'⟨eG,rfl,vs,ws,bI,fE,hz,iV,iU,hlen,hR⟩;cases iV with|nil=>rw[List.zip_nil_left]at hz;cases hz|cons a t jE=>cases iU with|nil=>rw[List.zip_nil_right]at hz;cases hz|cons c u jC=>
     rw[Ur]at hz;injection hz with lG gH;injection lG with hy hx;subst hy hx;rw[Qfw]at hR;simp only[JM]at hlen;obtain⟨e,he,gE⟩:=HT.eqAt_int A.in1 ⟨hp,g,d,tk,os⟩ a t c u;refine wpAny_bind (he prog w _ _ ?_);cases e with
     |true=>rw[if_pos (gE.mp rfl)]at hR;wp_walk;exact⟨rfl,rfl,_,_,_,_,gH,jE,jC,by omega,hR⟩|false=>
      have mP:a≠c:=λq=>absurd (gE.mpr q) W0;rw[if_neg mP]at hR;have hd:decide (a<c)=decide (a<=c):=by
       by_cases z:a<c;·rw[Jf z,Jf (by omega)]
       ·rw[JF z,JF (by omega)]
      rw[hd]at hR;have lY:=QiR A.in1 ⟨hp,g,d,tk,os⟩ a t c u prog w;wp_walk using lY;exact⟨_,rfl,by simpa using hR⟩
  case fin=>
   rintro⟨b1,b2⟩s'⟨eG,rfl,vs,ws,bI,fE,hz,iV,iU,hlen,hR⟩;simp only at eG;subst eG;have hv:Ww bI fE=decide (items.size<=bc.size):=by cases iV with
    |nil=>simp only[WU]at hlen;show true=_;exact(Jf (by omega)).symm|cons a t hv=>cases iU with
     |nil=>simp only[WU,JM]at hlen;show false=_;exact(JF (by omega)).symm|cons c u hw=>
      rw[Ur]at hz;cases hz
   rw[hv]at hR;wp_walk;exact⟨_,rfl,by simpa[Builtin.Tuple.tupleCompareSizes]using hR⟩
  case h=>exact⟨rfl,rfl,items.toList,bc.toList,ns,ms,rfl,hi,hj,by omega,h⟩
end
def Qfr{prog:Program}{w:World}{A:Around}{E:Value->Shared->Prop}{s:Shared}{l b:Addr}{items bc:Array Value}{ns ms:List Int}{Q:Value->Shared->Prop}(hl:IsTup s.heap l items)(hb:IsTup s.heap b bc)(hi:IntsAre items.toList ns)(hj:IntsAre bc.toList ms)(hu:A.units<cLine)(h:Q (.bool (Ww ns ms)) s):wpAny (model prog w) A (compareOp .LtE (.ref l) (.ref b)) Q E s:=by obtain⟨⟨cls,dd,data,sl⟩,ho,hc,n,hd⟩:=id hl;obtain⟨⟨jS,fO,data2,fD⟩,dS,gf,n2,hd2⟩:=id hb;simp only at hc hd gf hd2;subst hc hd gf hd2;exact richCompare_meets_room (op:=.LtE) ⟨_,ho,rfl⟩ ⟨_,dS,rfl⟩ PySem.F.slot_tuple_le PySem.F.entry_tuple_le (PySem.F.args_tuple_le_2 _ _) (Qj4 l b items bc n n2 dd fO sl fD ns ms hi hj) ⟨ho,dS,show Value.bool (Ww ns ms)≠Value.notImplemented/\Q (.bool (Ww ns ms)) s from⟨(λx=>nomatch x),h⟩⟩ hu
section
variable{X:Cx}{O:List Nat}{e a b c:Expr}{pos:Pos}
def Hz(K:Fg):R2:=λx y H Q=>∃a b ns ms,x=.ref a/\y=.ref b/\SqT K H a (ns.map V.int)/\SqT K H b (ms.map V.int)/\Q (.bl (Ww ns ms)) H
def QhC(hu:X.A.units<cLine):OpR X (compareOp .LtE) (Hz X.K):=by intro aa s σ H x y v u Q I rx ry h;obtain⟨a,b,ns,ms,rfl,rfl,ha,hb,q⟩:=h;cases rx;cases ry;obtain⟨its,r1,p1,_⟩:=I.tuple ha;obtain⟨bO,r2,p2,_⟩:=I.tuple hb;have i1:IntsAre its.toArray.toList ns:=CL r1;have i2:IntsAre bO.toArray.toList ms:=CL r2;exact Qfr p1 p2 i1 i2 hu ⟨.bl (Ww ns ms),H,I,rfl,q⟩
def Ti(hu:X.A.units<cLine):OpR X (compareOp .LtE) (λx y H Q=>(YK λi j=>.bl (decide (i<=j))) x y H Q\/Hz X.K x y H Q)/\Jz X (λx y H Q=>(YK λi j=>.bl (decide (i<=j))) x y H Q\/Hz X.K x y H Q) D.le:=by
 refine⟨OpR.or QhB (QhC hu),λF H x y dx dy d Q s rx ry e k=>?_⟩;cases dx<;>cases dy<;>try(simp[D.le]at e;done)
 case int.int i j=>cases e;exact .inl ⟨i,j,rx.int,ry.int,k _ F H (.refl s) (.bl _)⟩
 case tup.tup xs ys=>
  simp only[D.le]at e;split at e
  ·rename_i na nb e1 e2;cases e;obtain⟨p,us,rfl,h1,r1⟩:=rx.tup;obtain⟨q,ws,rfl,h2,r2⟩:=ry.tup;have z1:=r1.intsOf e1;have z2:=r2.intsOf e2;subst z1 z2;exact .inr ⟨p,q,na,nb,rfl,rfl,SqT.of (s _ _ h1),SqT.of (s _ _ h2),k _ F H (.refl s) (.bl _)⟩
  ·cases e
def QjJ{ev:Q8}{σ:L2.St}{H:Hp}{Q:Bool->Hp->Prop}(h:tDT X O ev σ H Q):tD X O ev σ H λx H'=>∃k,x=.bl k/\Q k H':=by obtain⟨F0,F,en,b,rs,w,k⟩:=h;refine⟨F0,F,en,.bl b,rs,w,λv F' H' g r=>?_⟩;cases r;exact⟨b,rfl,k F' H' g⟩
def QjR{ev:Q8}{σ:L2.St}{H:Hp}{Q:Bool->Hp->Prop}(h:tDT X O ev σ H Q):tR X O ev σ H λx H'=>∃k,x=.bl k/\Q k H':=by obtain⟨F0,F,en,b,rs,w,k⟩:=h;refine⟨F0,F,en,.bl b,rs,w,λv F' H' g r=>?_⟩;exact⟨b,r.bl,k F' H' g⟩
def Vf{op:CmpOp}{r:R2}{g:D->D->Option D}{ea eb:Q8}(ho:OpR X (compareOp op) r/\Jz X r g)(ha:PE X a (tR X O ea))(hb:PE X b (tR X O eb))(hm:behindInMarks op b=false):PT X (.Compare a [op] [b] pos) (tDT X O (Q4 g ea eb)):=PT.imp (Qix ho.1 ha hb hm) λσ H Q h=>M4 ho.2 (QjJ h)
def Jx{ev:Q8}(h:PE X e (tR X O ev))(he:∀whole,isTrue e X.env whole=(do let v<-whole;standAt e.pos;holding [v] (truthy v)):=by intro _;rfl):PT X e (tDT X O ev):=PT.imp (QiA h he) λσ H Q h=>QjR h
def UI{α:Type}{o:Option D}{x y:Option α}{r:α}(h:YT o x y=some r):∃c,o=some (.bl c)/\(if c=true then x else y)=some r:=by cases o with|none=>cases h|some d=>cases d with|bl c=>exact⟨c,rfl,h⟩|_=>cases h
def tDT.of{ev:Q8}{F0:Fz}{F:Hp}{en:QD}{σ:L2.St}{H:Hp}{Q:Bool->Hp->Prop}{b:Bool}(rs:RS X.K X.H₀ F0 F H σ en O)(w:ev en=some (.bl b))(k:∀F' H',Gr F H F' H'->Q b H'):tDT X O ev σ H Q:=⟨F0,F,en,b,rs,w,k⟩
def Qbv{ea eb:Q8}{σ:L2.St}{H:Hp}{Q:Bool->Hp->Prop}(h:tDT X O (JV ea eb) σ H Q):Qat (tDT X O ea) (tDT X O eb) σ H Q:=by obtain⟨F0,F,en,b,rs,w,k⟩:=h;obtain⟨c,e1,e2⟩:=UI w;refine⟨F0,F,en,c,rs,e1,λF1 H1 g1=>?_⟩;cases c with|true=>exact UK (.of (rs.grow g1) e2 λF' H' g=>k F' H' (g1.trans g))|false=>cases e2;exact UJ (k F1 H1 g1)
def QhN{ea eb:Q8}{σ:L2.St}{H:Hp}{Q:Bool->Hp->Prop}(h:tDT X O (J8 ea eb) σ H Q):tOr (tDT X O ea) (tDT X O eb) σ H Q:=by obtain⟨F0,F,en,b,rs,w,k⟩:=h;obtain⟨c,e1,e2⟩:=UI w;refine⟨F0,F,en,c,rs,e1,λF1 H1 g1=>?_⟩;cases c with|true=>cases e2;exact UK (k F1 H1 g1)|false=>exact UJ (.of (rs.grow g1) e2 λF' H' g=>k F' H' (g1.trans g))
def Zv{ev:Q8}{op}(h:PT X a (tDT X O ev)):PW X (.BoolOp op [a] pos) (tDT X O ev):=by
 cases op;·exact QiI h
 ·exact QiK h
def Wo{J5:List Expr}{ea eb:Q8}(ha:PT X a (tDT X O ea))(hb:PW X (.BoolOp .And (b::J5) pos) (tDT X O eb)):PW X (.BoolOp .And (a::b::J5) pos) (tDT X O (JV ea eb)):=PW.imp (QiH ha hb) λσ H Q h=>Qbv h
def WG{J5:List Expr}{ea eb:Q8}(ha:PT X a (tDT X O ea))(hb:PW X (.BoolOp .Or (b::J5) pos) (tDT X O eb)):PW X (.BoolOp .Or (a::b::J5) pos) (tDT X O (J8 ea eb)):=PW.imp (QiJ ha hb) λσ H Q h=>QhN h
def Xd{ev:Q8}(ha:PT X a (tDT X O ev)):PT X (.UnaryOp .Not a pos) (tDT X O (Zw ev)):=PT.imp (Qiy ha) λσ H Q⟨F0,F,en,b,rs,w,k⟩=>by have w':Tg (ev en)=some (.bl b):=w;cases q:ev en with|none=>rw[q]at w';cases w'|some d=>rw[q]at w';cases d with|bl c=>cases w';exact⟨F0,F,en,c,rs,q,k⟩|_=>cases w'
def TK{ev:Q8}{op}(h:PE X a (tD X O ev)):PE X (.BoolOp op [a] pos) (tD X O ev):=Qh6 h
def SJ{J5:List Expr}{ea eb:Q8}(ha:PE X a (tR X O ea))(hb:PE X (.BoolOp .And (b::J5) pos) (tD X O eb)):PE X (.BoolOp .And (a::b::J5) pos) (tD X O (JV ea eb)):=PE.imp (QhU ha hb) λσ H Q⟨F0,F,en,d,rs,w,k⟩=>by obtain⟨c,e1,e2⟩:=UI w;refine⟨F0,F,en,.bl c,rs,e1,λv F1 H1 g1 r1=>⟨c,r1.bl,?_⟩⟩;cases c with|true=>exact UK ⟨F0,F1,en,d,rs.grow g1,e2,λv F' H' g r=>k v F' H' (g1.trans g) r⟩|false=>cases e2;exact UJ (k _ F1 H1 g1 (.bl _))
def QdA{J5:List Expr}{ea eb:Q8}(ha:PE X a (tR X O ea))(hb:PE X (.BoolOp .Or (b::J5) pos) (tD X O eb)):PE X (.BoolOp .Or (a::b::J5) pos) (tD X O (J8 ea eb)):=PE.imp (Qh7 ha hb) λσ H Q⟨F0,F,en,d,rs,w,k⟩=>by obtain⟨c,e1,e2⟩:=UI w;refine⟨F0,F,en,.bl c,rs,e1,λv F1 H1 g1 r1=>⟨c,r1.bl,?_⟩⟩;cases c with|true=>cases e2;exact UK (k _ F1 H1 g1 (.bl _))|false=>exact UJ ⟨F0,F1,en,d,rs.grow g1,e2,λv F' H' g r=>k v F' H' (g1.trans g) r⟩
def Qdz{ev:Q8}(ha:PE X a (tR X O ev)):PE X (.UnaryOp .Not a pos) (tD X O (Zw ev)):=PE.imp (Qh5 ha) λσ H Q⟨F0,F,en,d,rs,w,k⟩=>by have w':Tg (ev en)=some d:=w;cases q:ev en with|none=>rw[q]at w';cases w'|some x=>rw[q]at w';cases x with|bl c=>cases w';exact⟨F0,F,en,.bl c,rs,q,λv F' H' g r=>⟨c,r.bl,k _ F' H' g (.bl _)⟩⟩|_=>cases w'
def NL{ec ea eb:Q8}(hc:PT X c (tDT X O ec))(ha:PE X a (tD X O ea))(hb:PE X b (tD X O eb)):PE X (.IfExp c a b pos) (tD X O (Vg ec ea eb)):=PE.imp (Qh4 hc ha hb) λσ H Q⟨F0,F,en,d,rs,w,k⟩=>by obtain⟨c,e1,e2⟩:=UI w;refine⟨F0,F,en,c,rs,e1,λF1 H1 g1=>?_⟩;cases c with|true=>exact UK ⟨F0,F1,en,d,rs.grow g1,e2,λv F' H' g r=>k v F' H' (g1.trans g) r⟩|false=>exact UJ ⟨F0,F1,en,d,rs.grow g1,e2,λv F' H' g r=>k v F' H' (g1.trans g) r⟩
def SN{ev:Q8}(ha:PE X a (tR X O ev)):PE X (.UnaryOp .USub a pos) (tD X O (QE D.neg ev)):=PE.imp (Ho Gn ha) λσ H Q⟨F0,F,en,d,rs,w,k⟩=>by obtain⟨x,e1,e2⟩:=J2 w;cases x with|int i=>cases e2;exact⟨F0,F,en,.int i,rs,e1,λv F' H' g r=>⟨i,r.int,k _ F' H' g (.int _)⟩⟩|_=>cases e2
def QbX{g g':D->D->Option D}{r r':R2}{ea eb ec:Q8}(ho:Jz X r g)(cD:Jz X r' g'){σ:L2.St}{H:Hp}{Q:VK}(h:tD X O (Xe g g' ea eb ec) σ H Q):Qau r r' (tR X O ea) (tR X O eb) (tR X O ec) σ H Q:=by obtain⟨F0,F,en,d,rs,w,k⟩:=h;obtain⟨dx,dy,e1,e2,e3⟩:=U4 w;obtain⟨c,e4,e5⟩:=UI e3;refine⟨F0,F,en,dx,rs,e1,λx F1 H1 g1 r1=>?_⟩;refine⟨F0,F1,en,dy,rs.grow g1,e2,λy F2 H2 g2 r2=>?_⟩;refine ho F2 H2 x y dx dy (.bl c) _ g2.fh (r1.gr g2) r2 e4 λv F3 H3 g3 r3=>?_;cases r3;refine⟨c,rfl,?_⟩;have eI:=(g1.trans g2).trans g3;cases c with|true=>obtain⟨dz,e6,e7⟩:=J2 e5;refine UK ⟨F0,F3,en,dz,rs.grow eI,e6,λz F4 H4 g4 r4=>?_⟩;exact cD F4 H4 y z dy dz d _ g4.fh ((r2.gr g3).gr g4) r4 e7 λv F' H' g5 r5=>k v F' H' ((eI.trans g4).trans g5) r5|false=>cases e5;exact UJ (k _ F3 H3 eI (.bl _))
def D4{op eS:CmpOp}{g g':D->D->Option D}{r r':R2}{ea eb ec:Q8}(ho:OpR X (compareOp op) r/\Jz X r g)(cD:OpR X (compareOp eS) r'/\Jz X r' g')(ha:PE X a (tR X O ea))(hb:PE X b (tR X O eb))(hc:PE X c (tR X O ec))(hm:lastMarks [op,eS] [b,c]=false:=by with_unfolding_all rfl):PE X (.Compare a [op,eS] [b,c] pos) (tD X O (Xe g g' ea eb ec)):=PE.imp (QhY ho.1 cD.1 ha hb hc hm) λσ H Q h=>QbX ho.2 cD.2 h
def Dz:PA X [] (tL X O lN):=PA.imp VW λσ H Q⟨F0,F,en,ds,rs,w,k⟩=>by cases w;exact k [] F H (.refl rs.fh) .nil
def U9{es:List Expr}{ea:Q8}{l:Z4}(ha:PE X a (tD X O ea))(hr:PA X es (tL X O l))(hs:starEach (a::es) X.env=(false,eval a X.env)::starEach es X.env:=by rfl):PA X (a::es) (tL X O (lC ea l)):=PA.imp (ZE ha hr hs) λσ H Q⟨F0,F,en,ds,rs,w,k⟩=>by obtain⟨d,e1,e2⟩:=J2 w;obtain⟨bV,e3,rfl⟩:=Jy e2;refine⟨F0,F,en,d,rs,e1,λv F1 H1 g1 r1=>?_⟩;exact⟨F0,F1,en,bV,rs.grow g1,e3,λvs F2 H2 g2 r2=>k (v::vs) F2 H2 (g1.trans g2) (.cons (r1.mono g2.ff) r2)⟩
def Pz:∀(e:QD)(d:List D),lN e=some d->d.length<=0:=λe d h=>by cases h;exact Qx 0
def Xm{n:Nat}{ea:Q8}{l:Z4}(h:∀(e:QD)(d:List D),l e=some d->d.length<=n):∀(e:QD)(d:List D),lC ea l e=some d->d.length<=n+1:=λe d w=>by obtain⟨x,e1,e2⟩:=J2 w;obtain⟨ds,e3,rfl⟩:=Jy e2;exact succ_le_succ (h e ds e3)
def JD{es:List Expr}{l:Z4}{x1}(h:PA X es (tL X O l))(hz:∀(e:QD)(d:List D),l e=some d->d.length<=lI):PE X (.Tuple es x1 pos) (tD X O (QT l)):=PE.imp (Bd h) λσ H Q⟨F0,F,en,d,rs,w,k⟩=>by obtain⟨ds,e1,rfl⟩:=Jy w;refine⟨F0,F,en,ds,rs,e1,λvs F1 H1 g1 r1=>⟨by rw[r1.length,VG];exact hz en ds e1,λp hp=>?_⟩⟩;have g:=Gr.new g1.fh hp (.tup vs);exact k _ _ _ (g1.trans g) (.tup Jq (r1.mono g.ff))
def JX{es:List Expr}{l:Z4}(h:PA X es (tL X O l))(hz:∀(e:QD)(d:List D),l e=some d->d.length<=lI):PE X (.List es pos) (tD X O (QS l)):=PE.imp (Mi h) λσ H Q⟨F0,F,en,d,rs,w,k⟩=>by obtain⟨ds,e1,rfl⟩:=Jy w;refine⟨F0,F,en,ds,rs,e1,λvs F1 H1 g1 r1=>⟨by rw[r1.length,VG];exact hz en ds e1,λp hp=>?_⟩⟩;have g:=Gr.new g1.fh hp (.lst vs);exact k _ _ _ (g1.trans g) (.lst Jq (r1.mono g.ff))
def Vc{es:List Expr}{l:Z4}(h:PA X es (tL X O l))(hz:∀(e:QD)(d:List D),l e=some d->d.length<=lI):PE X (.List es pos) (tO X O (QS l)):=PE.imp (Mi h) λσ H Q⟨F0,F,en,d,rs,w,k⟩=>by obtain⟨ds,e1,rfl⟩:=Jy w;refine⟨F0,F,en,ds,rs,e1,λvs F1 H1 g1 r1=>⟨by rw[r1.length,VG];exact hz en ds e1,λp hp=>?_⟩⟩;have g:=Gr.newO g1.fh hp (.lst vs);exact k p none vs ds F1 _ (g1.trans g) (g1.hh.none hp) (g1.fh.none hp) Jq r1 rfl trivial
def XF:PO X none (L5 X O Zz):=λaa s σ H Q I⟨F0,F,en,o,rs,w,k⟩=>by cases w;exact Qin aa s σ H Q I (k F H (.refl rs.fh))
def Ve{ev:Q8}(h:PE X e (tR X O ev)):PO X (some e) (L5 X O (Z9 ev)):=λaa s σ H Q I⟨F0,F,en,o,rs,w,k⟩=>by obtain⟨d,e1,e2⟩:=J2 w;cases d with|int i=>cases e2;exact Qio h aa s σ H Q I ⟨F0,F,en,.int i,rs,e1,λv F' H' g r=>⟨i,r.int,k F' H' g⟩⟩|_=>cases e2
def IZ{K:Fg}{F:Hp}{xs:List V}{ds:List D}(r:Reps K F xs ds)(lo hi:Option Int):Reps K F (Wh xs lo hi) (Zc ds lo hi):=by unfold Wh Zc;rw[r.length];exact(r.drop _).take _
def C1(X:Cx)(r:List V->Hp->VK->Prop)(g:D->Option D):Prop:=∀(F H:Hp)(x:V)(dx d:D)(Q:VK),Sm F H->RdD X.K F H x dx->g dx=some d->(∀v F' H',Gr F H F' H'->Rep X.K F' v d->Q v H')->r [x] H Q
def R6{ev:Q8}(ha:PE X a (tR X O ev))(hs:starEach [a] X.env=[(false,eval a X.env)]:=by rfl):PA X [a] (Vo (tR X O ev) X5):=ZE ha VW hs
def JJ{id:String}{x:Str}{p:Pos}{r:List V->Hp->VK->Prop}{g:D->Option D}{ev:Q8}(hc:CallR X (.builtin id) r/\C1 X r g)(hg:Gl X x)(hm:X.mg x=none)(hv:bootBuiltins x=some (.builtin id))(ha:PE X a (tR X O ev))(hn:x≠"__name__":=by decide)(cj:(x==("__debug__":Str))=false:=by decide)(he:starEach [a] X.env=[(false,eval a X.env)]:=by rfl):PE X (.Call (.Name x p) [a] [] pos) (tD X O (QE g ev)):=PE.imp (Hm hc.1 hg hm hv (R6 ha he) hn cj he rfl) λσ H Q⟨F0,F,en,d,rs,w,k⟩=>by obtain⟨dx,e1,e2⟩:=J2 w;exact⟨F0,F,en,dx,rs,e1,λv F' H' g r=>hc.2 F' H' v dx d Q g.fh r e2 λv2 F2 H2 g2 r2=>k v2 F2 H2 (g.trans g2) r2⟩
def TL{T:String}{x:Str}{p:Pos}{r:List V->Hp->VK->Prop}{g:D->Option D}{ev:Q8}(hc:CallR X (.type T) r/\C1 X r g)(hg:Gl X x)(hm:X.mg x=none)(hv:bootBuiltins x=some (.type T))(ha:PE X a (tR X O ev))(hn:x≠"__name__":=by decide)(cj:(x==("__debug__":Str))=false:=by decide)(he:starEach [a] X.env=[(false,eval a X.env)]:=by rfl):PE X (.Call (.Name x p) [a] [] pos) (tD X O (QE g ev)):=PE.imp (Bb hc.1 hg hm hv (R6 ha he) hn cj he rfl) λσ H Q⟨F0,F,en,d,rs,w,k⟩=>by obtain⟨dx,e1,e2⟩:=J2 w;exact⟨F0,F,en,dx,rs,e1,λv F' H' g r=>hc.2 F' H' v dx d Q g.fh r e2 λv2 F2 H2 g2 r2=>k v2 F2 H2 (g.trans g2) r2⟩
def JQ:CallR X (.builtin "len") (λxs H Q=>(∃p ys,xs=[.ref p]/\(SqL X.K H p ys\/SqT X.K H p ys)/\Q (.int ys.length) H)\/∃z,xs=[.str z]/\z.length<=sizeLine/\Q (.int z.length) H)/\C1 X (λxs H Q=>(∃p ys,xs=[.ref p]/\(SqL X.K H p ys\/SqT X.K H p ys)/\Q (.int ys.length) H)\/∃z,xs=[.str z]/\z.length<=sizeLine/\Q (.int z.length) H) D.len:=by refine⟨CallR.or QbO QbP,λF H x dx d Q s rx e k=>?_⟩;cases dx with
 |str z=>
  simp only[D.len]at e;split at e
  ·rename_i hz;cases e;exact .inr ⟨z,by rw[rx.str],by rw[VG];exact hz,k _ F H (.refl s) (.int _)⟩
  ·cases e|tup ds=>cases e;obtain⟨p,xs,rfl,h,r⟩:=rx.tup;exact .inl ⟨p,xs,rfl,.inr (SqT.of (s _ _ h)),by rw[r.length];exact k _ F H (.refl s) (.int _)⟩|lst ds=>cases e;obtain⟨p,xs,rfl,h,r⟩:=rx.lst s;exact .inl ⟨p,xs,rfl,.inl (SqL.of h),by rw[r.length];exact k _ F H (.refl s) (.int _)⟩|scr ns=>cases e;obtain⟨p,rfl,h⟩:=rx.scr;exact .inl ⟨p,_,rfl,.inl (s.sqL h),by rw[Qm];exact k _ F H (.refl s) (.int _)⟩|_=>cases e
theorem log2_lt{n:Nat}(h:n<2^1900):n.log2<1920:=by
 by_cases z:n=0;·subst z;decide
 ·have:=Nat.log2_lt z (k:=1900).mpr h;omega
def Rx:CallR X (.type "str") (λxs H Q=>∃i,xs=[.int i]/\i.natAbs.log2<1920/\Q (.str (toString i)) H)/\C1 X (λxs H Q=>∃i,xs=[.int i]/\i.natAbs.log2<1920/\Q (.str (toString i)) H) D.strI:=by
 refine⟨QbT,λF H x dx d Q s rx e k=>?_⟩;cases dx with
 |int i=>
  simp only[D.strI]at e;split at e
  ·rename_i hz;cases e;exact⟨i,by rw[rx.int],log2_lt hz,k _ F H (.refl s) (.str _)⟩
  ·cases e|_=>cases e
def Ej:CallR X (.type "int") (λxs H Q=>(∃i,xs=[.int i]/\Q (.int i) H)\/∃k,xs=[.bl k]/\Q (.int (if k then 1 else 0)) H)/\C1 X (λxs H Q=>(∃i,xs=[.int i]/\Q (.int i) H)\/∃k,xs=[.bl k]/\Q (.int (if k then 1 else 0)) H) D.intB:=by refine⟨QbN,λF H x dx d Q s rx e k=>?_⟩;cases dx with|int i=>cases e;exact .inl ⟨i,by rw[rx.int],k _ F H (.refl s) (.int _)⟩|bl b=>cases e;exact .inr ⟨b,by rw[rx.bl],k _ F H (.refl s) (.int _)⟩|_=>cases e
def C2(X:Cx)(r:List V->Hp->VK->Prop)(g:D->D->Option D):Prop:=∀(F H:Hp)(x y:V)(dx dy d:D)(Q:VK),Sm F H->RdD X.K F H x dx->RdD X.K F H y dy->g dx dy=some d->(∀v F' H',Gr F H F' H'->Rep X.K F' v d->Q v H')->r [x,y] H Q
def UA{id:String}{x:Str}{p:Pos}{r:List V->Hp->VK->Prop}{g:D->D->Option D}{ea eb:Q8}(hc:CallR X (.builtin id) r/\C2 X r g)(hg:Gl X x)(hm:X.mg x=none)(hv:bootBuiltins x=some (.builtin id))(ha:PE X a (tR X O ea))(hb:PE X b (tR X O eb))(hn:x≠"__name__":=by decide)(cj:(x==("__debug__":Str))=false:=by decide)(he:starEach [a,b] X.env=[(false,eval a X.env),(false,eval b X.env)]:=by rfl)(cW:starEach [b] X.env=[(false,eval b X.env)]:=by rfl):PE X (.Call (.Name x p) [a,b] [] pos) (tD X O (Q4 g ea eb)):=PE.imp (Hm hc.1 hg hm hv (ZE ha (R6 hb cW) (by rw[he,cW])) hn cj (by rw[he,cW]) (by rw[cW];rfl)) λσ H Q⟨F0,F,en,d,rs,w,k⟩=>by obtain⟨dx,dy,e1,e2,e3⟩:=U4 w;refine⟨F0,F,en,dx,rs,e1,λv F1 H1 g1 r1=>?_⟩;exact⟨F0,F1,en,dy,rs.grow g1,e2,λu F2 H2 g2 r2=>hc.2 F2 H2 v u dx dy d Q g2.fh (r1.gr g2) r2 e3 λv3 F3 H3 g3 r3=>k v3 F3 H3 ((g1.trans g2).trans g3) r3⟩
def U6(hc:X.calm=true):CallR X (.builtin "max") (λxs H Q=>∃i j,xs=[.int i,.int j]/\Q (.int (if j>i then j else i)) H)/\C2 X (λxs H Q=>∃i j,xs=[.int i,.int j]/\Q (.int (if j>i then j else i)) H) D.max2:=by
 refine⟨QbR hc,λF H x y dx dy d Q s rx ry e k=>?_⟩;cases dx<;>cases dy<;>try(simp[D.max2]at e;done)
 case int.int i j=>cases e;exact⟨i,j,by rw[rx.int,ry.int],k _ F H (.refl s) (.int _)⟩
noncomputable def QiL(X:Cx)(T:String):List V->Hp->VK->Prop:=λxs H Q=>∃x t b,xs=[x,.ty T]/\TyOf X.K H x t/\W.kitOne X.K t (.type T)=some b/\Q (.bl b) H
def QbM(T:String):CallR X (.builtin "isinstance") (QiL X T):=by intro aa s σ H xs us Q I r⟨x,t,b,hx,ty,e,q⟩;subst hx;obtain⟨u,w,rfl,rx,cM⟩:=LC r;cases show w=Value.type T from cM;exact QeQ I rx ty e λtk=>⟨.bl b,H,I.tok tk,rfl,q⟩
def Tz(K:Fg)(T:String):Prop:=∀d:D,(∀ns,d≠.scr ns)->W.kitOne K (.type (W9 d)) (.type T)=some (decide (W9 d=T)||decide (T="int")&&decide (W9 d="bool"))
def Qkb{F H:Hp}{x:V}{d:D}(s:Sm F H)(hd:∀ns,d≠.scr ns)(r:RdD X.K F H x d):TyOf X.K H x (.type (W9 d)):=by cases d with|non=>rw[r.non];exact .non|bl b=>rw[r.bl];exact .bl b|int i=>rw[r.int];exact .int i|str z=>rw[r.str];exact .str z|tup ds=>obtain⟨p,xs,rfl,h,_⟩:=r.tup;exact .tup (s _ _ h)|lst ds=>obtain⟨p,xs,rfl,h,_⟩:=r.lst s;exact .lst h|dic ks ds=>obtain⟨p,xs,rfl,h,_⟩:=r.dic s;rcases h with h|⟨o,h⟩;exact .dK h;exact .frzD h|scr ns=>exact absurd rfl (hd ns)
def SK{T:String}{x y:Str}{p p2:Pos}{ev:Q8}(kt:Tz X.K T)(hg:Gl X x)(hm:X.mg x=none)(hv:bootBuiltins x=some (.builtin "isinstance"))(mF:Gl X y)(mj:X.mg y=none)(lO:bootBuiltins y=some (.type T))(ha:PE X a (tR X O ev))(hn:x≠"__name__":=by decide)(cj:(x==("__debug__":Str))=false:=by decide)(ic:y≠"__name__":=by decide)(jK:(y==("__debug__":Str))=false:=by decide)(he:starEach [a,.Name y p2] X.env=[(false,eval a X.env),(false,eval (.Name y p2) X.env)]:=by rfl)(cW:starEach [.Name y p2] X.env=[(false,eval (.Name y p2) X.env)]:=by rfl):PE X (.Call (.Name x p) [a,.Name y p2] [] pos) (tD X O (Vh T ev)):=PE.imp (Hm (QbM T) hg hm hv (ZE ha (ZE (QhW mF mj lO (show RelV (.ty T) (.type T)from rfl) ic jK) VW cW) (by rw[he,cW])) hn cj (by rw[he,cW]) (by rw[cW];rfl)) λσ H Q⟨F0,F,en,d,rs,w,k⟩=>by
  obtain⟨dx,e1,e2⟩:=J2 w;have hs:(∀ns,dx≠.scr ns)/\d=.bl (decide (W9 dx=T)||(decide (T="int")&&decide (W9 dx="bool"))):=by cases dx with|scr ns=>cases e2|_=>cases e2;exact⟨(λ_ z=>nomatch z),rfl⟩
  refine⟨F0,F,en,dx,rs,e1,λv F1 H1 g1 r1=>?_⟩;refine⟨v,_,_,rfl,Qkb g1.fh hs.1 r1,kt dx hs.1,?_⟩;rw[hs.2]at k;exact k _ F1 H1 g1 (.bl _)
end
structure Ex(H₀:Hp)(F0:Fz)(F H:Hp):Prop where
 fh:Sm F H
 hh:Sm F0.h H
 ff:Sm F0.f F
 fr:∀a o,F a=some o->F0.f a=some o\/F0.h a=none
def RS.ex{K:Fg}{H₀:Hp}{F0:Fz}{F H:Hp}{σ:L2.St}{e:QD}{O:List Nat}(r:RS K H₀ F0 F H σ e O):Ex H₀ F0 F H:=⟨r.fh,r.hh,r.ff,r.fr⟩
def Ex.gr{H₀:Hp}{F0:Fz}{F H:Hp}(x:Ex H₀ F0 F H):Gr F0.f F0.h F H:=⟨x.ff,x.hh,x.fh,x.fr⟩
def Qbn(K:Fg)(H₀ F H:Hp)(w:Bool)(v:V)(d:D):Prop:=if w=true then∃p k xs ds,v=.ref p/\H₀ p=none/\F p=none/\H p=some (ho k xs)/\Reps K F xs ds/\d=Zm k ds/\Vs k xs else Rep K F v d
def FlOk(X:Cx)(O' OL:List Nat)(w:Bool)(F0:Fz)(F:Hp)(Dn:Ends):Fl->Prop|.nx e'=>∀σ' F' H',Sm F F'->RS X.K X.H₀ F0 F' H' σ' e' O'->Dn.nx σ' H'|.bk e'=>∀σ' F' H',Sm F F'->RS X.K X.H₀ F0 F' H' σ' e' OL->Dn.bk σ' H'|.ct e'=>∀σ' F' H',Sm F F'->RS X.K X.H₀ F0 F' H' σ' e' OL->Dn.ct σ' H'|.rt d=>∀v F' H',Ex X.H₀ F0 F' H'->Qbn X.K F0.h F' H' w v d->Dn.rt v H'
def tS(X:Cx)(O O' OL:List Nat)(w:Bool)(b:QF):TS:=λDn σ H=>∃F0 F e fl,RS X.K X.H₀ F0 F H σ e O/\b e=some fl/\FlOk X O' OL w F0 F Dn fl
def FlOk.mono{X:Cx}{O' OL:List Nat}{w:Bool}{F0:Fz}{F F1:Hp}{Dn:Ends}{fl:Fl}(h:FlOk X O' OL w F0 F Dn fl)(s:Sm F F1):FlOk X O' OL w F0 F1 Dn fl:=by cases fl with|nx e=>exact λσ' F' H' q r=>h σ' F' H' (s.trans q) r|bk e=>exact λσ' F' H' q r=>h σ' F' H' (s.trans q) r|ct e=>exact λσ' F' H' q r=>h σ' F' H' (s.trans q) r|rt d=>exact h
section
variable{X:Cx}{O O1 O2 O' OL:List Nat}{w:Bool}{st:Stmt}{J5:List Stmt}{e:Expr}{pos:Pos}
def Sn:PSs X [] (tS X O O OL w QK):=PSs.imp Bo λDn σ H⟨F0,F,en,fl,rs,z,k⟩=>by cases z;exact k σ F H (.refl _) rs
def So{b:QF}(h:PS X st (tS X O O' OL w b)):PSs X [st] (tS X O O' OL w b):=R9 h
def Ss{a b:QF}(h1:PS X st (tS X O O1 OL w a))(h2:PSs X J5 (tS X O1 O' OL w b)):PSs X (st::J5) (tS X O O' OL w (sQ a b)):=PSs.imp (Tp h1 h2) λDn σ H⟨F0,F,en,fl,rs,z,k⟩=>by have z':XT (a en) b=some fl:=z;cases q:a en with|none=>rw[q]at z';cases z'|some f1=>rw[q]at z';refine⟨F0,F,en,f1,rs,q,?_⟩;cases f1 with|nx e1=>exact λσ' F' H' s r=>⟨F0,F',e1,fl,r,z',k.mono s⟩|bk e1=>cases z';exact k|ct e1=>cases z';exact k|rt d=>cases z';exact k
def QdH:PS X (.Continue pos) (tS X O O' O w Uv):=PS.imp Qit λDn σ H⟨F0,F,en,fl,rs,z,k⟩=>by cases z;exact k σ F H (.refl _) rs
def RS.exg{K:Fg}{H₀:Hp}{F0:Fz}{F H F' H':Hp}{σ:L2.St}{e:QD}{O:List Nat}(r:RS K H₀ F0 F H σ e O)(g:Gr F H F' H'):Ex H₀ F0 F' H':=(r.grow g).ex
def QX{ev:Q8}(h:PE X e (tD X O ev)):PS X (.Return (some e) pos) (tS X O O' OL false (QQ ev)):=PS.imp (Bn h) λDn σ H⟨F0,F,en,fl,rs,z,k⟩=>by obtain⟨d,e1,rfl⟩:=Jy z;exact⟨F0,F,en,d,rs,e1,λv F' H' g r=>k v F' H' (rs.exg g) r⟩
def Ih{ev:Q8}(h:PE X e (tD X O ev))(hs:swapsWith e none pos.line X.env=pure false:=by rfl):PS X (.Expr e pos) (tS X O O OL w (Wa ev)):=PS.imp (Vz h hs) λDn σ H⟨F0,F,en,fl,rs,z,k⟩=>by obtain⟨d,e1,rfl⟩:=Jy z;exact⟨F0,F,en,d,rs,e1,λv F' H' g r=>k σ F' H' g.ff (rs.grow g)⟩
def Qd{c:Expr}{a b:List Stmt}{ec:Q8}{ea eb:QF}(hc:PT X c (tDT X O ec))(ha:PSs X a (tS X O O' OL w ea))(hb:PSs X b (tS X O O' OL w eb)):PS X (.If c a b pos) (tS X O O' OL w (QC ec ea eb)):=PS.imp (Hq hc ha hb) λDn σ H⟨F0,F,en,fl,rs,z,k⟩=>by obtain⟨c,e1,e2⟩:=UI z;refine⟨F0,F,en,c,rs,e1,λF1 H1 g1=>?_⟩;cases c with|true=>exact UK ⟨F0,F1,en,fl,rs.grow g1,e2,k.mono g1.ff⟩|false=>exact UJ ⟨F0,F1,en,fl,rs.grow g1,e2,k.mono g1.ff⟩
noncomputable def dl(i:Nat)(O:List Nat):List Nat:=O.filter λj=>! j==i
noncomputable def ad(i:Nat)(O:List Nat):List Nat:=O.filter (λj=>decide (j<i))++i::O.filter λj=>decide (i<j)
def mem_dl{i j:Nat}:j∈dl i O↔j∈O/\j≠i:=by unfold dl;simp
def mem_ad{i j:Nat}:j∈ad i O↔j=i\/j∈O:=by
 unfold ad;simp only[q_7,q_45,q_5,decide_eq_true_eq];constructor
 ·rintro(h|h|h);·exact .inr h.1
  ·exact .inl h
  ·exact .inr h.1
 ·rintro(h|h);·exact .inr (.inl h)
  ·rcases Nat.lt_trichotomy j i with z|z|z;·exact .inl ⟨h,z⟩
   ·exact .inr (.inl z)
   ·exact .inr (.inr ⟨h,z⟩)
def Yd{α:Type}{l:List α}{i j:Nat}{x:α}(hi:i<l.length):(l.set i x)[j]?=if i=j then some x else l[j]?:=by
 rw[Us];split;·rename_i h;subst h;simp[hi]
 ·rfl
def RS.put{K:Fg}{H₀:Hp}{F0:Fz}{F H:Hp}{σ:L2.St}{en:QD}{i:Nat}{v:V}{d:D}(r:RS K H₀ F0 F H σ en O)(h:Rep K F v d)(hi:i<en.length)(hq:Qh i∉O):RS K H₀ F0 F H (σ.set i (some v)) (en.set i (some d)) (dl i O)where
 fh:=r.fh
 hh:=r.hh
 ff:=r.ff
 fr:=r.fr
 slot:=λj d' e1 hj=>by
  rw[Yd hi]at e1;rw[Yd (by rw[r.len];exact hi)];split at e1;·rename_i z;cases e1;rw[if_pos z];exact⟨v,rfl,h⟩
  ·rename_i z;rw[if_neg z];exact r.slot j d' e1 λq=>hj (mem_dl.mpr ⟨q,λw=>z w.symm⟩)
 own:=λj d' e1 hj=>by
  obtain⟨h1,h2⟩:=mem_dl.mp hj;rw[Yd hi,if_neg (Ne.symm h2)]at e1;rw[Yd (by rw[r.len];exact hi),if_neg (Ne.symm h2)];exact r.own j d' e1 h1
 dis:=λj k p d1 d2 hj hk f1 f2 e1 e2=>by
  obtain⟨h1,h2⟩:=mem_dl.mp hj;obtain⟨h3,h4⟩:=mem_dl.mp hk;rw[Yd (by rw[r.len];exact hi),if_neg (Ne.symm h2)]at e1;rw[Yd (by rw[r.len];exact hi),if_neg (Ne.symm h4)]at e2;rw[Yd hi,if_neg (Ne.symm h2)]at f1;rw[Yd hi,if_neg (Ne.symm h4)]at f2;exact r.dis j k p d1 d2 h1 h3 f1 f2 e1 e2
 pin:=λj hj=>by
  obtain⟨h1,_⟩:=mem_dl.mp hj;obtain⟨p,e1,e2⟩:=r.pin j h1;refine⟨p,e1,? _⟩;rw[Uq λz:i=j=>hq (by rw[z];exact h1)];exact e2
 len:=by rw[W3,W3];exact r.len
def RS.putO{K:Fg}{H₀:Hp}{F0:Fz}{F H:Hp}{σ:L2.St}{en:QD}{i:Nat}{p:Addr}{kk:Option (List Kd)}{xs:List V}{ds:List D}(r:RS K H₀ F0 F H σ en O)(h0:F0.h p=none)(hf:F p=none)(hp:H p=some (ho kk xs))(hk:Vs kk xs)(hr:Reps K F xs ds)(hi:i<en.length)(hq:Qh i∉O)(ij:∀j,i≠Qh j)(hn:∀j d,j∈O->en[j]?=some (some d)->j≠i->σ[j]?≠some (some (.ref p))):RS K H₀ F0 F H (σ.set i (some (.ref p))) (en.set i (some (Zm kk ds))) (ad i O)where
 fh:=r.fh
 hh:=r.hh
 ff:=r.ff
 fr:=r.fr
 slot:=λj d' e1 hj=>by
  have kg:j≠i:=λz=>hj (mem_ad.mpr (.inl z));have mD:j∉O:=λz=>hj (mem_ad.mpr (.inr z));rw[Yd hi,if_neg (Ne.symm kg)]at e1;rw[Yd (by rw[r.len];exact hi),if_neg (Ne.symm kg)];exact r.slot j d' e1 mD
 own:=λj d' e1 hj=>by
  rw[Yd hi]at e1;rw[Yd (by rw[r.len];exact hi)];split at e1;·rename_i z;cases e1;rw[if_pos z];exact⟨p,kk,xs,ds,rfl,h0,hf,hp,hr,rfl,hk⟩
  ·rename_i z;rw[if_neg z];rcases mem_ad.mp hj with q|q;·exact absurd q.symm z
   ·exact r.own j d' e1 q
 dis:=λj k q d1 d2 hj hk f1 f2 e1 e2=>by
  rw[Yd (by rw[r.len];exact hi)]at e1 e2;rw[Yd hi]at f1 f2;by_cases z1:i=j
  ·by_cases z2:i=k;·rw[<-z1,<-z2]
   ·rw[if_pos z1]at e1;cases e1;rw[if_neg z2]at e2;rcases mem_ad.mp hk with w|w;·exact absurd w.symm z2
    ·rw[if_neg z2]at f2;exact absurd e2 (hn k d2 w f2 (Ne.symm z2))
  ·rw[if_neg z1]at e1;rcases mem_ad.mp hj with w|w;·exact absurd w.symm z1
   ·by_cases z2:i=k
    ·rw[if_pos z2]at e2;cases e2;rw[if_neg z1]at f1;exact absurd e1 (hn j d1 w f1 (Ne.symm z1))
    ·rw[if_neg z2]at e2;rcases mem_ad.mp hk with w2|w2;·exact absurd w2.symm z2
     ·rw[if_neg z1]at f1;rw[if_neg z2]at f2;exact r.dis j k q d1 d2 w w2 f1 f2 e1 e2
 pin:=λj hj=>by
  rcases mem_ad.mp hj with z|h1;·exact absurd z.symm (ij j)
  ·obtain⟨p,e1,e2⟩:=r.pin j h1;refine⟨p,e1,? _⟩;rw[Uq λz:i=j=>hq (by rw[z];exact h1)];exact e2
 len:=by rw[W3,W3];exact r.len
def RS.write{K:Fg}{H₀:Hp}{F0:Fz}{F H:Hp}{σ:L2.St}{en:QD}{i:Nat}{p:Addr}{kk:Option (List Kd)}{xs:List V}{ds:List D}(r:RS K H₀ F0 F H σ en O)(hi:i∈O){d0:D}(he:en[i]?=some (some d0))(hσ:σ[i]?=some (some (.ref p)))(h0:F0.h p=none)(hf:F p=none)(hk:Vs kk xs)(hr:Reps K F xs ds):RS K H₀ F0 F (upd H p (ho kk xs)) σ (en.set i (some (Zm kk ds))) O:=have hl:i<en.length:=by cases V1 i en.length with|inl h=>exact h|inr h=>rw[XQ h]at he;cases he
 {
 fh:=r.fh.upd _ hf
 hh:=r.hh.upd _ h0
 ff:=r.ff
 fr:=r.fr
 slot:=λj d' e1 hj=>by
  have z:i≠j:=λz=>hj (z▸hi);rw[Yd hl,if_neg z]at e1;exact r.slot j d' e1 hj
 own:=λj d' e1 hj=>by
  rw[Yd hl]at e1;split at e1
  ·rename_i z;cases e1;subst z;exact⟨p,kk,xs,ds,hσ,h0,hf,Jq,hr,rfl,hk⟩
  ·rename_i z;obtain⟨q,k2,ys,es,h1,h2,h3,h4,h5,h6⟩:=r.own j d' e1 hj;refine⟨q,k2,ys,es,h1,h2,h3,? _,h5,h6⟩;rw[Qn λw:q=p=>z (r.dis i j p _ _ hi hj he e1 hσ (by rw[<-w];exact h1))];exact h4
 dis:=λj k q d1 d2 hj hk f1 f2 g1 g2=>by
  rw[Yd hl]at f1 f2;have k1:∃d,en[j]?=some (some d):=by
   split at f1;·rename_i z;subst z;exact⟨_,he⟩
   ·exact⟨_,f1⟩
  have k2:∃d,en[k]?=some (some d):=by
   split at f2;·rename_i z;subst z;exact⟨_,he⟩
   ·exact⟨_,f2⟩
  obtain⟨_,k1⟩:=k1;obtain⟨_,k2⟩:=k2;exact r.dis j k q _ _ hj hk k1 k2 g1 g2
 pin:=r.pin
 len:=by rw[W3];exact r.len}
def RS.rel{K:Fg}{H₀:Hp}{F0:Fz}{F H:Hp}{σ:L2.St}{en:QD}(ob:Addr->Obj)(i:Nat)(r:RS K H₀ F0 F H σ en O):∃F' H',Sm F F'/\RS K H₀ F0 F' H' σ en (dl i O)/\(H'=H\/∃p kk xs,H p=some (ho kk xs)/\H'=upd H p (hz (ob p) kk xs)):=by
 have none_:(∀d,en[i]?=some (some d)->i∉O)->∃F' H',Sm F F'/\RS K H₀ F0 F' H' σ en (dl i O)/\(H'=H\/∃p kk xs,H p=some (ho kk xs)/\H'=upd H p (hz (ob p) kk xs)):=λhn=>by
  refine⟨F,H,.refl F,⟨r.fh,r.hh,r.ff,r.fr,λj d e1 hj=>?_,λj d e1 hj=>r.own j d e1 (mem_dl.mp hj).1,λj k p d1 d2 hj hk=>r.dis j k p d1 d2 (mem_dl.mp hj).1 (mem_dl.mp hk).1,λj hj=>r.pin j (mem_dl.mp hj).1,r.len⟩,.inl rfl⟩;exact r.slot j d e1 λw=>hj (mem_dl.mpr ⟨w,λz=>hn d (z▸e1) (z▸w)⟩)
 by_cases hi:i∈O;·cases q:en[i]? with
  |none=>exact none_ λd e=>by rw[q]at e;cases e|some o=>cases o with
   |none=>exact none_ λd e=>by rw[q]at e;cases e|some d0=>
    obtain⟨p,kk,xs,ds,h1,h2,h3,h4,h5,h6,h7⟩:=r.own i d0 q hi;have sf:Sm F (upd F p (hz (ob p) kk xs)):=(Sm.refl F).upd _ h3;refine⟨upd F p (hz (ob p) kk xs),upd H p (hz (ob p) kk xs),sf,⟨λa o e1=>?_,λa o e1=>?_,r.ff.trans sf,λa o e1=>?_,λj d e1 hj=>?_,λj d e1 hj=>?_,λj k p d1 d2 hj hk=>r.dis j k p d1 d2 (mem_dl.mp hj).1 (mem_dl.mp hk).1,λj hj=>r.pin j (mem_dl.mp hj).1,r.len⟩,.inr ⟨p,kk,xs,h4,rfl⟩⟩
    ·by_cases z:a=p;·subst z;rw[Jq]at e1⊢;exact e1
     ·rw[Qn z]at e1⊢;exact r.fh a o e1
    ·have z:a≠p:=λz=>by rw[z,h2]at e1;cases e1
     rw[Qn z];exact r.hh a o e1
    ·by_cases z:a=p;·subst z;exact .inr h2
     ·rw[Qn z]at e1;exact r.fr a o e1
    ·by_cases z:j=i
     ·subst z;rw[q]at e1;cases e1;subst h6;exact⟨_,h1,Rep.hz Jq h7 (h5.mono sf)⟩
     ·obtain⟨v,w1,w2⟩:=r.slot j d e1 λw=>hj (mem_dl.mpr ⟨w,z⟩);exact⟨v,w1,w2.mono sf⟩
    ·obtain⟨w1,w2⟩:=mem_dl.mp hj;obtain⟨p',lD,ys,es,k1,k2,k3,k4,k5,k6⟩:=r.own j d e1 w1;have ne:p'≠p:=λz:p'=p=>w2 (r.dis j i p _ _ w1 hi e1 q (by rw[<-z];exact k1) h1);refine⟨p',lD,ys,es,k1,k2,?_,?_,k5.mono sf,k6⟩;·rw[Qn ne];exact k3
     ·rw[Qn ne];exact k4
 ·exact none_ λ_ _=>hi
def RS.put'{K:Fg}{H₀:Hp}{F0:Fz}{F H:Hp}{σ:L2.St}{en:QD}(i:Nat){v:V}{d:D}(r:RS K H₀ F0 F H σ en O)(h:Rep K F v d)(hq:Qh i∉O):RS K H₀ F0 F H (σ.set i (some v)) (en.set i (some d)) (dl i O):=by
 by_cases hi:i<en.length;·exact r.put h hi hq
 ·have e1:en.set i (some d)=en:=List.set_eq_of_length_le (by omega);have e2:σ.set i (some v)=σ:=List.set_eq_of_length_le (by rw[r.len];omega);rw[e1,e2];refine⟨r.fh,r.hh,r.ff,r.fr,λj d f1 hj=>?_,λj d f1 hj=>r.own j d f1 (mem_dl.mp hj).1,λj k p d1 d2 hj hk=>r.dis j k p d1 d2 (mem_dl.mp hj).1 (mem_dl.mp hk).1,λj hj=>r.pin j (mem_dl.mp hj).1,r.len⟩;have:j≠i:=λz=>by
   rw[z,XQ (by omega)]at f1;cases f1
  exact r.slot j d f1 λw=>hj (mem_dl.mpr ⟨w,this⟩)
def RS.putO'{K:Fg}{H₀:Hp}{F0:Fz}{F H:Hp}{σ:L2.St}{en:QD}(i:Nat){p:Addr}{kk:Option (List Kd)}{xs:List V}{ds:List D}(r:RS K H₀ F0 F H σ en O)(h0:F0.h p=none)(hf:F p=none)(hp:H p=some (ho kk xs))(hk:Vs kk xs)(hr:Reps K F xs ds)(hn:∀j d,j∈O->en[j]?=some (some d)->j≠i->σ[j]?≠some (some (.ref p)))(hq:Qh i∉O)(ij:∀j,i≠Qh j):RS K H₀ F0 F H (σ.set i (some (.ref p))) (en.set i (some (Zm kk ds))) (ad i O):=by
 by_cases hi:i<en.length;·exact r.putO h0 hf hp hk hr hi hq ij hn
 ·have e1:en.set i (some (Zm kk ds))=en:=List.set_eq_of_length_le (by omega);have e2:σ.set i (some (V.ref p))=σ:=List.set_eq_of_length_le (by rw[r.len];omega);have n1:en[i]?=none:=XQ (by omega);have n2:σ[i]?=none:=XQ (by rw[r.len];omega);rw[e1,e2];refine⟨r.fh,r.hh,r.ff,r.fr,λj d f1 hj=>r.slot j d f1 λw=>hj (mem_ad.mpr (.inr w)),λj d f1 hj=>?_,λj k q d1 d2 hj hk g1 g2 f1 f2=>?_,λj hj=>?_,r.len⟩
  ·rcases mem_ad.mp hj with z|z;·rw[z,n1]at f1;cases f1
   ·exact r.own j d f1 z
  ·rcases mem_ad.mp hj with z|z;·rw[z,n2]at f1;cases f1
   ·rcases mem_ad.mp hk with z2|z2;·rw[z2,n2]at f2;cases f2
    ·exact r.dis j k q d1 d2 z z2 g1 g2 f1 f2
  ·rcases mem_ad.mp hj with z|h1;·exact absurd z.symm (ij j)
   ·exact r.pin j h1
def CJ{X:Cx}{aa:List (Addr×Obj)}{σ:L2.St}{H:Hp}{s:Shared}(I:Inv X aa σ H s){p:Addr}{kk:Option (List Kd)}{xs:List V}(h:H p=some (ho kk xs)):Inv X aa σ (upd H p (hz ((s.heap.get? p).getD default) kk xs)) s:=by cases kk with
 |none=>
  have e:upd H p (hz ((s.heap.get? p).getD default) none xs)=H:=by
   funext b;by_cases z:b=p;·subst z;rw[Jq];exact h.symm
   ·rw[Qn z]
  rw[e];exact I|some ks=>
  have h':H p=some (.dK (ks.zip xs)):=h;have ok:ObjOk X.prog X.w H s.heap p (.dK (ks.zip xs)):=I.hok p _ h';obtain⟨z1,z2,vs,rel,o,es,ep,ho,J5⟩:=ok;rw[ho];show Inv X aa σ (upd H p (.frz o (.dK (ks.zip xs)))) s;have ne:∀{b:Addr}{u:HO},H b=some u->(∀ah,u≠.dK ah)->b≠p:=λe n z=>by rw[z,h']at e;cases e;exact n _ rfl
  have I2:=I.step (h':=s.heap) (H':=upd H p (.frz o (.dK (ks.zip xs)))) (g':=s.gens) (d':=s.drawn) (t':=s.toks) (ch:=[]) (λb hb=>by cases hb) (λb o _ _ _ e _=>e) (λb o _ _ _ e _=>⟨o.slots,e⟩) (λb o _ e n=>by rw[Qn λz=>by rw[z,h']at n;cases n];exact n) (λb o _ e=>⟨o,e⟩) (λb xs e=>by rw[Qn (ne e λ_ z=>nomatch z)];exact e) (λb xs u e=>by rw[Qn (ne e λ_ z=>nomatch z)];exact e) (λb ps e=>⟨#[],by rw[Qn (ne e λ_ z=>nomatch z),e];simp⟩) (λm hm=>hm) (λb u e=>? _) I.bare;·exact I2
  ·by_cases hb:b=p
   ·subst hb;rw[Jq]at e;cases e;exact⟨ho,z1,z2,vs,rel,o,es,ep,ho,J5⟩
   ·rw[Qn hb]at e;exact(I.hok b u e).stay (λc v _ q=>q) (λc q=>by rw[Qn (ne q λ_ z=>nomatch z)];exact q) λc xs q=>by rw[Qn (ne q λ_ z=>nomatch z)];exact q
def G4{X:Cx}{aa:List (Addr×Obj)}{F0:Fz}{F H:Hp}{σ:L2.St}{en:QD}{s:Shared}(i:Nat)(I:Inv X aa σ H s)(r:RS X.K X.H₀ F0 F H σ en O):∃F' H',Inv X aa σ H' s/\Sm F F'/\RS X.K X.H₀ F0 F' H' σ en (dl i O):=by
 obtain⟨F',H',sf,r',h⟩:=r.rel (λp=>(s.heap.get? p).getD default) i;refine⟨F',H',?_,sf,r'⟩;rcases h with h|⟨p,kk,xs,hp,h⟩;·rw[h];exact I
 ·rw[h];exact CJ I hp
def YR(i:Nat){b:QF}{fQ:List Stmt}(h:PSs X fQ (tS X (dl i O) O' OL w b)):PSs X fQ (tS X O O' OL w b):=by rintro aa s σ H D I⟨F0,F,en,fl,rs,z,k⟩;obtain⟨F',H',I',sf,bE⟩:=G4 i I rs;exact h aa s σ H' D I' ⟨F0,F',en,fl,bE,z,k.mono sf⟩
def DL(i:Nat)(O1:List Nat){b:QF}{fQ:List Stmt}(h:PSs X fQ (tS X O O1 OL w b))(e:O'=dl i O1:=by rfl):PSs X fQ (tS X O O' OL w b):=by
 subst e;rintro aa s σ H D I⟨F0,F,en,fl,rs,z,k⟩;refine Qa (h aa s σ H {D with nx:=λσ' H'=>∃F' e',fl=.nx e'/\Sm F F'/\RS X.K X.H₀ F0 F' H' σ' e' O1} I ⟨F0,F,en,fl,rs,z,?_⟩) λf s' sp=>?_;·cases fl with
  |nx e=>exact λσ' F' H' s r=>⟨F',e,rfl,s,r⟩|bk e=>exact k|ct e=>exact k|rt d=>exact k
 ·cases f with
  |next=>obtain⟨σ',H',I',F',e',rfl,s1,r⟩:=sp;obtain⟨F2,H2,I2,s2,r2⟩:=G4 i I' r;exact⟨σ',H2,I2,k σ' F2 H2 (s1.trans s2) r2⟩|_=>exact sp
end
section
variable{X:Cx}{O O1 O2 O' OL:List Nat}{w:Bool}{st:Stmt}{J5:List Stmt}{e:Expr}{pos:Pos}
def tG(X:Cx)(O O':List Nat)(g:Jk):TG:=λv σ H Q=>∃F0 F en d e',RS X.K X.H₀ F0 F H σ en O/\Rep X.K F v d/\g d en=some e'/\∀σ' H' F',Gr F H F' H'->RS X.K X.H₀ F0 F' H' σ' e' O'->Q σ' H'
def L1(X:Cx)(O O':List Nat)(gs:List Jk):U1:=λvs σ H Q=>∃F0 F en ds e',RS X.K X.H₀ F0 F H σ en O/\Reps X.K F vs ds/\VC gs ds en=some e'/\∀σ' H' F',Gr F H F' H'->RS X.K X.H₀ F0 F' H' σ' e' O'->Q σ' H'
def PG.imp{t t':TG}(h:PG X e t)(q:∀v σ H Q,t' v σ H Q->t v σ H Q):PG X e t':=λaa s σ H v u Q I r z=>h aa s σ H v u Q I r (q v σ H Q z)
def PGs.imp{es:List Expr}{t t':U1}(h:PGs X es t)(q:∀v σ H Q,t' v σ H Q->t v σ H Q):PGs X es t':=λaa s σ H v u Q I r z=>h aa s σ H v u Q I r (q v σ H Q z)
def Qb(i:Nat){x:Str}(hN:X.N.Nodup)(hi:X.N[i]?=some x:=by rfl)(hx:XX X.env.scope x:=by first|exact Or.inl rfl|exact Or.inr rfl)(hf:X.fn x=true\/X.env.scope.names.lookup x=some .local:=by first|exact .inl rfl|exact .inr rfl)(hq:Qh i∉O:=by decide):PG X (.Name x pos) (tG X O (dl i O) (gS i)):=PG.imp (Qia hN hi hx hf) λv σ H Q⟨F0,F,en,d,e',rs,r,z,k⟩=>by cases z;exact k _ H F (.refl rs.fh) (rs.put' i r hq)
def Ys:PGs X [] (L1 X O O []):=PGs.imp Qie λvs σ H Q⟨F0,F,en,ds,e',rs,r,z,k⟩=>by cases r with|nil=>cases z;exact⟨rfl,k σ H F (.refl rs.fh) rs⟩|cons h r=>simp[VC]at z
def JT{es:List Expr}{g:Jk}{gs:List Jk}(h1:PG X e (tG X O O1 g))(h2:PGs X es (L1 X O1 O' gs))(hs:(assignEach (e::es) X.env).map (·.2)=assign e X.env::(assignEach es X.env).map (·.2):=by rfl):PGs X (e::es) (L1 X O O' (g::gs)):=PGs.imp (Qid h1 h2 hs) λvs σ H Q⟨F0,F,en,ds,e',rs,r,z,k⟩=>by cases r with|nil=>simp[VC]at z|@cons x d xs ds h r=>have z':((g d en).bind λe'=>VC gs ds e')=some e':=z;obtain⟨e1,q1,q2⟩:=J2 z';refine⟨x,xs,rfl,F0,F,en,d,e1,rs,h,q1,λσ' H' F' s bE=>?_⟩;exact⟨F0,F',e1,ds,e',bE,r.mono s.ff,q2,λσ2 H2 F2 s2 dh=>k σ2 H2 F2 (s.trans s2) dh⟩
def Yr{es:List Expr}{k0:Nat}{gs:List Jk}(hc:X.calm=true)(h:PGs X es (L1 X O O' gs))(hl:gs.length=es.length)(hn:(assignEach es X.env).length=es.length:=by rfl)(cV:(assignEach es X.env).findIdx? (·.1)=none:=by rfl):PG X (.Tuple es k0 pos) (tG X O O' (Jb gs)):=PG.imp (Qic hc h hn cV) λv σ H Q⟨F0,F,en,d,e',rs,r,z,k⟩=>by cases r with
  |@tup a xs ds h r=>
   have z':VC gs ds en=some e':=z;have len:∀(gs:List Jk)(ds:List D)(en e':QD),VC gs ds en=some e'->ds.length=gs.length:=by intro gs;induction gs with
    |nil=>intro ds en e' h;cases ds with|nil=>rfl|cons _ _=>simp[VC]at h
    |cons g gs ih=>intro ds en e' h;cases ds with
     |nil=>simp[VC]at h|cons d ds=>
      have h':((g d en).bind λe'=>VC gs ds e')=some e':=h;obtain⟨e1,_,q2⟩:=J2 h';rw[JM,JM,ih ds e1 e' q2]
   exact⟨a,xs,rfl,SqT.of (rs.fh _ _ h),by rw[r.length,len gs ds en e' z',hl],F0,F,en,ds,e',rs,r,z',k⟩|_=>cases z
def Qbz{ev:Q8}{g:Jk}{Dn:Ends}{σ:L2.St}{H:Hp}(h:tS X O O' OL w (QA ev g) Dn σ H):RW (tD X O ev) (tG X O O' g) Dn σ H:=by obtain⟨F0,F,en,fl,rs,z,k⟩:=h;obtain⟨d,e1,e2⟩:=J2 z;obtain⟨e',e3,rfl⟩:=Jy e2;refine⟨F0,F,en,d,rs,e1,λv F1 H1 g1 r1=>?_⟩;exact⟨F0,F1,en,d,e',rs.grow g1,r1,e3,λσ' H' F' s bE=>k σ' F' H' (g1.ff.trans s.ff) bE⟩
def P8{tg:Expr}{ev:Q8}{g:Jk}(he:PE X e (tD X O ev))(hg:PG X tg (tG X O O' g))(hs:swapsWithSole [tg] e pos.line X.env=pure false:=by rfl)(hw:swappedStores [tg] e X.env=pure none:=by rfl)(h1:(assignEach [tg] X.env).map (·.2)=[assign tg X.env]:=by rfl):PS X (.Assign [tg] e pos) (tS X O O' OL w (QA ev g)):=PS.imp (Bl he hg hs hw h1) λDn σ H h=>Qbz h
def QW(i:Nat){x:Str}{p:Pos}{ev:Q8}(hN:X.N.Nodup)(he:PE X e (tD X O ev))(hi:X.N[i]?=some x:=by rfl)(hx:XX X.env.scope x:=by first|exact Or.inl rfl|exact Or.inr rfl)(hs:swapsWith e (some (.Name x p)) pos.line X.env=pure false:=by rfl)(hf:X.fn x=true\/X.env.scope.names.lookup x=some .local:=by first|exact .inl rfl|exact .inr rfl)(hq:Qh i∉O:=by decide):PS X (.Assign [.Name x p] e pos) (tS X O (dl i O) OL w (QA ev (gS i))):=PS.imp (Mj hN hi hx he hs hf) λDn σ H⟨F0,F,en,fl,rs,z,k⟩=>by obtain⟨d,e1,e2⟩:=J2 z;obtain⟨e',e3,rfl⟩:=Jy e2;cases e3;exact⟨F0,F,en,d,rs,e1,λv F1 H1 g1 r1=>k _ F1 H1 g1.ff ((rs.grow g1).put' i r1 hq)⟩
def YQ(i:Nat){x:Str}{p:Pos}{ev:Q8}(hN:X.N.Nodup)(he:PE X e (tO X O ev))(hi:X.N[i]?=some x:=by rfl)(hx:XX X.env.scope x:=by first|exact Or.inl rfl|exact Or.inr rfl)(hs:swapsWith e (some (.Name x p)) pos.line X.env=pure false:=by rfl)(hf:X.fn x=true\/X.env.scope.names.lookup x=some .local:=by first|exact .inl rfl|exact .inr rfl)(hq:Qh i∉O:=by decide)(i7:i<1000:=by decide):PS X (.Assign [.Name x p] e pos) (tS X O (ad i O) OL w (QA ev (gS i))):=PS.imp (Mj hN hi hx he hs hf) λDn σ H⟨F0,F,en,fl,rs,z,k⟩=>by obtain⟨d,e1,e2⟩:=J2 z;obtain⟨e',e3,rfl⟩:=Jy e2;cases e3;refine⟨F0,F,en,d,rs,e1,λp kk xs ds F1 H1 g1 n1 n2 h r e4 hk=>?_⟩;subst e4;refine k _ F1 H1 g1.ff ((rs.grow g1).putO' i (rs.hh.none n1) n2 h hk r (λj d' hj q2 _ q=>?_) hq (λj z=>by unfold Qh at z;omega));obtain⟨p',_,ys,es,h1,_,_,h4,_⟩:=rs.own j d' q2 hj;rw[h1]at q;cases q;rw[n1]at h4;cases h4
end
section
variable{X:Cx}{O O1 O2 O' OL:List Nat}{w:Bool}{st:Stmt}{J5:List Stmt}{e a:Expr}{pos:Pos}
def HF:N1 X .Add (λx y H Q=>(YK λi j=>.int (i+j)) x y H Q\/∃i j,x=.str i/\y=.str j/\i.length+j.length<=sizeLine/\Q (.str (i++j)) H)/\Jz X (λx y H Q=>(YK λi j=>.int (i+j)) x y H Q\/∃i j,x=.str i/\y=.str j/\i.length+j.length<=sizeLine/\Q (.str (i++j)) H) D.addI:=by
 refine⟨OpR.or QeJ QeK,λF H x y dx dy d Q s rx ry e k=>?_⟩;cases dx<;>cases dy<;>try(simp[D.addI]at e;done)
 case int.int i j=>
  cases e;exact .inl ⟨i,j,rx.int,ry.int,k _ F H (.refl s) (.int _)⟩
 case str.str i j=>
  simp only[D.addI]at e;split at e
  ·rename_i hz;cases e;exact .inr ⟨i,j,rx.str,ry.str,by rw[VG];exact hz,k _ F H (.refl s) (.str _)⟩
  ·cases e
def QeM:N1 X .Sub (YK λi j=>.int (i-j))/\Jz X (YK λi j=>.int (i-j)) D.sub:=⟨QeL,Nn (fd:=λi j=>.int (i-j)) (λdx dy d e=>by cases dx<;>cases dy<;>simp[D.sub]at e⊢) (λi j d e=>by cases e;rfl) λ_ _ _ _=>.int _⟩
def NO(i:Nat){x:Str}{p:Pos}{op:Operator}{r:R2}{g:D->D->Option D}{ev:Q8}(hN:X.N.Nodup)(hO:i∉O)(he:PE X e (tR X O ev))(ho:N1 X op r/\Jz X r g)(hi:X.N[i]?=some x:=by rfl)(hx:XX X.env.scope x:=by first|exact Or.inl rfl|exact Or.inr rfl)(hf:X.fn x=true\/X.env.scope.names.lookup x=some .local:=by first|exact .inl rfl|exact .inr rfl)(hq:Qh i∉O:=by decide):PS X (.AugAssign (.Name x p) op e pos) (tS X O (dl i O) OL w (W6 i g ev)):=PS.imp (Qis hN hi hx he ho.1 hf) λDn σ H⟨F0,F,en,fl,rs,z,k⟩=>by obtain⟨dx,dy,e1,e2,e3⟩:=U4 z;obtain⟨dz,e4,rfl⟩:=Jy e3;obtain⟨v,h1,h2⟩:=rs.slot i dx (VB e1) hO;refine⟨v,h1,F0,F,en,dy,rs,e2,λy F1 H1 g1 r1=>?_⟩;exact ho.2 F1 H1 v y dx dy dz _ g1.fh (.inl (h2.mono g1.ff)) r1 e4 λu F2 H2 g2 r2=>k _ F2 H2 (g1.ff.trans g2.ff) ((rs.grow (g1.trans g2)).put' i r2 hq)
def Zd(i:Nat)(hi:i∈O){x:Str}{p apos aH:Pos}{ev:Q8}(he:PE X e (tD X O ev))(hN:X.N[i]?=some x:=by rfl)(hv:Vu X.env.scope x:=by first|exact Or.inl rfl|exact Or.inr (Or.inl rfl)|exact Or.inr (Or.inr rfl))(hd:(x==("__debug__":Str))=false:=by decide)(ck:(x==("__classdict__":Str))=false:=by decide)(bL:attributeBase (.Name x p) "append" X.env (eval (.Name x p) X.env)=eval (.Name x p) X.env:=by rfl)(bK:(apos.endLine==aH.line)=true:=by rfl)(hs:starEach [e] X.env=[(false,eval e X.env)]:=by rfl)(dA:((backTo aH (starEach [e] X.env)).all (λx=>!x.1)&&(backToKw aH (keywordEach [] X.env)).all (λx=>x.1.isSome)&&decide ([e].length+([]:List Keyword).length+(if([]:List Keyword).isEmpty then 0 else 1)<30))=true:=by rfl)(eU:swapsWith (.Call (.Attribute (.Name x p) "append" apos) [e] [] aH) none pos.line X.env=pure false:=by rfl):PS X (.Expr (.Call (.Attribute (.Name x p) "append" apos) [e] [] aH) pos) (tS X O O OL w (sP i ev)):=PS.imp (Vz (R7 PySem.F.plainAttrs_list PySem.F.slot_list_append PySem.F.type_list_append HP (Zo hN hv hd ck) (ZE he VW hs) bL dA bK hs rfl) eU) λDn σ H⟨F0,F,en,fl,rs,z,k⟩=>by obtain⟨dx,dy,e1,e2,e3⟩:=U4 z;obtain⟨dz,e4,rfl⟩:=Jy e3;obtain⟨q,kk,xs,ds,h1,h2,h3,h4,h5,h6,h7⟩:=rs.own i dx (VB e1) hi;subst h6;cases kk with|some ks=>cases e4|none=>
  simp only[ho,Zm]at h4 e4 e1;refine⟨_,h1,.inl ⟨rfl,xs,SqL.of h4⟩,F0,F,en,dy,rs,e2,λy F1 H1 g1 r1=>?_⟩;simp only[D.app]at e4;split at e4;·rename_i hz;cases e4;have bZ:=rs.grow g1;obtain⟨q',cU,b7,bV,k1,k2,k3,k4,k5,k6,k7⟩:=bZ.own i _ (VB e1) hi;rw[h1]at k1;cases k1;cases cU with|some ks=>cases k6|none=>
   cases k6;simp only[ho]at k4;have hx:b7=xs:=by
    have:=g1.hh _ _ h4;rw[k4]at this;cases this;rfl
   subst hx;refine⟨q,b7,y,rfl,rfl,k4,?_,?_⟩;·rw[VG,k5.length];exact hz
   ·exact k _ F1 _ g1.ff (bZ.write (kk:=none) hi (VB e1) h1 k2 k3 trivial (k5.append (.cons r1 .nil)))
  ·cases e4
def QdI(i:Nat)(hi:i∈O){x:Str}{p apos aH:Pos}{ev:Q8}(he:PE X e (tR X O ev))(hN:X.N[i]?=some x:=by rfl)(hv:Vu X.env.scope x:=by first|exact Or.inl rfl|exact Or.inr (Or.inl rfl)|exact Or.inr (Or.inr rfl))(hd:(x==("__debug__":Str))=false:=by decide)(ck:(x==("__classdict__":Str))=false:=by decide)(bL:attributeBase (.Name x p) "extend" X.env (eval (.Name x p) X.env)=eval (.Name x p) X.env:=by rfl)(bK:(apos.endLine==aH.line)=true:=by rfl)(hs:starEach [e] X.env=[(false,eval e X.env)]:=by rfl)(dA:((backTo aH (starEach [e] X.env)).all (λx=>!x.1)&&(backToKw aH (keywordEach [] X.env)).all (λx=>x.1.isSome)&&decide ([e].length+([]:List Keyword).length+(if([]:List Keyword).isEmpty then 0 else 1)<30))=true:=by rfl)(eU:swapsWith (.Call (.Attribute (.Name x p) "extend" apos) [e] [] aH) none pos.line X.env=pure false:=by rfl):PS X (.Expr (.Call (.Attribute (.Name x p) "extend" apos) [e] [] aH) pos) (tS X O O OL w (G6 i ev)):=PS.imp (Vz (R7 PySem.F.plainAttrs_list PySem.F.slot_list_extend PySem.F.type_list_extend HQ (Zo hN hv hd ck) (R6 he hs) bL dA bK hs rfl) eU) λDn σ H⟨F0,F,en,fl,rs,z,k⟩=>by
  obtain⟨dx,dy,e1,e2,e3⟩:=U4 z;obtain⟨dz,e4,rfl⟩:=Jy e3;obtain⟨q,kk,xs,ds,h1,h2,h3,h4,h5,h6,h7⟩:=rs.own i dx (VB e1) hi;subst h6;cases kk with
  |some ks=>cases e4|none=>
  simp only[ho,Zm]at h4 e4 e1;refine⟨_,h1,.inl ⟨rfl,xs,SqL.of h4⟩,F0,F,en,dy,rs,e2,λy F1 H1 g1 r1=>?_⟩;cases dy with
  |lst es=>
   simp only[D.ext]at e4;split at e4;·rename_i hz;cases e4;obtain⟨q2,ys,rfl,m1,m2⟩:=r1.lst g1.fh;have bZ:=rs.grow g1;obtain⟨q',cU,b7,bV,k1,k2,k3,k4,k5,k6,k7⟩:=bZ.own i _ (VB e1) hi;rw[h1]at k1;cases k1;cases cU with|some ks=>cases k6|none=>
    cases k6;simp only[ho]at k4;have hx:b7=xs:=by
     have:=g1.hh _ _ h4;rw[k4]at this;cases this;rfl
    subst hx;refine⟨q,q2,b7,ys,rfl,rfl,k4,m1,?_,?_⟩;·rw[VG,k5.length,m2.length];exact hz
    ·exact k _ F1 _ g1.ff (bZ.write (kk:=none) hi (VB e1) h1 k2 k3 trivial (k5.append m2))
   ·cases e4|_=>cases e4
end
noncomputable def Qq(K:Fg)(f:List D->Option D):Sp:=λvs H Q _=>∃F ds d,Sm F H/\Reps K F vs ds/\f ds=some d/\∀v F' H',Gr F H F' H'->Rep K F' v d->Q v H'
def Qi(P:Program)(w:World)(K:Fg)(mg:Str->Option Value)(ab:Heap)(k:Nat)(x:Str)(ps:List Str)(sp:Sp):Prop:=∃f fd,FnOk P w K mg ab Yg k f fd ps sp/\Binds K fd ps []/\W.keepIn K (.ref f)=true/\mg x=some (.ref f)
def Df(K:Fg)(mg:Str->Option Value)(x:Str)(st:Stmt)(ps:List Str):Prop:=∃f fd,Fun K x x st f fd/\Binds K fd ps []/\mg x=some (.ref f)
section
variable{X:Cx}{O:List Nat}{e:Expr}{es:List Expr}{p pos:Pos}{x:Str}{ps:List Str}{k:Nat}
def Qdw{f:List D->Option D}{l:Z4}(c:Qi X.prog X.w X.K X.mg X.ab k x ps (Qq X.K f))(hr:Room k X.A)(hg:Gl X x)(ha:PA X (e::es) (tL X O l))(cj:(x==("__debug__":Str))=false:=by decide)(he:starEach (e::es) X.env=(false,eval e X.env)::starEach es X.env:=by rfl)(cR:(backTo pos (starEach es X.env)).any (·.1)=false:=by rfl):PE X (.Call (.Name x p) (e::es) [] pos) (tD X O (eK f l)):=by obtain⟨fa,fd,F,hb,hk,hm⟩:=c;refine PE.imp (Hl F hr hg hm hk hb (.nil:Vals [] []) Hk ha cj he cR) λσ H Q⟨F0,F,en,d,rs,z,k⟩=>?_;obtain⟨ds,e1,e2⟩:=J2 z;refine⟨F0,F,en,ds,rs,e1,λvs F1 H1 g1 r1=>⟨F1,ds,d,g1.fh,?_,e2,λv F' H' g r=>k v F' H' (g1.trans g) r⟩⟩;rw[Zp];exact r1
def YO{ev:Q8}(h:PE X e (tO X O ev)):PE X e (tD X O ev):=by
 rintro aa s σ H Q I⟨F0,F,en,d,rs,z,k⟩;refine Qa (h aa s σ H (λx H'=>∃p kk xs ds F',x=.ref p/\Gr F H F' H'/\H p=none/\F' p=none/\H' p=some (ho kk xs)/\Reps X.K F' xs ds/\d=Zm kk ds/\Vs kk xs) I ⟨F0,F,en,d,rs,z,λp kk xs ds F' H' g n1 n2 hp r e3 hk=>⟨p,kk,xs,ds,F',rfl,g,n1,n2,hp,r,e3,hk⟩⟩) λv s1⟨x,H1,I1,r1,p,kk,xs,ds,F',hx,g,n1,n2,hp,r,e3,hk⟩=>?_;subst hx e3;have s2:Sm F' (upd F' p (hz ((s1.heap.get? p).getD default) kk xs)):=(Sm.refl F').upd _ n2;refine⟨.ref p,_,CJ I1 hp,r1,k _ (upd F' p (hz ((s1.heap.get? p).getD default) kk xs)) _ ⟨g.ff.trans s2,λa o q=>?_,λa o q=>?_,λa o q=>?_⟩ (Rep.hz Jq hk (r.mono s2))⟩;·rw[Qn (λw:a=p=>by rw[w,n1]at q;cases q)];exact g.hh a o q
 ·by_cases w:a=p;·subst w;rw[Jq]at q⊢;exact q
  ·rw[Qn w]at q⊢;exact g.fh a o q
 ·by_cases w:a=p;·subst w;exact .inr n1
  ·rw[Qn w]at q;exact g.fr a o q
end
section
variable{P:Program}{w:World}{K:Fg}{mg:Str->Option Value}{ab:Heap}{x:Str}{st:Stmt}{N ps:List Str}{k:Nat}{b:QF}
def A8{F H:Hp}{vs:List V}{ds:List D}(n:Nat)(s:Sm F H)(r:Reps K F vs ds):RS K H ⟨F,H,none⟩ F H (vs.map some++List.replicate (n-vs.length) none) (sD n ds) []where
 fh:=s
 hh:=.refl H
 ff:=.refl F
 fr:=λ_ _ h=>.inl h
 slot:=λi d h _=>by
  unfold sD at h;rcases V1 i ds.length with hi|hi
  ·rw[YH (by rw[Qm];exact hi),Yb,Qk hi]at h;have hd:ds[i]?=some d:=by rw[Qk hi];simpa using h
   obtain⟨v,h1,h2⟩:=r.get hd;refine⟨v,?_,h2⟩;rw[YH (by rw[Qm,r.length];exact hi),Yb,h1];rfl
  ·rw[Vk (by rw[Qm];exact hi),RA]at h;split at h<;>cases h
 own:=λi d _ h=>by cases h
 dis:=λi j p _ _ h=>by cases h
 pin:=λi h=>by cases h
 len:=by unfold sD;simp[r.length]
def okC(h:Df K mg x st ps)(S:FnScope N ps (Qp st)){O' OL:List Nat}(hb:∀(f:Addr)(az:Value)(A:Around)(ag:List Env)(s:Shared)(H:Hp)(E:XK),Room k (A.deeper (envOfC x (Qp st) s.heap.objs.size f az))->PSs (V9 Yg P w K mg ab N x (Qp st) f az A ag s H E).nox (Yp st) (tS (V9 Yg P w K mg ab N x (Qp st) f az A ag s H E).nox [] O' OL false b)):Qi P w K mg ab (k+1) x ps (Qq K (Qj N.length ps.length b)):=by
 obtain⟨f,fd,F,fc,hm⟩:=h;refine⟨f,fd,F.ok S (λvs H Q E⟨F,ds,d,s,r,e,_⟩=>?_) (λaz A ag s H vs Q E hr⟨Fz,ds,d,sm,r,e,k⟩=>?_),fc,F.kp,hm⟩
 ·unfold Qj at e;split at e;·rename_i z;rw[r.length];exact z
  ·cases e
 ·refine⟨_,hb f az A ag s H E hr,?_⟩;unfold Qj at e;split at e;·rename_i z;have e':Ub (b (sD N.length ds))=some d:=e;cases q:b (sD N.length ds)with
   |none=>rw[q]at e';cases e'|some fl=>
    rw[q]at e';have cV:Wc N vs=vs.map some++List.replicate (N.length-vs.length) none:=rfl;rw[cV];refine⟨⟨Fz,H,none⟩,Fz,sD N.length ds,fl,A8 N.length sm r,q,?_⟩;cases fl with
    |nx en=>cases e';exact λσ' F' H' s' rs=>k .non F' H' rs.ex.gr .non|rt d'=>cases e';exact λv F' H' x r=>k v F' H' x.gr r|bk en=>cases e'|ct en=>cases e'
  ·cases e
end
structure ItOk(K:Fg)(F:Hp)(J:It)(ds:List D):Prop where
 go:∀i F' H',Sm F F'->Sm F' H'->i<ds.length->J.go i H'
 yld:∀i F' H' x H2,Sm F F'->Sm F' H'->i<ds.length->J.yld i H' x H2->∃F2 d,Gr F' H' F2 H2/\ds[i]?=some d/\Rep K F2 x d
 stop:∀i F' H',Sm F F'->Sm F' H'->ds.length<=i->J.stop i H'
noncomputable def tI(X:Cx)(O:List Nat)(it:ZH):TI:=λσ H R=>∃F0 F e ds,RS X.K X.H₀ F0 F H σ e O/\it e=some ds/\∀F' H' J,Gr F H F' H'->ItOk X.K F' J ds->R J H'
section
variable{X:Cx}{O OL:List Nat}{w:Bool}{tg iter:Expr}{body:List Stmt}{pos:Pos}
def PI.imp{t t':TI}(h:PI X tg iter t)(q:∀σ H R,t' σ H R->t σ H R):PI X tg iter t':=λaa s σ H R I z=>h aa s σ H R I (q σ H R z)
def QaK{o:Option Fl}{k:QF}{fl:Fl}(h:Vp o k=some fl):∃f,o=some f/\Vp (some f) k=some fl:=by cases o with|none=>cases h|some f=>exact⟨f,rfl,h⟩
def Ju{it:ZH}{g:Jk}{b:QF}(hc:X.calm=true)(hp:PassesOwn (model X.prog X.w) X.A X.env X.xe)(hi:PI X tg iter (tI X O it))(hg:PG X tg (tG X O O g))(hb:PSs X body (tS X O O O w b))(hs:∀x,foldedSetIterable iter X.env x=pure x:=by intro _;rfl):PS X (.For tg iter body [] pos) (tS X O O OL w (Qz it g b)):=PS.imp (Bm hp hc hi hg hb hs) λDn σ H⟨F0,F,en,fl,rs,z,k⟩=>by
  obtain⟨ds,e1,e2⟩:=J2 z;refine⟨F0,F,en,ds,rs,e1,λF1 H1 J g1 io=>?_⟩;refine⟨λi m σ' H'=>m=ds.length-i/\i<=ds.length/\∃F' bg,Sm F1 F'/\RS X.K X.H₀ F0 F' H' σ' bg O/\VP g b (ds.drop i) bg=some fl,⟨ds.length,by omega,by omega,F1,en,.refl F1,rs.grow g1,by rw[drop_zero];exact e2⟩,?_⟩;rintro i m σ' H'⟨rfl,hle,F',bg,s',bE,e3⟩;rcases V1 i ds.length with hi|hi
  ·refine .inr ⟨io.go i F' H' s' bE.fh hi,λσ2 H2=>∃m',m'<ds.length-i/\m'=ds.length-(i+1)/\i+1<=ds.length/\∃F' bg,Sm F1 F'/\RS X.K X.H₀ F0 F' H2 σ2 bg O/\VP g b (ds.drop (i+1)) bg=some fl,λσ2 H2⟨m',h1,h2⟩=>⟨m',h1,h2⟩,λx H2 hy=>?_⟩;obtain⟨F2,d,g2,hd,r2⟩:=io.yld i F' H' x H2 s' bE.fh hi hy;have gc:ds.drop i=d::ds.drop (i+1):=by
    rw[RD hi];rw[Qk hi]at hd;cases hd;rfl
   rw[gc]at e3;obtain⟨f,e4,e5⟩:=QaK (show Vp ((g d bg).bind b) (VP g b (ds.drop (i+1)))=some fl from e3);obtain⟨gn,e6,e7⟩:=J2 (show((g d bg).bind λx=>b x)=some f from e4);refine⟨F0,F2,bg,d,gn,bE.grow g2,r2,e6,λσ3 H3 F3 s3 cN=>?_⟩;refine⟨F0,F3,gn,f,cN,e7,?_⟩;have sA:Sm F1 F3:=(s'.trans g2.ff).trans s3.ff;cases f with
   |nx e=>exact λσ4 F4 H4 s4 cF=>⟨_,by omega,rfl,hi,F4,e,sA.trans s4,cF,e5⟩|ct e=>exact λσ4 F4 H4 s4 cF=>⟨_,by omega,rfl,hi,F4,e,sA.trans s4,cF,e5⟩|bk e=>cases e5;exact λσ4 F4 H4 s4 cF=>k σ4 F4 H4 (g1.ff.trans (sA.trans s4)) cF|rt d=>cases e5;exact k
  ·have hz:ds.drop i=[]:=Oi hi;rw[hz]at e3;cases e3;exact .inl ⟨io.stop i F' H' s' bE.fh hi,k σ' F' H' (g1.ff.trans s') bE⟩
def G5(lo:Int)(n:Nat):(rD lo n).length=n:=by unfold rD;simp
def Jn{ev:Q8}(h:PE X iter (tD X O ev)):PI X tg iter (tI X O (Ql ev)):=PI.imp (Bf h) λσ H R⟨F0,F,en,ds,rs,z,k⟩=>by obtain⟨d,e1,e2⟩:=J2 z;refine⟨F0,F,en,d,rs,e1,λv F1 H1 g1 r1=>?_⟩;have fin:∀(a:Addr)(xs:List V),SqL X.K F1 a xs->Reps X.K F1 xs ds->R (Oz X.K a) H1:=λa xs ha r=>k F1 H1 _ g1 ⟨λi F' H' s s' hi=>by obtain⟨v,h1,_⟩:=r.get (Qk hi);exact⟨xs,v,s'.sqL (s.sqL ha),h1⟩,λi F' H' x H2 s s' hi⟨hH,hx⟩=>by subst hH;have cQ:=hx xs (s'.sqL (s.sqL ha));obtain⟨d,h1,h2⟩:=r.getV cQ;exact⟨F',d,.refl s',h1,h2.mono s⟩,λi F' H' s s' hi=>⟨xs,s'.sqL (s.sqL ha),by rw[r.length];exact hi⟩⟩;cases r1 with|@lst a xs bV ha r=>cases e2;exact⟨a,rfl,⟨xs,SqL.of (g1.fh _ _ ha)⟩,fin a xs (SqL.of ha) r⟩|@scr a ns ha=>cases e2;exact⟨a,rfl,⟨_,g1.fh.sqL ha⟩,fin a _ ha (Reps.ints ns)⟩|_=>cases e2
def Wm{a:Expr}{p:Pos}{ev:Q8}(hg:Gl X "range")(hm:X.mg "range"=none)(ha:PE X a (tR X O ev))(hs:starEach [a] X.env=[(false,eval a X.env)]:=by rfl):PI X tg (.Call (.Name "range" p) [a] [] pos) (tI X O (ZM ev)):=PI.imp (Qig hg hm (R6 ha hs) hs) λσ H R⟨F0,F,en,ds,rs,z,k⟩=>by obtain⟨d,e1,e2⟩:=J2 z;cases d with
  |int n=>
   simp only[D.rng]at e2;split at e2
   ·rename_i hz;cases e2;refine⟨F0,F,en,.int n,rs,e1,λv F1 H1 g1 r1=>⟨n,by rw[r1.int],by omega,by omega,k F1 H1 _ g1 ⟨λi F' H' s s' hi=>?_,λi F' H' x H2 s s' hi⟨hH,hx⟩=>?_,λi F' H' s s' hi=>?_⟩⟩⟩;·rw[G5]at hi;exact hi
    ·subst hH hx;have hi':i<n.toNat:=by rw[G5]at hi;exact hi
     exact⟨F',.int (0+(i:Int)),.refl s',by simp[rD,hi'],.int _⟩
    ·rw[G5]at hi;exact hi
   ·cases e2|_=>cases e2
end
section
variable{P:Program}{w:World}{K:Fg}{mg:Str->Option Value}{ab:Heap}{x:Str}{st:Stmt}{N ps:List Str}{k:Nat}{b:QF}
def okF{f:Addr}{fd:FuncData}(F:Fun K x x st f fd)(S:FnScope N ps (Qp st)){O' OL:List Nat}(hb:∀(az:Value)(A:Around)(ag:List Env)(s:Shared)(H:Hp)(E:XK),Room k (A.deeper (envOfC x (Qp st) s.heap.objs.size f az))->PSs (V9 Yg P w K mg ab N x (Qp st) f az A ag s H E).nox (Yp st) (tS (V9 Yg P w K mg ab N x (Qp st) f az A ag s H E).nox [] O' OL false b)):FnOk P w K mg ab Yg (k+1) f fd ps (Qq K (Qj N.length ps.length b)):=by
 refine F.ok S (λvs H Q E⟨F,ds,d,s,r,e,_⟩=>?_) (λaz A ag s H vs Q E hr⟨Fz,ds,d,sm,r,e,k⟩=>?_)
 ·unfold Qj at e;split at e;·rename_i z;rw[r.length];exact z
  ·cases e
 ·refine⟨_,hb az A ag s H E hr,?_⟩;unfold Qj at e;split at e
  ·rename_i z;have e':Ub (b (sD N.length ds))=some d:=e;cases q:b (sD N.length ds)with
   |none=>rw[q]at e';cases e'|some fl=>
    rw[q]at e';have cV:Wc N vs=vs.map some++List.replicate (N.length-vs.length) none:=rfl;rw[cV];refine⟨⟨Fz,H,none⟩,Fz,sD N.length ds,fl,A8 N.length sm r,q,?_⟩;cases fl with
    |nx en=>cases e';exact λσ' F' H' s' rs=>k .non F' H' rs.ex.gr .non|rt d'=>cases e';exact λv F' H' x r=>k v F' H' x.gr r|bk en=>cases e'|ct en=>cases e'
  ·cases e
section
variable{h:Heap}{f:Addr}{oc kV dc pm cd ct:Value}{od an:Option Addr}{di:Array (Option Value)}
def df_mk(X:K.In h)(G:h.Ns mainGlobals mg)(hb:∀(kV doc pm:Value)(an:Option Addr)(az ct:Value)(us:List Value),us.length=ps.length->bindArgs (W.fnOf x x (Wl st) (Yp st) (Qp st) .none kV doc pm an az ct) ⟨us,[]⟩=pure (ps.zip us))(a:W.nsIn K mainGlobals x=some (some (.ref f)))(l:K.lookup f=some ⟨oc,od,.func (W.fnOf x x (Wl st) (Yp st) (Qp st) .none kV dc pm an cd ct),di⟩)(c:W.codeIn K cd x=true)(k:W.keepIn K (.ref f)=true):Df K mg x st ps:=⟨f,_,Iu l c k,(Iu l c k).binds hb,W.mg_of X G a⟩
def gint_mk{v:Value}{i:Int}(X:K.In h)(G:h.Ns mainGlobals mg)(a:W.nsIn K mainGlobals x=some (some v))(e:∃t,v=.int i t):∃t,mg x=some (.int i t):=by obtain⟨t,rfl⟩:=e;exact⟨t,W.mg_of X G a⟩
def law_mk{fa:Addr}{y:Str}(X:K.In h)(G:h.Ns mainGlobals mg)(mG:mg x=some (.ref fa))(hb:∀(kV doc pm:Value)(an:Option Addr)(az ct:Value)(u:Value),bindArgs (W.fnOf x x (Wl st) (Yp st) (Qp st) .none kV doc pm an az ct) ⟨[u],[]⟩=pure [(y,u)])(a:W.nsIn K mainGlobals x=some (some (.ref f)))(l:K.lookup f=some ⟨oc,od,.func (W.fnOf x x (Wl st) (Yp st) (Qp st) .none kV dc pm an cd ct),di⟩)(c:W.codeIn K cd x=true)(k:W.keepIn K (.ref f)=true):∃fd,(∀(s:Shared)(u:Value),BindsTo s fd ⟨[u],[]⟩ [(y,u)])/\Fun K x x st fa fd:=by have e:=mG.symm.trans (W.mg_of X G a);cases e;exact⟨_,λs u=>.of_eq (hb _ _ _ _ _ _ u),Iu l c k⟩
end
end
def Qfn(K:Fg)(f:List D->Option D)(h:∀ns,f [.scr ns]=some (.bl true))(H:Hp)(a:Addr)(ns:List Int)(hS:SqL K H a (ns.map V.int)):Qq K f [.ref a] H (λv _=>v=.bl true) λ_ _ _=>False:=⟨H,[.scr ns],.bl true,.refl H,.cons (.scr hS) .nil,h ns,λv F' H' g r=>by cases r;rfl⟩
def Qe6(K:Fg):Tz K "int":=λd hd=>by cases d<;>first|rfl|exact absurd rfl (hd _)
def Qe5(K:Fg):Tz K "bool":=λd hd=>by cases d<;>first|rfl|exact absurd rfl (hd _)
def Qe8(K:Fg):Tz K "tuple":=λd hd=>by cases d<;>first|rfl|exact absurd rfl (hd _)
def Cb(K:Fg):Tz K "list":=λd hd=>by cases d<;>first|rfl|exact absurd rfl (hd _)
def Qe7(K:Fg):Tz K "str":=λd hd=>by cases d<;>first|rfl|exact absurd rfl (hd _)
section
variable{X:Cx}{aa:List (Addr×Obj)}{σ:L2.St}{H:Hp}{s:Shared}{h':Heap}
def QaI{t':Nat}{ch:List Addr}{p:Addr}{o:HO}(I:Inv X aa σ H s)(k:∀b u,b∉ch->s.heap.get? b=some u->h'.get? b=some u)(hf:∀b∈ch,Vr X aa H b)(hp:s.heap.objs.size<=p)(new:ObjOk X.prog X.w (upd H p o) h' p o):Inv X aa σ (upd H p o) {s with heap:=h',toks:=t'}:=by
 have hn:H p=none:=I.hok.fresh hp;have eg:∀b u,H b=some u->b∉ch:=λb u e z=>by rw[(hf b z).1]at e;cases e
 refine I.step (g':=s.gens) (d':=s.drawn) (ch:=ch) (λb hb=>?_) (λb o _ _ hc e _=>k b o hc e) (λb o _ _ hc e _=>⟨o.slots,k b o hc e⟩) (λb o _ e n=>?_) (λb o hc e=>⟨o,k b o hc e⟩) (λb xs e=>?_) (λb xs u e=>?_) (λb ps e=>⟨#[],?_⟩) (λm hm=>?_) (λb u e=>?_) I.bare
 ·obtain⟨f0,f1,f2,f3,f4,f5⟩:=hf b hb;exact⟨f3,f1,f4,f5⟩
 ·rw[Qn (Y3 (VE (Heap.lt_size e) hp))];exact n
 ·rw[Qn (WQ e hn)];exact e
 ·rw[Qn (WQ e hn)];exact e
 ·rw[Qn (WQ e hn),e];simp
 ·obtain⟨o,es,ep,ho,r⟩:=hm;exact⟨o,es,ep,k _ o (λz=>(hf _ z).2.1 rfl) ho,r⟩
 ·by_cases hb:b=p;·subst hb;rw[Jq]at e;cases e;exact new
  ·rw[Qn hb]at e;refine(I.hok b u e).stay (λc v hc q=>k c v ?_ q) (λc q=>by rw[Qn (WQ q hn)];exact q) λc xs q=>by rw[Qn (WQ q hn)];exact q
   rcases hc with z|z;·rw[z];exact eg b u e
   ·exact eg c _ z
def QaH{t':Nat}{ch:List Addr}(I:Inv X aa σ H s)(k:∀b u,b∉ch->s.heap.get? b=some u->h'.get? b=some u)(hf:∀b∈ch,Vr X aa H b):Inv X aa σ H {s with heap:=h',toks:=t'}:=by
 have eg:∀b u,H b=some u->b∉ch:=λb u e z=>by rw[(hf b z).1]at e;cases e
 refine I.step (g':=s.gens) (d':=s.drawn) (ch:=ch) (λb hb=>?_) (λb o _ _ hc e _=>k b o hc e) (λb o _ _ hc e _=>⟨o.slots,k b o hc e⟩) (λ_ _ _ _ n=>n) (λb o hc e=>⟨o,k b o hc e⟩) (λ_ _ e=>e) (λ_ _ _ e=>e) (λb ps e=>⟨#[],by rw[e];simp⟩) (λm hm=>?_) (λb u e=>?_) I.bare
 ·obtain⟨f0,f1,f2,f3,f4,f5⟩:=hf b hb;exact⟨f3,f1,f4,f5⟩
 ·obtain⟨o,es,ep,ho,r⟩:=hm;exact⟨o,es,ep,k _ o (λz=>(hf _ z).2.1 rfl) ho,r⟩
 ·refine(I.hok b u e).stay (λc v hc q=>k c v ?_ q) (λ_ q=>q) λ_ _ q=>q;rcases hc with z|z;·rw[z];exact eg b u e
  ·exact eg c _ z
end
def Lb(K:Fg)(a:Addr):It:=⟨λi H=>∃xs x,SqL K H a xs/\xs[i]?=some x,λi H x H'=>∃p y,H p=none/\x=.ref p/\H'=upd H p (.tup [.int i,y])/\∀xs,SqL K H a xs->xs[i]?=some y,λi H=>∃xs,SqL K H a xs/\xs.length<=i⟩
def Qj6{P:Program}{w:World}{K:Fg}{elts:List Expr}{x1:Nat}{pos:Pos}(a e it:Addr)(iZ:e≠it):Turn P w K (.Tuple elts x1 pos) (Lb K a) [e,it] e (λi h=>∃old,IsEnum h e it i old/\h.IsListIter it a i)where
 mem:=by simp
 obj:=λi h st b hb=>by
  obtain⟨old,he,o,ho,c,d⟩:=st;rcases q_5.mp hb with z|z;·subst z;exact⟨_,he,λv z=>by have z':Data.fields _=Data.cell v:=z;cases z'⟩
  ·have z:=q_1.mp z;subst z;exact⟨o,ho,λv z=>by rw[d]at z;cases z⟩
 keep:=λi h h' st k=>by
  obtain⟨old,he,hi⟩:=st;exact⟨old,k e (by simp) _ he,hi.at λo q=>k it (by simp) o q⟩
 item:=by
  intro X hP hw hK hc i aa s σ H E I hf st hg;subst hP hw hK;obtain⟨old,he,hi⟩:=st;obtain⟨xs,x,hq,hx⟩:=hg;obtain⟨its,rv,p,hz⟩:=I.list hq;obtain⟨u,hu,ru⟩:=rv.get hx;refine wpAny_pyNext_enum_item he hi p.isList (x:=u) (by simpa using hu) iZ λh' eo hi' ht hsz kk=>?_;refine⟨_,rfl,wpAny_letOwnedTupleGo_enum eo λh2 cW sb=>?_⟩;have k2:∀b o,b∉[e,it]->s.heap.get? b=some o->h2.get? b=some o:=λb o hb q=>by
   have h1:b≠e:=λz=>hb (by simp[z]);have h3:b≠it:=λz=>hb (by simp[z]);exact(sb.2 b h1).trans (kk b o h1 h3 q)
  have fe:H s.heap.objs.size=none:=I.hok.fresh (Qx _);have le:e<s.heap.objs.size:=Heap.lt_size he;have lV:h2.get? s.heap.objs.size=some {cls:=.type "tuple",data:=.seq #[.int i s.toks,u]}:=(sb.2 _ (ne_of_gt le)).trans ht;have li:it<s.heap.objs.size:=by obtain⟨o,ho,_⟩:=hi;exact Heap.lt_size ho
  have I2:Inv X aa σ (upd H s.heap.objs.size (.tup [.int i,x])) {s with heap:=h2,toks:=s.toks+1}:=QaI (t':=s.toks+1) I k2 hf (Qx _) (show ObjOk X.prog X.w _ h2 _ (.tup [.int i,x])from⟨by show 2<=sizeLine;decide,[.int i s.toks,u],.cons ⟨_,rfl⟩ (.cons ru .nil),⟨_,lV,rfl,_,rfl⟩⟩);refine⟨.ref s.heap.objs.size,_,I2,rfl,⟨_,x,fe,rfl,rfl,λys hy=>by rw[I.list_inj hy hq];exact hx⟩,⟨u,cW,?_⟩,λb hb=>?_⟩;·exact hi'.at λo q=>(sb.2 it (Ne.symm iZ)).trans q
  ·have:b≠s.heap.objs.size:=by
    rcases q_5.mp hb with z|z;·rw[z];exact Y3 le
    ·rw[q_1.mp z];exact Y3 li
   rw[Qn this];exact(hf b hb).1
 done:=by
  intro X hP hw hK hc i aa s σ H E I hf st hg;subst hP hw hK;obtain⟨old,he,hi⟩:=st;obtain⟨xs,hq,hx⟩:=hg;obtain⟨its,rv,p,hz⟩:=I.list hq;have hl:=rv.length;exact wpAny_pyNext_enum_end (I.ok.hd hc) he hi p.isList (by simp;omega) λh' eb=>⟨rfl,QaH (t':=s.toks) I (λb o hb q=>eb b o (λz=>hb (by simp[z])) q) hf⟩
 self:=λ_ _ _ _ _ st h=>by obtain⟨old,he,_⟩:=st;exact wpAny_pyIter_enum he h
section
variable{X:Cx}{O:List Nat}{a:Expr}{p pos:Pos}
def QeA(K:Fg)(ta:TA):TI:=λσ H R=>ta σ H λvs H1=>∃l,vs=[.ref l]/\(∃xs,SqL K H1 l xs)/\R (Lb K l) H1
def Qif{elts:List Expr}{x1:Nat}{cH:Pos}{ta:TA}(hg:Gl X "enumerate")(hm:X.mg "enumerate"=none)(ha:PA X [a] ta)(hs:starEach [a] X.env=[(false,eval a X.env)]:=by rfl):PI X (.Tuple elts x1 cH) (.Call (.Name "enumerate" p) [a] [] pos) (QeA X.K ta):=by
 intro aa s σ H R I h;refine Call_ (Sr I hg hm boot_enumerate (PyProof.Rows.callWith_type1 (Qa (ha pos aa s σ H _ I h) λus s1⟨vs,H1,I1,r1,q1⟩=>?_) hs rfl));obtain⟨l,e,⟨xs,hq⟩,q⟩:=q1;subst e;obtain⟨u,rfl,rx⟩:=Xy r1;cases rx;obtain⟨its,rv,pl,hz⟩:=I1.list hq;refine call_enumerate_list pl.isList λh' he hi hsz hk=>?_;have I2:Inv X aa σ H1 {s1 with heap:=h'}:=I1.kept (t':=s1.toks) hk;have fe:∀b,s1.heap.objs.size<=b->H1 b=none:=λb hb=>I1.hok.fresh hb;refine wpAny_pyIter_enum he ⟨_,[s1.heap.objs.size+1,s1.heap.objs.size],_,_,H1,rfl,I2,Qj6 l _ _ (Nat.succ_ne_self _),⟨.none,he,hi⟩,λb hb=>?_,q⟩;have:s1.heap.objs.size<=b:=by
  rcases q_5.mp hb with z|z;·rw[z];exact le_succ _
  ·rw[q_1.mp z];exact Qx _
 exact I1.fpOk this (fe b this)
theorem DT:∀(ds:List D)(n i:Nat)(d:D),ds[i]?=some d->(WI n ds)[i]?=some (.tup [.int ((n+i:Nat):Int),d])|[],_,_,_,h=>by simp at h|d::ds,n,0,_,h=>by simp at h;subst h;simp[WI]|d::ds,n,i+1,x,h=>by have:=DT ds (n+1) i x (by simpa using h);rw[WI,W4,this,show n+1+i=n+(i+1)by omega]
theorem Il:∀(ds:List D)(n:Nat),(WI n ds).length=ds.length|[],_=>rfl|d::ds,n=>by rw[WI,JM,JM,Il]
def NM{elts:List Expr}{x1:Nat}{cH:Pos}{ev:Q8}(hg:Gl X "enumerate")(hm:X.mg "enumerate"=none)(ha:PE X a (tD X O ev))(hs:starEach [a] X.env=[(false,eval a X.env)]:=by rfl):PI X (.Tuple elts x1 cH) (.Call (.Name "enumerate" p) [a] [] pos) (tI X O (Xj ev)):=PI.imp (Qif hg hm (ZE ha VW hs) hs) λσ H R⟨F0,F,en,kG,rs,z,k⟩=>by obtain⟨d,e1,e2⟩:=J2 z;obtain⟨ds,e3,rfl⟩:=Jy e2;refine⟨F0,F,en,d,rs,e1,λv F1 H1 g1 r1=>?_⟩;have fin:∀(l:Addr)(xs:List V),SqL X.K F1 l xs->Reps X.K F1 xs ds->R (Lb X.K l) H1:=λl xs hl r=>k F1 H1 _ g1 ⟨λi F' H' s s' hi=>by rw[Il]at hi;obtain⟨v,h1,_⟩:=r.get (Qk hi);exact⟨xs,v,s'.sqL (s.sqL hl),h1⟩,λi F' H' x H2 s s' hi hy=>by obtain⟨p,y,hp,rfl,rfl,hx⟩:=hy;have cQ:=hx xs (s'.sqL (s.sqL hl));obtain⟨d,h1,h2⟩:=r.getV cQ;have g:=Gr.new s' hp (.tup [.int i,y]);refine⟨_,.tup [.int i,d],g,?_,.tup Jq (.cons (.int _) (.cons ((h2.mono s).mono g.ff) .nil))⟩;have:=DT ds 0 i d h1;rw[this,zero_add],λi F' H' s s' hi=>⟨xs,s'.sqL (s.sqL hl),by rw[Il]at hi;rw[r.length];exact hi⟩⟩;cases r1 with|@lst l xs bV hl r=>cases e3;exact⟨l,rfl,⟨xs,SqL.of (g1.fh _ _ hl)⟩,fin l xs (SqL.of hl) r⟩|@scr l ns hl=>cases e3;exact⟨l,rfl,⟨_,g1.fh.sqL hl⟩,fin l _ hl (Reps.ints ns)⟩|_=>cases e3
end
section
variable{env:Env}
theorem IW:∀(names:List (Str×NameKind))(cs:List (Str×Addr)),(∀x∈names,x.2=.free->∃c,env.cells.lookup x.1=some c)->(∀x c,cs.lookup x=some c->env.cells.lookup x=some c)->∃cl,(forIn (m:=Sem) names cs ((λx r=>match x with|(name,kind)=>if(kind==NameKind.free)=true then do let c<-cellOf env name;pure (ForInStep.yield ((name,c)::r))else pure (ForInStep.yield r)):(Str×NameKind)->List (Str×Addr)->Sem (ForInStep (List (Str×Addr)))))=pure cl/\(∀x c,cl.lookup x=some c->env.cells.lookup x=some c)/\∀x,((∃c,cs.lookup x=some c)\/(x,NameKind.free)∈names)->∃c,cl.lookup x=some c
 |[],cs,_,hP=>⟨cs,rfl,hP,λx h=>by
   rcases h with h|h;·exact h
   ·cases h⟩|(n,k)::names,cs,hf,hP=>by
  rw[List.forIn_cons];by_cases hk:k=.free
  ·subst hk;obtain⟨c,hc⟩:=hf (n,.free) JN rfl;have cE:cellOf env n=pure c:=by unfold cellOf;rw[hc]
   obtain⟨cl,h1,h2,h3⟩:=IW names ((n,c)::cs) (λx hx=>hf x (JH _ hx)) (λx c' h=>by
    rw[X0]at h;split at h
    ·rename_i z;cases h;rw[eq_of_beq z];exact hc
    ·exact hP x c' h);refine⟨cl,?_,h2,λx h=>h3 x ?_⟩
   ·rw[<-h1];simp only[beq_self_eq_true,if_true,cE];rfl
   ·rcases h with⟨c',h⟩|h
    ·left;rw[X0];split;·exact⟨_,rfl⟩
     ·exact⟨c',h⟩
    ·rcases q_5.mp h with h|h
     ·cases h;left;exact⟨c,by simp⟩
     ·exact .inr h
  ·have hb:(k==NameKind.free)=false:=by simpa using hk
   obtain⟨cl,h1,h2,h3⟩:=IW names cs (λx hx=>hf x (JH _ hx)) hP;refine⟨cl,?_,h2,λx h=>h3 x ?_⟩
   ·rw[<-h1];simp only[hb,Bool.false_eq_true,if_false];rfl
   ·rcases h with h|h;·exact .inl h
    ·rcases q_5.mp h with h|h
     ·cases h;exact absurd rfl hk
     ·exact .inr h
def Qb0{scope:Scope}(hf:∀x∈scope.names,x.2=.free->∃c,env.cells.lookup x.1=some c):∃cl,closureFor scope env=pure cl/\(∀x c,cl.lookup x=some c->env.cells.lookup x=some c)/\∀x,(x,NameKind.free)∈scope.names->∃c,cl.lookup x=some c:=by obtain⟨cl,h1,h2,h3⟩:=IW scope.names [] hf (λx c h=>by cases h);refine⟨cl,?_,h2,λx h=>h3 x (.inr h)⟩;have e:closureFor scope env=((forIn (m:=Sem) scope.names [] ((λx r=>match x with|(name,kind)=>if(kind==NameKind.free)=true then do let c<-cellOf env name;pure (ForInStep.yield ((name,c)::r))else pure (ForInStep.yield r)):(Str×NameKind)->List (Str×Addr)->Sem (ForInStep (List (Str×Addr)))))>>=λr=>pure r):=rfl;rw[e,h1];rfl
theorem HK(env:Env):∀(names:List (Str×NameKind))(x:Str),(names.map λ(n,k)=>if(k==NameKind.free&&env.scope.kind==.function&&env.kindOf n==some .cell)then(n,NameKind.cell)else(n,k)).lookup x=(names.lookup x).map λk=>if(k==NameKind.free&&env.scope.kind==.function&&env.kindOf x==some .cell)then NameKind.cell else k
 |[],_=>rfl|(n,k)::names,x=>by
  have ih:=HK env names x;rw[ZQ,X0];show List.lookup x ((if(k==NameKind.free&&env.scope.kind==.function&&env.kindOf n==some .cell)=true then(n,NameKind.cell)else(n,k))::_)=_;cases hx:x==n with
  |true=>
   have:=eq_of_beq hx;subst this;by_cases hc:(k==NameKind.free&&env.scope.kind==.function&&env.kindOf x==some .cell)=true
   ·rw[if_pos hc,X0,hx];rw[X0,hx];simp only[WX];rw[if_pos hc]
   ·rw[if_neg hc,X0,hx];rw[X0,hx];simp only[WX];rw[if_neg hc]|false=>
   by_cases hc:(k==NameKind.free&&env.scope.kind==.function&&env.kindOf n==some .cell)=true;·rw[if_pos hc,X0,X0,hx];exact ih
   ·rw[if_neg hc,X0,X0,hx];exact ih
theorem mem_of_lookup{α β:Type}[BEq α][LawfulBEq α]:∀{l:List (α×β)}{x:α}{y:β},l.lookup x=some y->(x,y)∈l
 |[],_,_,h=>by cases h|(a,b)::l,x,y,h=>by
  rw[X0]at h;split at h;·rename_i z;cases h;rw[eq_of_beq z];exact JN
  ·exact JH _ (mem_of_lookup h)
end
noncomputable def TC(X:Cx)(scope:Scope)(N':List Str)(cl:List (Str×Addr))(C:Addr)(ex:List Addr)(s:Shared)(H:Hp)(pn:List (Addr×Obj)):Cx:={X with N:=N',env:=compEnvC scope cl C X.env,s₀:=s,H₀:=H,ag:=X.stack,ex:=ex,fn:=λ_=>false,pn:=pn,xe:=λ_ _=>False}
structure CompSc(X:Cx)(scope:Scope)(n:Nat)(N':List Str)(caps:List Nat):Prop where
 kind:scope.kind=.function
 nocell:∀y∈scope.names,y.2≠.cell
 loc:∀x∈scope.names,x.2=.local->scope.names.lookup x.1=some .local
 fre:∀x∈scope.names,x.2=.free->X.env.kindOf x.1=some .cell\/X.env.kindOf x.1=some .free
 len:N'.length=n+caps.length
 cap:∀(j i:Nat),caps[j]?=some i->∃x,N'[n+j]?=some x/\X.N[i]?=some x/\scope.names.lookup x=some .free
 nd:N'.Nodup
section
variable{X:Cx}{aa:List (Addr×Obj)}{σ:L2.St}{H:Hp}{s:Shared}{scope:Scope}{n:Nat}{N':List Str}{caps:List Nat}{cl:List (Str×Addr)}{C:Addr}{ex:List Addr}
def Qb2(S:CompSc X scope n N' caps){x:Str}(h:(compEnvC scope cl C X.env).kindOf x=some .cell\/(compEnvC scope cl C X.env).kindOf x=some .free):(x,NameKind.free)∈scope.names:=by have e:(compEnvC scope cl C X.env).kindOf x=(scope.names.lookup x).map λk=>if(k==NameKind.free&&X.env.scope.kind==.function&&X.env.kindOf x==some .cell)then NameKind.cell else k:=HK X.env scope.names x;rw[e]at h;cases q:scope.names.lookup x with|none=>rw[q]at h;rcases h with h|h<;>cases h|some k=>have m:=mem_of_lookup q;cases k with|free=>exact m|cell=>exact absurd rfl (S.nocell _ m)|_=>rw[q]at h;rcases h with h|h<;>simp at h
def Qb1(I:Inv X aa σ H s)(S:CompSc X scope n N' caps)(hC:s.heap.objs.size<=C)(de:∀x c,cl.lookup x=some c->X.env.cells.lookup x=some c)(cY:∀x,(x,NameKind.free)∈scope.names->∃c,cl.lookup x=some c)(hex:∀b∈ex,Vr X aa H b/\b≠C)(pn:List (Addr×Obj)):(TC X scope N' cl C ex s H pn).Ok where
 mod:=I.ok.mod
 kind:=S.kind
 glob:=I.ok.glob
 blt:=I.ok.blt
 above:=hC
 inj:=λx y c h1 h2=>I.ok.inj x y c (de x c h1) (de y c h2)
 has:=λx h=>cY x (Qb2 (cl:=cl) (C:=C) S h)
 cab:=λx c h=>by cases h
 hd:=I.ok.hd
 frames:=I.ok.frames
 stk:=.inl rfl
 exf:=λb hb=>⟨(hex b hb).2,λx c h=>(hex b hb).1.2.2.2.2.1 x c (de x c h)⟩
 bs:=I.bs
 bsz:=ZP I.ok.bsz I.sz
 noex:=λb o e hb=>by
  rcases(hex b hb).1.2.2.2.1 with z|z;·exact I.ok.noex b o e z
  ·exact absurd (VE (Heap.lt_size e) (ZP I.ok.bsz z)) (lt_irrefl _)
 exfs:=λb hb hf=>by
  obtain⟨⟨_,h1,h2,_⟩,_⟩:=hex b hb;rcases q_5.mp (I.stkSub b hf)with z|z;·exact h1 z
  ·exact h2 z
 funs:=I.stack
 frf:=I.stkFree
end
def Qb3{prog:Program}{w:World}{A:Around}{R:Result->Shared->Prop}{s:Shared}{elt target iter:Expr}{ifs:List Expr}{scope:Scope}{pos:Pos}{it acc:Value}{env:Env}{E:Value->Shared->Prop}(hE:∀x s,¬E x s)(J:Nat->Shared->Prop)(turn:∀n s,J n s->wpAny (model prog w) A (pyNext it) (λr s₁=>match r with|none=>R (.ok .next) s₁|some v=>wpAny (model prog w) A (letOwnedTupleGo target it v) (λ_ s₁=>wpAny (model prog w) A (assign target env v) (λ_ s₂=>wpAny (model prog w) A (forIn ifs true λc r=>if r=true then do let ok<-isTrue c env (eval c env);pure (ForInStep.yield ok)else pure (ForInStep.yield r)) (λok s₃=>if ok=true then wpAny (model prog w) A (eval elt env) (λx s₄=>wpAny (model prog w) A (call (.builtin "list.append") [acc,x]) (λ_ s₅=>∃m,m<n/\J m s₅) E s₄) E s₃ else∃m,m<n/\J m s₃) E s₂) E s₁) E s₁) E s)(n:Nat)(h:J n s):codeAny (model prog w) A (.compLoop (.ListComp elt [⟨target,iter,ifs,0⟩] scope pos) 0 it acc env) R s:=by have no:∀{E':Value->Shared->Prop}x s,E x s->E' x s:=λx s h=>absurd h (hE x s);refine codeAny_loop rfl J (λn s hI=>?_) n h;show wpAny _ A ((compTurn (.ListComp elt [⟨target,iter,ifs,0⟩] scope pos) 0 it acc env).onRaise (λx=>do noteFrame x env;theTreesLotGoes x)) _ _ s;refine wpAny_noted ?_;rw[compTurn_list];refine wpAny_bind (wpAny_standAt (wpAny_bind (wpAny_mono (turn n s hI) (λr s₁ h₁=>?_) λx s h'=>no x s h')));cases r with|none=>exact wpAny_pure h₁|some v=>refine wpAny_bind (wpAny_mono h₁ (λ_ s₂ h₂=>wpAny_bind (wpAny_mono h₂ (λ_ s₂ h₂=>wpAny_bind (wpAny_mono h₂ (λok s₃ h₃=>?_) λx s h'=>no x s h')) λx s h'=>no x s h')) λx s h'=>no x s h');cases ok with|false=>exact wpAny_pure ⟨rfl,h₃⟩|true=>exact wpAny_bind (wpAny_bind (wpAny_mono h₃ (λx s₄ h₄=>wpAny_bind (wpAny_mono h₄ (λ_ s₅ h₅=>wpAny_pure (wpAny_pure ⟨rfl,h₅⟩)) λx s h'=>no x s h')) λx s h'=>no x s h'))
def Rm(X:Cx)(ifs:List Expr)(t:TT):Prop:=∀(aa:List (Addr×Obj))(s:Shared)(σ:L2.St)(H:Hp)(Q:Bool->Hp->Prop),Inv X aa σ H s->t σ H Q->wpAny (model X.prog X.w) X.A (forIn ifs true λc r=>if r=true then do let ok<-isTrue c X.env (eval c X.env);pure (ForInStep.yield ok)else pure (ForInStep.yield r)) (TP X aa σ Q) X.xe s
section
variable{X:Cx}
def Wn{O:List Nat}:Rm X [] (tDT X O (eC (.bl true))):=λaa s σ H Q I⟨F0,F,en,b,rs,w,k⟩=>by cases w;exact wpAny_pure ⟨H,I,k F H (.refl rs.fh)⟩
def XE{O:List Nat}{c:Expr}{ev:Q8}(h:PT X c (tDT X O ev)):Rm X [c] (tDT X O ev):=λaa s σ H Q I t=>by simp only[List.forIn_cons,List.forIn_nil,if_true];exact wpAny_bind (wpAny_bind (wpAny_mono (h aa s σ H Q I t) (λb s' hb=>wpAny_pure (wpAny_pure hb)) λ_ _ x=>x))
end
section
variable{X:Cx}{aa:List (Addr×Obj)}{σ:L2.St}{H:Hp}{s:Shared}{scope:Scope}{n:Nat}{N':List Str}{caps:List Nat}{cl:List (Str×Addr)}{fp:List Addr}
noncomputable def UX(n:Nat)(caps:List Nat)(σ:L2.St):L2.St:=List.replicate n none++caps.map λi=>(σ[i]?).join
def Qb4(I:Inv X aa σ H s)(S:CompSc X scope n N' caps)(de:∀x c,cl.lookup x=some c->X.env.cells.lookup x=some c)(cY:∀x,(x,NameKind.free)∈scope.names->∃c,cl.lookup x=some c)(eZ:∀b∈fp,Vr X aa H b/\b<s.heap.objs.size){h1:Heap}{tk:Nat}(fJ:h1.Ns (s.heap.objs.size+1) λ_=>none)(old:∀b o,(s.heap.push {cls:=.type "list",data:=.seq #[]}).get? b=some o->h1.get? b=some o):Inv (TC X scope N' cl (s.heap.objs.size+1) (s.heap.objs.size::fp) {s with heap:=s.heap.push {cls:=.type "list",data:=.seq #[]}} H (X.pn++aa)) [] (UX n caps σ) (upd H s.heap.objs.size (.lst [])) {s with heap:=h1,toks:=tk}:=by
 have hz:(s.heap.push {cls:=.type "list",data:=.seq #[]}).objs.size=s.heap.objs.size+1:=Heap.size_push ..;have up:∀b o,s.heap.get? b=some o->h1.get? b=some o:=λb o e=>old b o (Heap.get?_push_of_some _ e);have cm:H s.heap.objs.size=none:=I.hok.fresh (Qx _);have hC:H (s.heap.objs.size+1)=none:=I.hok.fresh (le_succ _);have I3:Inv X aa σ H {s with heap:=s.heap.push {cls:=.type "list",data:=.seq #[]}}:=I.kept (t':=s.toks) λb o e=>Heap.get?_push_of_some _ e;have fB:∀x c,X.env.cells.lookup x=some c->c<s.heap.objs.size:=λx c e=>by
  obtain⟨v,o,ho,_⟩:=I.cell x c e;exact Heap.lt_size ho
 refine⟨Qb1 I3 S (by rw[hz];exact Qx _) de cY (λb hb=>?_) _,rfl,I.bare,⟨λb o e _ _ _=>old b o e,λb o e _ _ _=>⟨o.slots,old b o e⟩,λb o e n hb=>?_,λb o e _=>⟨o,old b o e⟩,λb xs e=>?_,λb o u e=>?_,λb ps e=>⟨#[],?_⟩⟩,⟨_,fJ,λi x v e1 e2 _=>?_⟩,λx c e=>?_,?_,λx c e=>?_,λp hp=>?_,I.hok.laid up (Qx _) ⟨WV _,[],0,.nil,old _ _ (Heap.get?_push_size _ rfl)⟩,?_⟩
 ·rcases q_5.mp hb with z|z;·subst z;exact⟨I.fpOk (Qx _) cm,Y3 (Nat.lt_succ_self _)⟩
  ·exact⟨(eZ b z).1,Y3 (lt_succ_of_lt (eZ b z).2)⟩
 ·rw[Qn (λz=>hb (by rw[z];exact JN))];exact n
 ·rw[Qn (WQ e cm)];exact e
 ·rw[Qn (WQ e cm)];exact e
 ·have e':H b=some (.tbl ps):=e;rw[Qn (WQ e' cm),e'];simp
 ·unfold UX at e2;rcases V1 i n with hi|hi
  ·rw[YH (by simpa using hi),RA,if_pos hi]at e2;cases e2
  ·rw[Vk (by simpa using hi),RB,Yb]at e2;cases q:caps[i-n]? with
   |none=>rw[q]at e2;cases e2|some j=>
    rw[q]at e2;obtain⟨x',f1,f2,f3⟩:=S.cap (i-n) j q;rw[show n+(i-n)=i by omega]at f1;have iD:N'[i]?=some x:=e1;rw[f1]at iD;cases iD;have gp:(σ[j]?).join=some v:=Option.some.inj e2;have e3:σ[j]?=some (some v):=by cases w:σ[j]? with|none=>rw[w]at gp;cases gp|some o=>rw[w]at gp;cases o with|none=>cases gp|some u=>cases gp;rfl
    have hm:=mem_of_lookup f3;have kx:=S.fre _ hm rfl;obtain⟨m,_,hl⟩:=I.loc;obtain⟨u,r,lk⟩:=hl j x v f2 e3 (by
     rcases kx with z|z;·exact .inr (.inl z)
     ·exact .inr (.inr z));refine⟨u,r,.inr ⟨?_,?_⟩⟩
    ·have e:(compEnvC scope cl (s.heap.objs.size+1) X.env).kindOf x=(scope.names.lookup x).map λk=>if(k==NameKind.free&&X.env.scope.kind==.function&&X.env.kindOf x==some .cell)then NameKind.cell else k:=HK X.env scope.names x;have e':(compEnvC scope cl (s.heap.objs.size+1) X.env).kindOf x=some (if(NameKind.free==NameKind.free&&X.env.scope.kind==.function&&X.env.kindOf x==some .cell)then NameKind.cell else NameKind.free):=by rw[e,f3];rfl
     show(compEnvC scope cl (s.heap.objs.size+1) X.env).kindOf x=some .cell\/(compEnvC scope cl (s.heap.objs.size+1) X.env).kindOf x=some .free;rw[e'];split;·exact .inl rfl
     ·exact .inr rfl
    ·obtain⟨c,hc⟩:=cY x hm;rcases lk with⟨z,_⟩|⟨_,c',iw,o,ho,hd⟩;·rcases kx with w|w<;>(rw[z]at w;cases w)
     ·have:=de x c hc;rw[iw]at this;cases this;exact⟨c,hc,o,up c o ho,hd⟩
 ·obtain⟨v,o,ho,hd⟩:=I.cell x c (de x c e);exact⟨v,o,up c o ho,hd⟩
 ·show upd H s.heap.objs.size (.lst []) (s.heap.objs.size+1)=none;rw[Qn (Nat.succ_ne_self _)];exact hC
 ·rw[Qn (Y3 (fB x c (de x c e)))];exact I.freeC x c (de x c e)
 ·have cZ:p∈X.pn++aa:=by simpa[TC]using hp
  obtain⟨k1,k2,k3,k4,k5⟩:=I.pin p cZ;have lt:p.1<s.heap.objs.size:=Heap.lt_size k1;refine⟨up _ _ k1,?_,Y3 (lt_succ_of_lt lt),λhb=>?_,k5⟩;·rw[Qn (Y3 lt)];exact k2
  ·rcases q_5.mp (I.stkSub _ hb)with z|z;·exact k3 z
   ·exact k4 z
 ·show(UX n caps σ).length=N'.length;rw[S.len];simp[UX]
end
def Xz(X:Cx)(scope:Scope)(N':List Str)(P:Cx->Prop):Prop:=∀(cl:List (Str×Addr))(C:Addr)(ex:List Addr)(s:Shared)(H:Hp)(pn:List (Addr×Obj)),P (TC X scope N' cl C ex s H pn)
section
variable{X:Cx}{O:List Nat}{scope:Scope}{n:Nat}{N':List Str}{caps:List Nat}{tg iter elt:Expr}{ifs:List Expr}{pos:Pos}{it:ZH}{g:Jk}{c el:Q8}
def Qi2{K:Fg}{H₀:Hp}{F0:Fz}{F H:Hp}{σ:L2.St}{en:QD}(r:RS K H₀ F0 F H σ en O)(hO:∀i∈caps,i∉O):RS K H ⟨F,H,none⟩ F H (UX n caps σ) (Xa n caps en) []where
 fh:=r.fh
 hh:=.refl H
 ff:=.refl F
 fr:=λ_ _ h=>.inl h
 slot:=λi d h _=>by
  unfold Xa at h;unfold UX;rcases V1 i n with hi|hi;·rw[YH (by simpa using hi),RA,if_pos hi]at h;cases h
  ·rw[Vk (by simpa using hi),RB,Yb]at h;rw[Vk (by simpa using hi),RB,Yb];cases q:caps[i-n]? with
   |none=>rw[q]at h;cases h|some j=>
    rw[q]at h;have h':(en[j]?).join=some d:=Option.some.inj h;have e3:en[j]?=some (some d):=by cases w:en[j]? with|none=>rw[w]at h';cases h'|some o=>rw[w]at h';cases o with|none=>cases h'|some u=>cases h';rfl
    have hj:j∈caps:=Yo q;obtain⟨v,h1,h2⟩:=r.slot j d e3 (hO j hj);refine⟨v,?_,h2⟩;simp[h1]
 own:=λi d _ h=>by cases h
 dis:=λi j p _ _ h=>by cases h
 pin:=λi h=>by cases h
 len:=by unfold UX Xa;simp
def A7{K:Fg}{H₀:Hp}{F0:Fz}{F H:Hp}{σ:L2.St}{en:QD}{p:Addr}{o:HO}(r:RS K H₀ F0 F H σ en [])(h0:F0.h p=none)(hf:F p=none):RS K H₀ F0 F (upd H p o) σ en []where
 fh:=r.fh.upd o hf
 hh:=r.hh.upd o h0
 ff:=r.ff
 fr:=r.fr
 slot:=r.slot
 own:=λi d _ h=>by cases h
 dis:=λi j p _ _ h=>by cases h
 pin:=λi h=>by cases h
 len:=r.len
def QeE{α:Type}{o:Option D}{x y:Option α}{r:α}(h:YT o x y=some r):∃b,o=some (.bl b)/\(b=true->x=some r)/\(b=false->y=some r):=by
 obtain⟨b,h1,h2⟩:=UI h;refine⟨b,h1,λz=>?_,λz=>?_⟩;·subst z;exact h2
 ·subst z;exact h2
structure ItOkH(K:Fg)(F H:Hp)(J:It)(ds:List D):Prop where
 go:∀i F' H',Sm F F'->Sm F' H'->Sm H H'->i<ds.length->J.go i H'
 yld:∀i F' H' x H2,Sm F F'->Sm F' H'->Sm H H'->i<ds.length->J.yld i H' x H2->∃F2 d,Gr F' H' F2 H2/\ds[i]?=some d/\Rep K F2 x d
 stop:∀i F' H',Sm F F'->Sm F' H'->Sm H H'->ds.length<=i->J.stop i H'
noncomputable def Oq(X:Cx)(O:List Nat)(it:ZH):TI:=λσ H R=>∃F0 F e ds,RS X.K X.H₀ F0 F H σ e O/\it e=some ds/\∀F' H' J,Gr F H F' H'->ItOkH X.K F' H' J ds->R J H'
def Y7(h:PI X tg iter (tI X O it)):PI X tg iter (Oq X O it):=PI.imp h λσ H R⟨F0,F,en,ds,rs,z,k⟩=>⟨F0,F,en,ds,rs,z,λF' H' J g io=>k F' H' J g ⟨λi F2 H2 a b _=>io.go i F2 H2 a b,λi F2 H2 x H3 a b _=>io.yld i F2 H2 x H3 a b,λi F2 H2 a b _=>io.stop i F2 H2 a b⟩⟩
def QdC(i:Nat){x:Str}{p:Pos}(hN:X.N[i]?=some x:=by rfl)(hv:Vu X.env.scope x:=by first|exact Or.inl rfl|exact Or.inr (Or.inl rfl)|exact Or.inr (Or.inr rfl))(hd:(x==("__debug__":Str))=false:=by decide)(ck:(x==("__classdict__":Str))=false:=by decide):PI X tg (.Name x p) (Oq X O (Ql (eV i))):=PI.imp (Bf (Yt (O:=O) i hN hv hd ck)) λσ H R⟨F0,F,en,ds,rs,z,k⟩=>by obtain⟨d,e1,e2⟩:=J2 z;refine⟨F0,F,en,d,rs,e1,λv F1 H1 g1 r1=>?_⟩;have fin:∀(a:Addr)(xs:List V),SqL X.K H1 a xs->Reps X.K F1 xs ds->R (Oz X.K a) H1:=λa xs ha r=>k F1 H1 _ g1 ⟨λi F' H' s s' sh hi=>by obtain⟨v,h1,_⟩:=r.get (Qk hi);exact⟨xs,v,sh.sqL ha,h1⟩,λi F' H' x H2 s s' sh hi⟨hH,hx⟩=>by subst hH;have cQ:=hx xs (sh.sqL ha);obtain⟨d,h1,h2⟩:=r.getV cQ;exact⟨F',d,.refl s',h1,h2.mono s⟩,λi F' H' s s' sh hi=>⟨xs,sh.sqL ha,by rw[r.length];exact hi⟩⟩;cases d with|lst bV=>cases e2;obtain⟨a,xs,rfl,h,r⟩:=r1.lst g1.fh;exact⟨a,rfl,⟨xs,SqL.of h⟩,fin a xs (SqL.of h) r⟩|scr ns=>cases e2;obtain⟨a,rfl,h⟩:=r1.scr;exact⟨a,rfl,⟨_,g1.fh.sqL h⟩,fin a _ (g1.fh.sqL h) (Reps.ints ns)⟩|_=>cases e2
structure CI(Y:Cx)(K:Fg)(tn:Nat->Heap->Prop)(fp:List Addr)(F2 H2:Hp)(acc:Addr)(g:Jk)(c el:Q8)(ds tot:List D)(i:Nat)(σ':L2.St)(H' F':Hp)(bg:QD)(xs:List V)(done J5:List D)(s':Shared):Prop where
 c1:i<=ds.length
 c2:Inv Y [] σ' H' s'
 c3:tn i s'.heap
 c4:∀b∈fp,H' b=none
 c5:RS K H2 ⟨F2,H2,none⟩ F' H' σ' bg []c6:H' acc=some (.lst xs)c7:F' acc=none
 c8:Reps K F' xs done
 c9:XA g c el (ds.drop i) bg=some J5
 ca:done++J5=tot
 cb:done.length<=i
def Eo(hx:X.xe=λ_ _=>False)(hc:X.calm=true)(S:CompSc X scope n N' caps)(hO:∀i∈caps,i∉O)(hi:PI X tg iter (Oq X O it))(hg:Xz X scope N' λY=>PG Y tg (tG Y [] [] g))(ht:Xz X scope N' λY=>Rm Y ifs (tDT Y [] c))(he:Xz X scope N' λY=>PE Y elt (tD Y [] el))(hs:∀x,foldedSetIterable iter X.env x=pure x){use:Option (Value->Sem Unit)}{Qv:Value->Shared->Prop}{aH:Pos}{aa:List (Addr×Obj)}{σ:L2.St}{H:Hp}{s:Shared}(I:Inv X aa σ H s){F0:Fz}{F:Hp}{en:QD}{ds tot:List D}(rs:RS X.K X.H₀ F0 F H σ en O)(e1:it en=some ds)(hlen:ds.length<=lI)(e3:XA g c el ds (Xa n caps en)=some tot)(jR:∀acc C s' H' F' xs m,H acc=none->Inv X aa σ H' s'->Vr X aa H' C->s'.heap.Ns C m->Gr F H F' H'->F' acc=none->H' acc=some (.lst xs)->Reps X.K F' xs tot->compPost (model X.prog X.w) X.A X.xe use Qv (.ref acc) C (.ok .next) s'):wpAny (model X.prog X.w) X.A (comprehension (.ListComp elt [⟨tg,iter,ifs,0⟩] scope pos) scope X.env aH (newList []) false (eval iter X.env) use) Qv X.xe s:=by
 obtain⟨cl,jM,de,cY⟩:=Qb0 (scope:=scope) (env:=X.env) λx hx hk=>I.ok.has x.1 (S.fre x hx hk);refine wpAny_comprehension_free (use:=use) rfl hs jM S.kind S.loc ?_;refine Qa (hi aa s σ H _ I ⟨F0,F,en,ds,rs,e1,λF' H' J gr io=>⟨F',gr,io⟩⟩:wpAny (model X.prog X.w) X.A (eval iter X.env) (λv s1=>wpAny (model X.prog X.w) X.A (pyIter v) (Lk X aa σ tg λJ H'=>∃F',Gr F H F' H'/\ItOkH X.K F' H' J ds) X.xe s1) X.xe s) λv s1 h1=>?_;refine Qa h1 λiQ s2 h2=>?_;obtain⟨iR,fp,tn,J,H2,rfl,I2,T,ef,f2,F2,gr,io⟩:=h2;have gi:∀b∈fp,Vr X aa H2 b/\b<s2.heap.objs.size:=λb hb=>by obtain⟨o,ho,_⟩:=T.obj 0 _ ef b hb;exact⟨f2 b hb,Heap.lt_size ho⟩
 have cm:H2 s2.heap.objs.size=none:=I2.hok.fresh (Qx _);have hz:(s2.heap.push {cls:=.type "list",data:=.seq #[]}).objs.size=s2.heap.objs.size+1:=Heap.size_push ..;refine wpAny_newObj_type (wpAny_newFunctionEnv S.nocell (by intro y hy;simp at hy) (λh1 gC gB=>?_) S.kind);dsimp only at gC gB⊢;have fJ:h1.Ns (s2.heap.objs.size+1) λ_=>none:=by have q:=gC;rw[hz]at q;exact q
 have old:∀b o,(s2.heap.push {cls:=.type "list",data:=.seq #[]}).get? b=some o->h1.get? b=some o:=λb o e=>gB.extBut b o (Y3 (Heap.lt_size e)) (Heap.get?_push_of_some _ e);have I4:=Qb4 (tk:=s2.toks+([]:List (Str×Value)).length) I2 S de cY gi fJ old;have loop:∀(R:Result->Shared->Prop),(∀s' H' F' xs m,Inv (TC X scope N' cl (s2.heap.objs.size+1) (s2.heap.objs.size::fp) {s2 with heap:=s2.heap.push {cls:=.type "list",data:=.seq #[]}} H2 (X.pn++aa)) [] m H' s'->Gr F2 H2 F' H'->F' s2.heap.objs.size=none->H' s2.heap.objs.size=some (.lst xs)->Reps X.K F' xs tot->R (.ok .next) s')->codeAny (model X.prog X.w) X.A (.compLoop (.ListComp elt [⟨tg,iter,ifs,0⟩] scope pos) 0 (.ref iR) (.ref s2.heap.objs.size) (compEnvC scope cl (s2.heap.objs.size+1) X.env)) R {s2 with heap:=h1,toks:=s2.toks+([]:List (Str×Value)).length}:=by
  intro R hR;have gY:=hg cl (s2.heap.objs.size+1) (s2.heap.objs.size::fp) {s2 with heap:=s2.heap.push {cls:=.type "list",data:=.seq #[]}} H2 (X.pn++aa);have tY:=ht cl (s2.heap.objs.size+1) (s2.heap.objs.size::fp) {s2 with heap:=s2.heap.push {cls:=.type "list",data:=.seq #[]}} H2 (X.pn++aa);have eY:=he cl (s2.heap.objs.size+1) (s2.heap.objs.size::fp) {s2 with heap:=s2.heap.push {cls:=.type "list",data:=.seq #[]}} H2 (X.pn++aa);generalize hY:TC X scope N' cl (s2.heap.objs.size+1) (s2.heap.objs.size::fp) {s2 with heap:=s2.heap.push {cls:=.type "list",data:=.seq #[]}} H2 (X.pn++aa)=Y at I4 gY tY eY hR;have yK:Y.K=X.K:=by rw[<-hY];rfl
  have yP:Y.prog=X.prog:=by rw[<-hY];rfl
  have yW:Y.w=X.w:=by rw[<-hY];rfl
  have yA:Y.A=X.A:=by rw[<-hY];rfl
  have yH:Y.H₀=H2:=by rw[<-hY];rfl
  have yE:Y.env=compEnvC scope cl (s2.heap.objs.size+1) X.env:=by rw[<-hY];rfl
  have yX:Y.xe=λ_ _=>False:=by rw[<-hY];rfl
  have yc:Y.calm=true:=by rw[<-hY];exact hc
  have yf:Y.fs=Wu X.stack:=by rw[<-hY];rfl
  have yx:Y.ex=s2.heap.objs.size::fp:=by rw[<-hY];rfl
  have yp:Y.pn=X.pn++aa:=by rw[<-hY];rfl
  have stat:∀{H':Hp},(∀b∈fp,H' b=none)->∀b∈fp,Vr Y [] H' b:=λhn b hb=>by
   obtain⟨⟨_,q1,q2,q3,q4,q5⟩,q6⟩:=gi b hb;refine⟨hn b hb,?_,?_,.inl ?_,λx c e=>?_,λp hp=>q5 p ?_⟩;·rw[yE];exact Y3 (lt_succ_of_lt q6)
   ·rw[yf];intro hf;rcases q_5.mp (I2.stkSub b hf)with w|w;·exact q1 w
    ·exact q2 w
   ·rw[yx];exact JH _ hb
   ·rw[yE]at e;exact q4 x c (de x c e)
   ·rw[yp]at hp;simpa using hp
  rw[<-yP,<-yW,<-yA,<-yE];have T':Turn Y.prog Y.w Y.K tg J fp iR tn:=by rw[yP,yW,yK];exact T
  have jz:∀b∈fp,b≠s2.heap.objs.size:=λb hb=>Y3 (gi b hb).2;refine Qb3 (E:=Y.xe) (λx s h=>by rw[yX]at h;exact h) (λm s'=>∃i σ' H' F' bg xs done J5,m=ds.length-i/\CI Y X.K tn fp F2 H2 s2.heap.objs.size g c el ds tot i σ' H' F' bg xs done J5 s') ?_ ds.length ⟨0,UX n caps σ,_,F2,Xa n caps en,[],[],tot,by omega,by omega,I4,T.keep 0 _ _ ef (λb hb o e=>old b o (Heap.get?_push_of_some _ e)),λb hb=>?_,A7 (Qi2 (rs.grow gr) hO) cm ((rs.grow gr).fh.none cm),Jq,(rs.grow gr).fh.none cm,.nil,by rw[drop_zero];exact e3,rfl,Qx _⟩
  ·rintro m s3⟨i,σ3,H3,F3,jj,xs,done,J5,rfl,hle,I3,eR,gh,cN,ja,kz,r3,q3,dX,dl3⟩;have iz:Gr F2 H2 F3 H3:=cN.ex.gr;rcases V1 i ds.length with hi|hi
   ·refine Qa (T'.item Y rfl rfl rfl yc i [] s3 σ3 H3 Y.xe I3 (stat gh) eR (io.go i F3 H3 iz.ff cN.fh cN.hh hi)) λr s4⟨u,hr,h4⟩=>?_;subst hr;refine Qa h4 λ_ s5⟨x,H5,I5,r5,y5,eQ,jf⟩=>?_;obtain⟨F5,dx,g5,kj,kQ⟩:=io.yld i F3 H3 x H5 iz.ff cN.fh cN.hh hi y5;have gc:ds.drop i=dx::ds.drop (i+1):=by
     rw[RD hi];rw[Qk hi]at kj;cases kj;rfl
    rw[gc]at q3;obtain⟨fN,q4,q5⟩:=J2 (show((g dx jj).bind λe1=>YT (c e1) ((el e1).bind λx=>(XA g c el (ds.drop (i+1)) e1).map λr=>x::r) (XA g c el (ds.drop (i+1)) e1))=some J5 from q3);obtain⟨b,q6,qt,qf⟩:=QeE q5;have js:=I5.pinned (stat jf) (T.obj _ _ eQ);have a5:H5 s2.heap.objs.size=some (.lst xs):=g5.hh _ _ ja;have n5:F5 s2.heap.objs.size=none:=by cases w:F5 s2.heap.objs.size with|none=>rfl|some o=>
      rcases g5.fr _ o w with z|z;·rw[kz]at z;cases z
      ·rw[ja]at z;cases z
    have gR:RS Y.K Y.H₀ ⟨F2,H2,none⟩ F5 H5 σ3 jj []:=by rw[yK,yH];exact cN.grow g5
    refine Qa (gY _ s5 σ3 H5 x u (λσ' H'=>∃F',Gr F5 H5 F' H'/\RS Y.K Y.H₀ ⟨F2,H2,none⟩ F' H' σ' fN []) js r5 ⟨⟨F2,H2,none⟩,F5,jj,dx,fN,gR,by rw[yK];exact kQ,q4,λσ' H' F' g' r'=>⟨F',g',r'⟩⟩) λ_ s6⟨σ6,H6,I6,F6,g6,gQ⟩=>?_;have keepN:∀{Fa Ha Fb Hb:Hp},Gr Fa Ha Fb Hb->Ha s2.heap.objs.size=some (.lst xs)->Fa s2.heap.objs.size=none->Hb s2.heap.objs.size=some (.lst xs)/\Fb s2.heap.objs.size=none:=λ{Fa Ha Fb Hb}gg ha fa=>by
     refine⟨gg.hh _ _ ha,?_⟩;cases w:Fb s2.heap.objs.size with
     |none=>rfl|some o=>
      rcases gg.fr _ o w with z|z;·rw[fa]at z;cases z
      ·rw[ha]at z;cases z
    obtain⟨a6,n6⟩:=keepN g6 a5 n5;refine Qa (tY _ s6 σ6 H6 (λb' H'=>b'=b/\∃F',Gr F6 H6 F' H') I6 ⟨⟨F2,H2,none⟩,F6,fN,b,gQ,q6,λF' H' g'=>⟨rfl,F',g'⟩⟩) λok s7⟨H7,I7,hb,F7,g7⟩=>?_;subst hb;obtain⟨a7,n7⟩:=keepN g7 a6 n6;have gP:=gQ.grow g7;have jU:Sm F3 F7:=(g5.ff.trans g6.ff).trans g7.ff;have back:∀{σ8:L2.St}{H8:Hp}{s8:Shared},Inv Y ([]++Of fp s5.heap) σ8 H8 s8->Inv Y [] σ8 H8 s8/\tn (i+1) s8.heap/\∀b∈fp,H8 b=none:=λ{σ8 H8 s8}I8=>by
     refine⟨I8.unpinned,T.keep _ _ _ eQ λb hb o e=>(I8.pin (b,o) (YF _ (YF _ (Nw hb e)))).1,λb hb=>?_⟩;obtain⟨o,e,_⟩:=T.obj _ _ eQ b hb;exact(I8.pin (b,o) (YF _ (YF _ (Nw hb e)))).2.1
    cases ok with
    |false=>
     rw[if_neg W0];obtain⟨k1,k2,k3⟩:=back I7;exact⟨_,by omega,i+1,σ6,H7,F7,fN,xs,done,J5,rfl,hi,k1,k2,k3,by rw[yK,yH]at gP;exact gP,a7,n7,r3.mono jU,qf rfl,dX,by omega⟩|true=>
     rw[if_pos rfl];obtain⟨dy,q8,q9⟩:=J2 (qt rfl);obtain⟨gG,kU,kT⟩:=Jy q9;refine Qa (eY _ s7 σ6 H7 (λv' H'=>∃F',Gr F7 H7 F' H'/\Rep Y.K F' v' dy) I7 ⟨⟨F2,H2,none⟩,F7,fN,dy,gP,q8,λv' F' H' g' r'=>⟨F',g',r'⟩⟩) λy s8⟨y',H8,I8,kP,F8,g8,jX⟩=>?_;obtain⟨a8,n8⟩:=keepN g8 a7 n7;have jW:=gP.grow g8;have kM:Sm F3 F8:=jU.trans g8.ff;have jB:xs.length<sizeLine:=by rw[VG,r3.length];omega
     refine Qa (HP (X:=Y) _ s8 σ6 H8 (.ref s2.heap.objs.size) [y'] (.ref s2.heap.objs.size) [y] (λv' H'=>H'=upd H8 s2.heap.objs.size (.lst (xs++[y']))) I8 rfl (.cons kP .nil) ⟨_,xs,y',rfl,rfl,a8,jB,rfl⟩) λ_ s9⟨v9,H9,I9,_,mU⟩=>?_;subst mU;obtain⟨k1,k2,k3⟩:=back I9;rw[yK,yH]at jW;rw[yK]at jX;refine⟨_,by omega,i+1,σ6,_,F8,fN,xs++[y'],done++[dy],gG,rfl,hi,k1,k2,k3,A7 jW cm n8,Jq,n8,(r3.mono kM).append (.cons jX .nil),kU,?_,?_⟩;·rw[VF];rw[<-dX,<-kT];rfl
     ·rw[Qg,RC];omega
   ·have iS:ds.drop i=[]:=Oi hi;rw[iS]at q3;cases q3;rw[Zp]at dX;subst dX;refine Qa (T'.done Y rfl rfl rfl yc i [] s3 σ3 H3 Y.xe I3 (stat gh) eR (io.stop i F3 H3 iz.ff cN.fh cN.hh hi)) λr s4⟨hr,nk⟩=>?_;subst hr;exact hR s4 H3 F3 xs σ3 nk iz kz ja r3
  ·rw[Qn (jz b hb)];exact(gi b hb).1.1
 have I3:Inv X aa σ H2 {s2 with heap:=s2.heap.push {cls:=.type "list",data:=.seq #[]}}:=I2.kept (t':=s2.toks) λb o e=>Heap.get?_push_of_some _ e;have fin:∀s' H' F' xs m,Inv (TC X scope N' cl (s2.heap.objs.size+1) (s2.heap.objs.size::fp) {s2 with heap:=s2.heap.push {cls:=.type "list",data:=.seq #[]}} H2 (X.pn++aa)) [] m H' s'->Gr F2 H2 F' H'->F' s2.heap.objs.size=none->H' s2.heap.objs.size=some (.lst xs)->Reps X.K F' xs tot->compPost (model X.prog X.w) X.A X.xe use Qv (.ref s2.heap.objs.size) (s2.heap.objs.size+1) (.ok .next) s':=by
  intro s' H' F' xs m I' g' fa ha r';obtain⟨mm,eF,_⟩:=id I'.loc;have fC:H' (s2.heap.objs.size+1)=none:=I'.free;have IX:Inv X aa σ H' s':=I3.call' (s':=s') (ch:=s2.heap.objs.size::fp) I'.os I'.ab I'.hok I'.bare λb hb=>by
   rcases q_5.mp hb with w|w
   ·obtain⟨_,q1,_,q3,q4,q5⟩:=I2.fpOk (b:=b) (H':=H2) (by rw[w];exact Qx _) (by rw[w];exact cm);exact⟨q3,q1,q4,q5⟩
   ·obtain⟨⟨_,q1,_,q3,q4,q5⟩,_⟩:=gi b w;exact⟨q3,q1,q4,q5⟩
  exact jR s2.heap.objs.size (s2.heap.objs.size+1) s' H' F' xs mm (gr.hh.none cm) IX (I2.fpOk (H':=H') (le_succ _) fC) eF (gr.trans g') fa ha r'
 have iK:tn 0 h1:=T.keep 0 _ _ ef (λb hb o e=>old b o (Heap.get?_push_of_some _ e));have L:=loop (compPost (model X.prog X.w) X.A X.xe use Qv (.ref s2.heap.objs.size) (s2.heap.objs.size+1)) fin;show codeAny (model X.prog X.w) X.A (.compStart (.ListComp elt [⟨tg,iter,ifs,0⟩] scope pos) 0 (.ref iR) (.ref s2.heap.objs.size) (compEnvC scope cl (s2.heap.push {cls:=.type "list",data:=.seq #[]}).objs.size X.env)) (compPost (model X.prog X.w) X.A X.xe use Qv (.ref s2.heap.objs.size) (s2.heap.push {cls:=.type "list",data:=.seq #[]}).objs.size) _;rw[hz];exact codeAny_compStart_list L (T.self _ 0 _ _ _ iK L)
def Qay{aa:List (Addr×Obj)}{σ:L2.St}{H:Hp}{s:Shared}{C:Addr}{h':Heap}(I:Inv X aa σ H s)(f:Vr X aa H C)(sb:Heap.SameBut C s.heap h'):Inv X aa σ H {s with heap:=h'}:=by obtain⟨f0,f1,_,f3,f4,f5⟩:=f;exact I.turned (t':=s.toks) (λb o hb e=>(sb.2 b hb).trans e) f0 f1 f3 f4 f5
def Yj(hx:X.xe=λ_ _=>False)(hc:X.calm=true)(S:CompSc X scope n N' caps)(hO:∀i∈caps,i∉O)(hi:PI X tg iter (Oq X O it))(hg:Xz X scope N' λY=>PG Y tg (tG Y [] [] g))(ht:Xz X scope N' λY=>Rm Y ifs (tDT Y [] c))(he:Xz X scope N' λY=>PE Y elt (tD Y [] el))(hs:∀x,foldedSetIterable iter X.env x=pure x:=by intro _;rfl):PE X (.ListComp elt [⟨tg,iter,ifs,0⟩] scope pos) (tO X O (JB n caps it g c el)):=by
 intro aa s σ H Q I⟨F0,F,en,d,rs,z,k⟩;obtain⟨ds,e1,e2⟩:=J2 z;split at e2;case isFalse=>cases e2
 case isTrue hlen=>
 obtain⟨tot,e3,rfl⟩:=Jy e2;rw[eval_ListComp];refine Eo hx hc S hO hi hg ht he hs (use:=none) I rs e1 hlen e3 λacc C s' H' F' xs m n1 I' fC hn gr fa ha r'=>?_;exact⟨m,hn,λh' sb=>⟨.ref acc,H',Qay I' fC sb,rfl,k acc none xs tot F' H' gr n1 fa ha r' rfl trivial⟩⟩
def NQ(i:Nat){x:Str}{p gv:Pos}{OL:List Nat}{w:Bool}(hN:X.N.Nodup)(hx:X.xe=λ_ _=>False)(hc:X.calm=true)(S:CompSc X scope n N' caps)(hO:∀i∈caps,i∉O)(hi:PI X tg iter (Oq X O it))(hg:Xz X scope N' λY=>PG Y tg (tG Y [] [] g))(ht:Xz X scope N' λY=>Rm Y ifs (tDT Y [] c))(he:Xz X scope N' λY=>PE Y elt (tD Y [] el))(lJ:X.N[i]?=some x:=by rfl)(mq:XX X.env.scope x:=by first|exact Or.inl rfl|exact Or.inr rfl)(hf:X.fn x=true\/X.env.scope.names.lookup x=some .local:=by first|exact .inl rfl|exact .inr rfl)(eU:swapsWith (.ListComp elt [⟨tg,iter,ifs,0⟩] scope pos) (some (.Name x p)) gv.line X.env=pure true:=by rfl)(hs:∀x,foldedSetIterable iter X.env x=pure x:=by intro _;rfl)(hq:Qh i∉O:=by decide)(i7:i<1000:=by decide):PS X (.Assign [.Name x p] (.ListComp elt [⟨tg,iter,ifs,0⟩] scope pos) gv) (tS X O (ad i O) OL w (QA (JB n caps it g c el) (gS i))):=by
 intro aa s σ H Dn I⟨F0,F,en,fl,rs,z,k⟩;obtain⟨d,z1,z2⟩:=J2 z;obtain⟨bg,z3,rfl⟩:=Jy z2;cases z3;obtain⟨ds,e1,e2⟩:=J2 z1;split at e2;case isFalse=>cases e2
 case isTrue hlen=>
 obtain⟨tot,e3,rfl⟩:=Jy e2;rw[exec_Assign_Name_used _ _ _ _ eU];refine wpAny_bind (wpAny_standAt (wpAny_bind ?_));show wpAny _ X.A (do let _<-comprehension (.ListComp elt [⟨tg,iter,ifs,0⟩] scope pos) scope X.env _ (newList []) false (eval iter X.env) (some (assign (.Name x p) X.env))) _ _ s;refine wpAny_bind (Qa (Eo hx hc S hO hi hg ht he hs (use:=some (assign (.Name x p) X.env)) (Qv:=λ_ s'=>SP X aa Dn .next s') I rs e1 hlen e3 λacc C s' H' F' xs m n1 I' fC hn gr fa ha r'=>?_) λ_ s' hq=>wpAny_pure (wpAny_pure hq));show wpAny _ X.A (assign (.Name x p) X.env (.ref acc)) _ _ s';refine wpAny_assign_Name (Qas I' hN lJ mq (show RelV (.ref acc) (.ref acc)from rfl) (λgM nu df=>?_) hf);obtain⟨a,sb,fL⟩:=df;have mW:C≠a:=by
  obtain⟨_,f1,_,_,f4,_⟩:=fC;rcases fL with q|q;·rw[q];exact f1
  ·exact λzz=>f4 x a q zz.symm
 have bE:=rs.grow gr;refine⟨m,hn.sameBut sb mW,λh' kO=>⟨_,H',Qay nu fC kO,k _ F' H' gr.ff (bE.putO' (kk:=none) i (rs.hh.none n1) fa ha trivial r' (λj d' hj q2 _ q=>?_) hq (λj z=>by unfold Qh at z;omega))⟩⟩;obtain⟨p',_,ys,es,h1,_,_,h4,_⟩:=rs.own j d' q2 hj;rw[h1]at q;cases q;rw[n1]at h4;cases h4
end
def Qeb(cps:Array Nat)(i k:Nat):((List.range k).map λm=>i+m).filterMap (cps[·]?)=(cps.toList.drop i).take k:=by
 rw[List.filterMap_map];induction k generalizing i with
 |zero=>simp|succ k ih=>
  rw[List.range_succ_eq_map,filterMap_cons,List.filterMap_map];have e0:((λx=>cps[x]?)∘λm=>i+m) 0=cps[i]?:=by simp
  have e1:((λx=>cps[x]?)∘λm=>i+m)∘Nat.succ=(λx=>cps[x]?)∘λm=>i+1+m:=by funext m;simp only[Function.comp];rw[show i+Nat.succ m=i+1+m by omega]
  rw[e0,e1,ih (i+1)];cases q:cps[i]? with
  |none=>
   have hz:cps.toList.length<=i:=by
    rcases V1 i cps.size with h|h;·rw[Hw h]at q;cases q
    ·simpa using h
   rw[Oi hz,Oi (Nat.le_succ_of_le hz)];simp|some v=>
   have hi:i<cps.toList.length:=by
    rcases V1 i cps.size with h|h;·simpa using h
    ·rw[Array.getElem?_eq_none h]at q;cases q
   have hv:cps.toList[i]=v:=by
    have:cps.toList[i]?=some v:=by simpa using q
    rw[Qk hi]at this;exact Option.some.inj this
   rw[RD hi,hv,List.take_succ_cons]
def Em(v:Option Int)(n d:Nat)(hd:d<=n):(match v with|none=>(d:Int)|some i=>max 0 (min (if i<0 then i+(n:Int)else i) (n:Int)))=((YL n d v:Nat):Int):=by cases v with|none=>rfl|some i=>simp only[YL];split<;>omega
def Qjt(a b:Nat):sliceRange (a:Int) (b:Int) 1=(List.range (b-a)).map λm=>a+m:=by
 unfold sliceRange;simp only[show(1:Int)>0 by decide,if_true];have hc:(if(a:Int)<(b:Int)then((b:Int)-(a:Int)+1-1)/1 else 0).toNat=b-a:=by
  split;·rw[Int.ediv_one];omega
  ·omega
 rw[hc];apply List.map_congr_left;intro m _;omega
def QeF(lo hi:Option Int)(n:Nat):Builtin.Str.strSliceIndices lo hi 1 n=(List.range (YL n n hi-YL n 0 lo)).map λm=>YL n 0 lo+m:=by rw[<-Qjt];unfold Builtin.Str.strSliceIndices;simp only[show(1:Int)>0 by decide,if_true];have h1:=Em lo n 0 (WV _);have h2:=Em hi n n (Qx _);cases lo<;>cases hi<;>dsimp only at h1 h2⊢<;>rw[<-h1,<-h2]<;>rfl
def Qjv(x:Str)(lo hi:Option Int):Txt.slice x lo hi=V8 x lo hi:=by
 unfold Txt.slice V8 Zc;have hl:x.cps.toList.length=x.length:=by simp[Str.length]
 rw[QeF,Qm,length_range,hl];split
 ·rename_i h;have h':YL x.length x.length hi-YL x.length 0 lo=x.length:=by simpa using h
  have b1:YL x.length x.length hi<=x.length:=by cases hi with|none=>exact Qx _|some v=>simp only[YL];split<;>omega
  by_cases z:x.length=0
  ·have:x.cps.toList=[]:=List.length_eq_zero_iff.mp (by rw[hl];exact z);obtain⟨c⟩:=x;have hc:c=#[]:=by simpa using this
   subst hc;simp
  ·have b2:YL x.length 0 lo=0:=by omega
   rw[h',b2,drop_zero,<-hl,ZX]
 ·rw[Qeb]
section
variable{X:Cx}{O:List Nat}{e a b:Expr}{pos:Pos}
def QiN:V->Option Int->Option Int->Hp->VK->Prop:=λx lo hi H Q=>∃z,x=.str z/\z.length<=sizeLine/\Q (.str (V8 z lo hi)) H
def Ba{v:Value}{o:Option Int}(p:IsPart v o):∃l:Option (Int×Tok),partValue l=v/\l.map (·.1)=o:=by cases p with|none=>exact⟨none,rfl,rfl⟩|int i t=>exact⟨some (i,t),rfl,rfl⟩
def Qjp:SlR X QiN:=by
 intro aa s σ H x v vl vu lo hi sl Q I rx hs pl pu h;obtain⟨z,rfl,hz,q⟩:=h;obtain⟨t,rfl⟩:=(show∃t,v=Value.str z t from rx);obtain⟨l,rfl,rfl⟩:=Ba pl;obtain⟨u,rfl,rfl⟩:=Ba pu;refine⟨"str",_,F.slot_str_getitem.lookup,typeIs_str _ _ _,wpAny_getItem_str_slice (l:=l) (u:=u) (st:=none) hs rfl ?_⟩;have e:=Qjv z (l.map (·.1)) (u.map (·.1));refine post_val_or_str ⟨?_,λt' k=>?_⟩;·exact ZP (Txt.slice_le z (l.map (·.1)) (u.map (·.1))) hz
 ·have:EP X aa σ Q (.str (Txt.slice z (l.map (·.1)) (u.map (·.1))) t') {s with toks:=k}:=by rw[e];exact⟨.str (V8 z _ _),H,I.tok k,⟨t',rfl⟩,q⟩
  exact this
def WD{ev:Q8}{lo hi:Option Expr}{el eh:T5}{p2:Pos}(he:PE X e (tR X O ev))(hl:PO X lo (L5 X O el))(hu:PO X hi (L5 X O eh)):PE X (.Subscript e (.Slice lo hi none p2) pos) (tD X O (ZK ev el eh)):=PE.imp (Qh8 (SlR.or Qjp (SlR.or Qjo Qjq)) he hl hu) λσ H Q⟨F0,F,en,d,rs,w,k⟩=>by
  obtain⟨dx,e1,w1⟩:=J2 w;obtain⟨l,u,e2,e3,e4⟩:=U4 w1;refine⟨F0,F,en,dx,rs,e1,λx F1 H1 g1 r1=>?_⟩;refine⟨F0,F1,en,l,rs.grow g1,e2,λF2 H2 g2=>?_⟩;refine⟨F0,F2,en,u,(rs.grow g1).grow g2,e3,λF3 H3 g3=>?_⟩;have eI:=(g1.trans g2).trans g3;have r3:=(r1.gr g2).gr g3;have s3:=g3.fh;cases dx with
  |str z=>
   simp only[Vb]at e4;split at e4
   ·rename_i hz;cases e4;exact .inl ⟨z,r3.str,by rw[VG];exact hz,k _ F3 H3 eI (.str _)⟩
   ·cases e4|lst ds=>cases e4;obtain⟨p,xs,rfl,h,r⟩:=r3.lst s3;refine .inr (.inl ⟨p,xs,rfl,SqL.of h,λq hq=>?_⟩);have g:=Gr.new s3 hq (.lst (Wh xs l u));exact k _ _ _ (eI.trans g) (.lst Jq ((IZ r l u).mono g.ff))|scr ns=>
   cases e4;obtain⟨p,rfl,h⟩:=r3.scr;refine .inr (.inl ⟨p,_,rfl,s3.sqL h,λq hq=>?_⟩);have g:=Gr.new s3 hq (.lst (Wh (ns.map V.int) l u));have r:Reps X.K F3 (Wh (ns.map V.int) l u) (Zc (ns.map D.int) l u):=IZ (Reps.ints ns) l u;have hc:Zc (ns.map D.int) l u=(Zc ns l u).map D.int:=by unfold Zc;rw[Qm,<-List.map_drop,<-List.map_take]
   rw[hc]at r;exact k _ _ _ (eI.trans g) (.lst Jq (r.mono g.ff))|tup ds=>
   have e5:(if YL ds.length 0 l=0/\YL ds.length ds.length u=ds.length then none else some (D.tup (Zc ds l u)))=some d:=e4;split at e5;·cases e5
   ·rename_i hw;cases e5;obtain⟨p,xs,rfl,h,r⟩:=r3.tup;refine .inr (.inr ⟨p,xs,rfl,SqT.of (s3 _ _ h),?_,λq hq=>?_⟩);·rw[r.length];exact hw
    ·have g:=Gr.new s3 hq (.tup (Wh xs l u));exact k _ _ _ (eI.trans g) (.tup Jq ((IZ r l u).mono g.ff))|_=>cases e4
def QiP:V->List V->Hp->VK->Prop:=λx xs H Q=>∃z,x=.str z/\xs=[]/\z.length<=sizeLine/\Q (.str (Txt.strip z)) H
def QfR:N0 X "str.strip" QiP:=by intro aa s σ H x xs v us Q I rx rs h;obtain⟨z,rfl,rfl,hz,q⟩:=h;obtain⟨t,rfl⟩:=show∃t,v=Value.str z t from rx;cases Vals.zero rs;exact SCL.strip (λt' k _=>⟨.str (Txt.strip z),H,I.tok k,⟨t',rfl⟩,q⟩) hz
def D5{ev:Q8}{apos:Pos}(ha:PE X a (tR X O ev))(bL:attributeBase a "strip" X.env (eval a X.env)=eval a X.env:=by rfl)(bK:(apos.endLine==pos.line)=true:=by rfl):PE X (.Call (.Attribute a "strip" apos) [] [] pos) (tD X O (QE D.strip ev)):=PE.imp (QhX PySem.F.plainAttrs_str PySem.F.slot_str_strip PySem.F.type_str_strip QfR ha bL bK) λσ H Q⟨F0,F,en,d,rs,w,k⟩=>by
  obtain⟨dx,e1,e2⟩:=J2 w;refine⟨F0,F,en,dx,rs,e1,λv F1 H1 g1 r1=>?_⟩;cases dx with
  |str z=>
   simp only[D.strip]at e2;split at e2
   ·rename_i hz;cases e2;rw[r1.str];exact⟨rfl,z,rfl,rfl,by rw[VG];exact hz,k _ F1 H1 g1 (.str _)⟩
   ·cases e2|_=>cases e2
theorem C3(c:Array Nat):∀(k:Nat)(acc:Array Nat),(List.replicate k c).foldl (·++·) acc=(acc.toList++(List.replicate k c.toList).flatten).toArray|0,acc=>by simp|k+1,acc=>by rw[UN,Zq,C3 c k,UN,Tq];simp
def QfT(x:Str)(n:Int):Txt.mul x n=YC x n:=by
 unfold Txt.mul YC;split;·rename_i h;rw[show n.toNat=0 by omega];rfl
 ·split
  ·rename_i h1 h2;by_cases z:n=1
   ·subst z;obtain⟨c⟩:=x;simp
   ·have hx:x.length=0:=by
     rcases Bool.or_eq_true _ _|>.mp h2 with w|w;·exact absurd (eq_of_beq w) z
     ·exact eq_of_beq w
    obtain⟨c⟩:=x;have hc:c=#[]:=by simpa[Str.length]using hx
    subst hc;simp
  ·rw[C3];simp
def G0:R2:=λx y H Q=>∃z n,x=.str z/\y=.int n/\-1073741824<n/\n<1073741824/\z.length*n.toNat<=lI/\Q (.str (YC z n)) H
def QhG:OpR X (binaryOp .Mult) G0:=by
 intro aa s σ H x y v u Q I rx ry h;obtain⟨z,n,rfl,rfl,h1,h2,h3,q⟩:=h;obtain⟨t,rfl⟩:=show∃t,v=Value.str z t from rx;obtain⟨t2,rfl⟩:=show∃t,u=Value.int n t from ry;have ok:MulOk z n:=by
  refine⟨? _,λhn hc=>? _,λhn hc=>? _⟩;·rw[JF (by omega),JF (by omega)];rfl
  ·have hz:z.length<=lI:=by
    have:1<=n.toNat:=by omega
    exact ZP (Nat.le_mul_of_pos_right _ this) h3
   have:(9223372036854775807:Int)/n≥8589934591:=by apply Int.le_ediv_of_mul_le (by omega);omega
   have e:(2:Int)^63-1=9223372036854775807:=by decide
   rw[e];unfold lI at hz;omega
  ·have h4:z.length*n.toNat<=sizeLine:=by rw[VG];exact h3
   unfold Builtin.Str.tooLong;simpa using h4
 exact SB.mul ok λt' k=>by rw[QfT];exact⟨.str (YC z n),H,I.tok k,⟨t',rfl⟩,q⟩
def Yy:OpR X (binaryOp .Mult) (λx y H Q=>(rI CMul λi j=>.int (i*j)) x y H Q\/(G0 x y H Q\/G1 x y H Q))/\Jz X (λx y H Q=>(rI CMul λi j=>.int (i*j)) x y H Q\/(G0 x y H Q\/G1 x y H Q)) D.mulA:=by
 refine⟨OpR.or BU (OpR.or QhG QhJ),λF H x y dx dy d Q s rx ry e k=>?_⟩;cases dx<;>cases dy<;>try(simp[D.mulA]at e;done)
 case int.int i j=>exact .inl (QhF.2 F H x y (.int i) (.int j) d Q s rx ry e k)
 case str.int z n=>
  simp only[D.mulA]at e;split at e
  ·rename_i h;cases e;exact .inr (.inl ⟨z,n,rx.str,ry.int,h.1,h.2.1,h.2.2,k _ F H (.refl s) (.str _)⟩)
  ·cases e
 case lst.int ds n=>
  simp only[D.mulA]at e;split at e
  ·rename_i h;cases e;obtain⟨p,xs,rfl,hp,r⟩:=rx.lst s;refine .inr (.inr ⟨p,n,xs,rfl,ry.int,hp,by omega,by omega,by rw[VG,r.length];exact h.2.2,λq hq=>?_⟩);have g:=Gr.new s hq (.lst (List.replicate n.toNat xs).flatten);have rr:Reps X.K F (List.replicate n.toNat xs).flatten (List.replicate n.toNat ds).flatten:=by
    generalize n.toNat=m;induction m with
    |zero=>exact .nil|succ m ih=>rw[UN,UN,Tq,Tq];exact r.append ih
   exact k _ _ _ g (.lst Jq (rr.mono g.ff))
  ·cases e
end
section
variable{X:Cx}{O:List Nat}{e a b:Expr}{pos:Pos}
def C0{K:Fg}{F H:Hp}{x:V}{d:D}(r:RdD K F H x d)(h:Y9 d=true):Xi x=true/\Rep K F x d:=by cases d with|non=>rw[r.non];exact⟨rfl,.non⟩|bl b=>rw[r.bl];exact⟨rfl,.bl b⟩|int i=>rw[r.int];exact⟨rfl,.int i⟩|str z=>rw[r.str];exact⟨rfl,.str z⟩|_=>cases h
def Qd0{K:Fg}{F:Hp}{x y:V}{dx dy:D}(rx:Rep K F x dx)(ry:Rep K F y dy)(hx:Y9 dx=true)(hy:Y9 dy=true):Yk y x=(D.eq dy dx==some true):=by cases rx with
 |non=>cases ry with
  |non=>rfl|bl q=>simp[D.eq,D.oth,Yk]|int q=>simp[D.eq,D.oth,Yk]|str q=>simp[D.eq,D.oth,Yk]|_=>cases hy
 |bl p=>cases ry with
  |non=>simp[D.eq,D.oth,Yk]|bl q=>cases p<;>cases q<;>rfl|int q=>
   have h:D.eq (.int q) (.bl p)=some (decide (q=XZ p)):=by rw[D.eq]
   rw[h];show(q==if p then 1 else 0)=(some (decide (q=XZ p))==some true);by_cases z:q=XZ p;·rw[Jf z,z];unfold XZ;simp
   ·rw[JF z];have:(q==if p then 1 else 0)=false:=by apply beq_eq_false_iff_ne.mpr;intro w;exact z w
    rw[this];rfl|str q=>simp[D.eq,D.oth,Yk]|_=>cases hy
 |int p=>cases ry with
  |non=>simp[D.eq,D.oth,Yk]|bl q=>
   have h:D.eq (.bl q) (.int p)=some (decide (XZ q=p)):=by rw[D.eq]
   rw[h];show((if q then 1 else 0)==p)=(some (decide (XZ q=p))==some true);by_cases z:XZ q=p;·rw[Jf z,<-z];unfold XZ;simp
   ·rw[JF z];have:((if q then 1 else 0)==p)=false:=by
     apply beq_eq_false_iff_ne.mpr;intro w;exact z w
    rw[this];rfl|int q=>
   rw[ZC];show(q==p)=(some (decide (q=p))==some true);by_cases z:q=p;·rw[Jf z,z,beq_self_eq_true];rfl
   ·rw[JF z,beq_eq_false_iff_ne.mpr z];rfl|str q=>simp[D.eq,D.oth,Yk]|_=>cases hy
 |str p=>cases ry with
  |non=>simp[D.eq,D.oth,Yk]|bl q=>simp[D.eq,D.oth,Yk]|int q=>simp[D.eq,D.oth,Yk]|str q=>
   rw[YS];show(q==p)=(some (decide (q=p))==some true);by_cases z:q=p;·rw[Jf z,z,beq_self_eq_true];rfl
   ·rw[JF z,beq_eq_false_iff_ne.mpr z];rfl|_=>cases hy
 |_=>cases hx
theorem HD{K:Fg}{F:Hp}{x:V}{dx:D}(rx:Rep K F x dx)(hx:Y9 dx=true):∀{ys:List V}{ds:List D},Reps K F ys ds->ds.all Y9=true->inV x ys=inD dx ds/\ys.all Xi=true
 |_,_,.nil,_=>⟨rfl,rfl⟩|_,_,.cons h r,hd=>by
  rw[all_cons,Xs]at hd;obtain⟨i1,i2⟩:=HD rx hx r hd.2;refine⟨?_,?_⟩
  ·unfold inV at i1⊢;rw[any_cons,i1,Qd0 rx h hx hd.1];rfl
  ·rw[all_cons,i2,(C0 (H:=F) (.inl h) hd.1).1];rfl
def BR{neg:Bool}{op:CmpOp}{g:D->D->Option D}(hr:OpR X (compareOp op) (UQ X.K neg))(h1:∀dx dy d,g dx dy=some d->∃ys,(dy=.tup ys\/dy=.lst ys)/\Y9 dx=true/\ys.all Y9=true/\d=.bl (if neg then !inD dx ys else inD dx ys)):OpR X (compareOp op) (UQ X.K neg)/\Jz X (UQ X.K neg) g:=by
 refine⟨hr,λF H x y dx dy d Q s rx ry e k=>?_⟩;obtain⟨ys,hy,fx,fy,rfl⟩:=h1 dx dy d e;obtain⟨fv,rp⟩:=C0 rx fx;rcases hy with rfl|rfl;·obtain⟨p,xs,rfl,hp,r⟩:=ry.tup;obtain⟨i1,i2⟩:=HD rp fx r fy;refine⟨p,xs,rfl,.inr (SqT.of (s _ _ hp)),fv,i2,?_⟩;rw[i1];exact k _ F H (.refl s) (.bl _)
 ·obtain⟨p,xs,rfl,hp,r⟩:=ry.lst s;obtain⟨i1,i2⟩:=HD rp fx r fy;refine⟨p,xs,rfl,.inl (SqL.of hp),fv,i2,?_⟩;rw[i1];exact k _ F H (.refl s) (.bl _)
def M6:OpR X (compareOp .In) (UQ X.K false)/\Jz X (UQ X.K false) D.inO:=BR Qhz λdx dy d e=>by
 unfold D.inO at e;split at e
 ·split at e;·rename_i ys h;cases e;exact⟨ys,.inl rfl,h.1,h.2,rfl⟩
  ·cases e
 ·split at e;·rename_i ys h;cases e;exact⟨ys,.inr rfl,h.1,h.2,rfl⟩
  ·cases e
 ·cases e
def BW:OpR X (compareOp .NotIn) (UQ X.K true)/\Jz X (UQ X.K true) D.notInO:=BR QhH λdx dy d e=>by
 unfold D.notInO at e;split at e
 ·split at e;·rename_i ys h;cases e;exact⟨ys,.inl rfl,h.1,h.2,rfl⟩
  ·cases e
 ·split at e;·rename_i ys h;cases e;exact⟨ys,.inr rfl,h.1,h.2,rfl⟩
  ·cases e
 ·cases e
def D1{x:Str}{p:Pos}{ev:Q8}(hg:Gl X x)(hm:X.mg x=none)(hv:bootBuiltins x=some (.type "list"))(ha:PE X a (tR X O ev))(hn:x≠"__name__":=by decide)(cj:(x==("__debug__":Str))=false:=by decide)(he:starEach [a] X.env=[(false,eval a X.env)]:=by rfl):PE X (.Call (.Name x p) [a] [] pos) (tO X O (QE D.listOf ev)):=PE.imp (Bb QbQ hg hm hv (R6 ha he) hn cj he rfl) λσ H Q⟨F0,F,en,d,rs,w,k⟩=>by obtain⟨dx,e1,e2⟩:=J2 w;refine⟨F0,F,en,dx,rs,e1,λv F1 H1 g1 r1=>? _⟩;have fin:∀(l:Addr)(xs:List V)(ds:List D),SqL X.K H1 l xs\/SqT X.K H1 l xs->Reps X.K F1 xs ds->d=.lst ds->∃p ys,[V.ref l]=[.ref p]/\(SqL X.K H1 p ys\/SqT X.K H1 p ys)/\∀l,H1 l=none->Q (.ref l) (upd H1 l (.lst ys)):=λl xs ds hl r hd=>⟨l,xs,rfl,hl,λq hq=>k q none xs ds F1 _ (g1.trans (Gr.newO g1.fh hq (.lst xs))) (g1.hh.none hq) (g1.fh.none hq) Jq r hd trivial⟩;cases dx with|lst ds=>cases e2;obtain⟨l,xs,rfl,h,r⟩:=r1.lst g1.fh;exact fin l xs ds (.inl (SqL.of h)) r rfl|tup ds=>cases e2;obtain⟨l,xs,rfl,h,r⟩:=r1.tup;exact fin l xs ds (.inr (SqT.of (g1.fh _ _ h))) r rfl|scr ns=>cases e2;obtain⟨l,rfl,h⟩:=r1.scr;exact fin l _ _ (.inl (g1.fh.sqL h)) (Reps.ints ns) rfl|_=>cases e2
def QaQ{vs:List V}{us:List Value}(r:Vals vs us){i:Nat}{u:Value}(h:us[i]?=some u):∃v,vs[i]?=some v/\RelV v u:=by
 have hl:=r.length;rcases V1 i vs.length with hi|hi
 ·obtain⟨u',h1,h2⟩:=r.get (Qk hi);rw[h]at h1;cases h1;exact⟨_,Qk hi,h2⟩
 ·rw[XQ (by omega)]at h;cases h
def CM{ns:List Int}{us:List Value}(r:Vals (ns.map V.int) us){i:Nat}{u:Value}(h:us.toArray[i]?=some u):∃t,u=Value.int (ns.getD i 0) t:=by obtain⟨v,h1,h2⟩:=QaQ r (by simpa using h);rw[Yb]at h1;cases q:ns[i]? with|none=>rw[q]at h1;cases h1|some n=>rw[q]at h1;cases h1;obtain⟨t,rfl⟩:=show∃t,u=Value.int n t from h2;exact⟨t,by rw[YU,q];rfl⟩
def Gs{aa:List (Addr×Obj)}{σ:L2.St}{H:Hp}{s:Shared}{l:Addr}{us:List Value}{A:Around}{E:Value->Shared->Prop}{Q:Value->Shared->Prop}(I:Inv X aa σ H s)(hh:A.handled=none)(hp:PlainL s.heap l us.toArray)(h:∀s₂:Shared,Walks X.prog X.w A s.heap.objs.size [s.heap.objs.size,l] [s.heap.objs.size] us.toArray.size (λi v=>us.toArray[i]?=some v) (λi h=>h.IsListIter s.heap.objs.size l i/\h.IsList l us.toArray)->(s₂.heap.IsListIter s.heap.objs.size l 0/\s₂.heap.IsList l us.toArray)->(∀b∈[s.heap.objs.size,l],b<s₂.heap.objs.size)->(∀(h':Heap)(tk:Nat),(∀b o,b∉[s.heap.objs.size]->s₂.heap.get? b=some o->h'.get? b=some o)->Inv X aa σ H {s₂ with heap:=h',toks:=tk})->Q (.ref s.heap.objs.size) s₂):wpAny (model X.prog X.w) A (pyIter (.ref l)) Q E s:=by
 have bM:l<s.heap.objs.size:=by obtain⟨_,_,e,_⟩:=hp;exact Heap.lt_size e
 refine wpAny_pyIter_list hp.isList (h _ (Walks.list hh _ l (Y3 bM) us.toArray) ⟨⟨_,Heap.get?_push_size _ rfl,rfl,rfl⟩,hp.isList.push _⟩ (λb hb=>?_) λh' tk hk=>?_)
 ·show b<(s.heap.push _).objs.size;rw[Heap.size_push];rcases q_5.mp hb with rfl|hb;·exact Nat.lt_succ_self _
  ·rw[q_1.mp hb];exact lt_succ_of_lt bM
 ·exact I.kept (t':=tk) λb u e=>hk b u (λz=>by rw[q_1.mp z]at e;exact absurd (Heap.lt_size e) (lt_irrefl _)) (Heap.get?_push_of_some _ e)
def QbS(hc:X.calm=true):CallR X (.builtin "max") (λxs H Q=>∃(l:Addr)(n:Int)(ns:List Int),xs=[.ref l]/\SqL X.K H l ((n::ns).map V.int)/\Q (.int (Jp n ns)) H):=by
 intro aa s σ H xs us Q I r⟨l,n,ns,hx,hq,q⟩;subst hx;obtain⟨u,rfl,rx⟩:=Xy r;cases rx;obtain⟨its,rv,pl,hz⟩:=I.list hq;refine call_max_walk (Gs I (I.ok.hd hc) pl λs₂ W st eZ back=>?_);have cX:∀i v,its.toArray[i]?=some v->∃t,v=Value.int ((n::ns).getD i 0) t:=λi v h=>CM rv h;have hl:=rv.length;rw[Qm]at hl;refine⟨_,_,_,_,_,_,_,rfl,W,st,eZ,?_,CmpOf.ints_gt (λi=>(n::ns).getD i 0) cX,λv h' tk hP hk=>?_⟩;·rw[Ja,<-hl];exact Nat.succ_pos _
 ·obtain⟨t,rfl⟩:=cX _ _ hP;obtain⟨b1,b2⟩:=argBest_gt (λi=>(n::ns).getD i 0) (its.toArray.size-1);obtain⟨m1,m2,m3⟩:=O7 ns n;generalize argBest (λi j=>decide ((n::ns).getD i 0>(n::ns).getD j 0)) (its.toArray.size-1)=k at b1 b2⊢;have hsz:its.toArray.size=ns.length+1:=by rw[Ja,<-hl];rfl
  have e:(n::ns).getD k 0=Jp n ns:=by
   apply le_antisymm;·cases k with|zero=>exact m2|succ k=>
     have eW:k<ns.length:=by omega
     show ns.getD k 0<=_;rw[YU,Qk eW];exact m3 _ (ZY eW)
   ·rcases m1 with w|w;·rw[w];exact b2 0 (WV _)
    ·obtain⟨j,hj,e⟩:=Tr w;have:=b2 (j+1) (by omega);rw[show(n::ns).getD (j+1) 0=ns.getD j 0 from rfl,YU,Qk hj]at this;rw[<-e];exact this
  rw[e];exact⟨.int (Jp n ns),H,back h' tk hk,⟨t,rfl⟩,q⟩
def Rw(hc:X.calm=true):CallR X (.builtin "max") (λxs H Q=>∃(l:Addr)(n:Int)(ns:List Int),xs=[.ref l]/\SqL X.K H l ((n::ns).map V.int)/\Q (.int (Jp n ns)) H)/\C1 X (λxs H Q=>∃(l:Addr)(n:Int)(ns:List Int),xs=[.ref l]/\SqL X.K H l ((n::ns).map V.int)/\Q (.int (Jp n ns)) H) D.maxL:=by
 refine⟨QbS hc,λF H x dx d Q s rx e k=>?_⟩;cases dx with
 |lst ds=>
  simp only[D.maxL]at e;split at e
  ·rename_i n ns q;cases e;obtain⟨l,xs,rfl,h,r⟩:=rx.lst s;have:=r.intsOf q;subst this;exact⟨l,n,ns,rfl,SqL.of h,k _ F H (.refl s) (.int _)⟩
  ·cases e|_=>cases e
theorem Bj(ns:List Int):∀k,k<=ns.length->preSum (λi=>ns.getD i 0) k=(ns.take k).sum|0,_=>by simp[preSum]|k+1,h=>by rw[preSum,Bj ns k (by omega),List.take_succ,Qk (by omega),List.sum_append];simp[Qk (show k<ns.length by omega)]
def QbV(hc:X.calm=true):CallR X (.builtin "sum") λxs H Q=>∃(l:Addr)(ns:List Int),xs=[.ref l]/\SqL X.K H l (ns.map V.int)/\Q (.int ns.sum) H:=by
 intro aa s σ H xs us Q I r⟨l,ns,hx,hq,q⟩;subst hx;obtain⟨u,rfl,rx⟩:=Xy r;cases rx;obtain⟨its,rv,pl,hz⟩:=I.list hq;refine call_sum_walkAnyS (Gs I (I.ok.hd hc) pl λs₂ W st eZ back=>? _);have cX:∀i v,its.toArray[i]?=some v->∃t,v=Value.int (ns.getD i 0) t:=λi v h=>CM rv h;have hl:=rv.length;rw[Qm]at hl;refine⟨_,_,_,_,_,_,_,λi=>ns.getD i 0,rfl,W.toS,st,eZ,cX,λs' t' mv=>? _⟩;have e:preSum (λi=>ns.getD i 0) its.toArray.size=ns.sum:=by rw[Ja,<-hl,Bj ns ns.length (Qx _),ZX]
 rw[e];have I':=back s'.heap s'.toks mv.heap;have es:({s₂ with heap:=s'.heap,toks:=s'.toks}:Shared)=s':=by
  obtain⟨h',g',d',t',o'⟩:=s';have m1:g'=s₂.gens:=mv.gens;have m2:d'=s₂.drawn:=mv.drawn;have m3:o'=s₂.os:=mv.os;subst m1 m2 m3;rfl
 rw[es]at I';exact⟨.int ns.sum,H,I',⟨t',rfl⟩,q⟩
def QbU(hc:X.calm=true):CallR X (.builtin "sum") (λxs H Q=>∃(l:Addr)(ns:List Int),xs=[.ref l]/\SqL X.K H l (ns.map V.int)/\Q (.int ns.sum) H)/\C1 X (λxs H Q=>∃(l:Addr)(ns:List Int),xs=[.ref l]/\SqL X.K H l (ns.map V.int)/\Q (.int ns.sum) H) D.sumL:=by refine⟨QbV hc,λF H x dx d Q s rx e k=>?_⟩;cases dx with|lst ds=>obtain⟨ns,q,rfl⟩:=Jy e;obtain⟨l,xs,rfl,h,r⟩:=rx.lst s;have:=r.intsOf q;subst this;exact⟨l,ns,rfl,SqL.of h,k _ F H (.refl s) (.int _)⟩|_=>cases e
theorem Eg{K:Fg}{F:Hp}:∀{vs:List V}{ds:List D}{bs:List Bool},Reps K F vs ds->U5 ds=some bs->vs=bs.map V.bl
 |_,_,bs,.nil,e=>by cases e;rfl|_,_,bs,.cons (d:=d) h r,e=>by cases h with
  |bl i=>simp only[U5]at e;cases q:U5 _ with
   |none=>rw[q]at e;cases e|some ms=>
    rw[q]at e;cases e;rw[Eg r q];rfl
  |_=>simp[U5]at e
theorem EN(bs:List Bool):∀k,k<=bs.length->(List.range k).any (λi=>bs.getD i false)=(bs.take k).any id|0,_=>by simp|k+1,h=>by rw[List.range_succ,List.any_append,EN bs k (by omega),List.take_succ,Qk (by omega),List.any_append];simp[Qk (show k<bs.length by omega)]
def QbL(hc:X.calm=true):CallR X (.builtin "any") λxs H Q=>∃(l:Addr)(bs:List Bool),xs=[.ref l]/\SqL X.K H l (bs.map V.bl)/\Q (.bl (bs.any id)) H:=by
 intro aa s σ H xs us Q I r⟨l,bs,hx,hq,q⟩;subst hx;obtain⟨u,rfl,rx⟩:=Xy r;cases rx;obtain⟨its,rv,pl,hz⟩:=I.list hq;refine call_any_walk (Gs I (I.ok.hd hc) pl λs₂ W st eZ back=>? _);have cX:∀i v,its.toArray[i]?=some v->v=Value.bool (bs.getD i false):=λi v h=>by
  obtain⟨w,h1,h2⟩:=QaQ rv (by simpa using h);rw[Yb]at h1;cases q:bs[i]? with
  |none=>rw[q]at h1;cases h1|some n=>
   rw[q]at h1;cases h1;rw[show v=Value.bool n from h2,YU,q];rfl
 have hl:=rv.length;rw[Qm]at hl;refine⟨_,_,_,_,_,_,λi=>bs.getD i false,rfl,W,st,λi v s3 Q3 E3 hP hQ=>? _,λh' tk hk=>? _⟩;·rw[cX i v hP];exact wpAny_truthy_bool hQ
 ·have e:(List.range its.toArray.size).any (λi=>bs.getD i false)=bs.any id:=by rw[Ja,<-hl,EN bs bs.length (Qx _),ZX]
  rw[e];exact⟨.bl (bs.any id),H,back h' tk hk,rfl,q⟩
def QbK(hc:X.calm=true):CallR X (.builtin "any") (λxs H Q=>∃(l:Addr)(bs:List Bool),xs=[.ref l]/\SqL X.K H l (bs.map V.bl)/\Q (.bl (bs.any id)) H)/\C1 X (λxs H Q=>∃(l:Addr)(bs:List Bool),xs=[.ref l]/\SqL X.K H l (bs.map V.bl)/\Q (.bl (bs.any id)) H) D.anyL:=by refine⟨QbL hc,λF H x dx d Q s rx e k=>?_⟩;cases dx with|lst ds=>obtain⟨bs,q,rfl⟩:=Jy e;obtain⟨l,xs,rfl,h,r⟩:=rx.lst s;have:=Eg r q;subst this;exact⟨l,bs,rfl,SqL.of h,k _ F H (.refl s) (.bl _)⟩|_=>cases e
end
def Ua{X:Cx}{O O' OL:List Nat}{w:Bool}{st:Stmt}:PS X st (tS X O O' OL w X3):=λ_ _ _ _ _ _⟨_,_,_,_,_,z,_⟩=>by cases z
noncomputable def Zl(osc:Scope)(oN:List Str)(scope:Scope)(n:Nat)(N':List Str)(caps:List Nat):Bool:=scope.kind==.function&&scope.names.all (λy=>y.2 !=.cell)&&scope.names.all (λx=>x.2 !=.local||scope.names.lookup x.1==some .local)&&scope.names.all (λx=>x.2 !=.free||osc.names.lookup x.1==some .cell||osc.names.lookup x.1==some .free)&&N'.length==n+caps.length&&(List.range caps.length).all (λj=>match caps[j]?,N'[n+j]? with|some i,some x=>oN[i]?==some x&&scope.names.lookup x==some .free|_,_=>false)&&decide N'.Nodup
def Y0{X:Cx}{scope:Scope}{n:Nat}{N':List Str}{caps:List Nat}(h:Zl X.env.scope X.N scope n N' caps=true):CompSc X scope n N' caps:=by
 unfold Zl at h;simp only[Xs,decide_eq_true_eq,beq_iff_eq,List.all_eq_true]at h;obtain⟨⟨⟨⟨⟨⟨h1,h2⟩,h3⟩,h4⟩,h5⟩,h6⟩,h7⟩:=h;refine⟨h1,λy hy z=>?_,λx hx z=>?_,λx hx z=>?_,h5,λj i hj=>?_,h7⟩;·have:=h2 y hy;rw[z]at this;simp at this
 ·have:=h3 x hx;rw[z]at this;simpa using this
 ·have:=h4 x hx;rw[z]at this;have q:List.lookup x.1 X.env.scope.names=some NameKind.cell\/List.lookup x.1 X.env.scope.names=some NameKind.free:=by simpa using this
  exact q
 ·have hl:j<caps.length:=by
   rcases V1 j caps.length with w|w;·exact w
   ·rw[XQ w]at hj;cases hj
  have:=h6 j (List.mem_range.mpr hl);rw[hj]at this;cases q:N'[n+j]? with|none=>rw[q]at this;cases this|some x=>rw[q]at this;simp only[Xs,beq_iff_eq]at this;exact⟨x,rfl,this.1,this.2⟩
section
variable{es:List Expr}{env:Env}
def Qja{a b c}:starEach (.Constant a b c::es) env=(false,eval (.Constant a b c) env)::starEach es env:=rfl
def Vm{a b}:starEach (.Name a b::es) env=(false,eval (.Name a b) env)::starEach es env:=rfl
def Qi8{a b c d}:starEach (.BinOp a b c d::es) env=(false,eval (.BinOp a b c d) env)::starEach es env:=rfl
def Qi9{a b c d}:starEach (.Compare a b c d::es) env=(false,eval (.Compare a b c d) env)::starEach es env:=rfl
def GR{a b c d}:starEach (.Call a b c d::es) env=(false,eval (.Call a b c d) env)::starEach es env:=rfl
def Qaj{a b c}:starEach (.Subscript a b c::es) env=(false,eval (.Subscript a b c) env)::starEach es env:=rfl
def Qjb{a b}:starEach (.List a b::es) env=(false,eval (.List a b) env)::starEach es env:=rfl
def Qjd{a b c}:starEach (.Tuple a b c::es) env=(false,eval (.Tuple a b c) env)::starEach es env:=rfl
def Qjc{a b c d}:starEach (.ListComp a b c d::es) env=(false,eval (.ListComp a b c d) env)::starEach es env:=rfl
end
section
variable{X:Cx}{O:List Nat}{es:List Expr}{l:Z4}{ea:Q8}
def Dk{a b c}(ha:PE X (.Constant a b c) (tD X O ea))(hr:PA X es (tL X O l)):PA X (.Constant a b c::es) (tL X O (lC ea l)):=U9 ha hr Qja
def D3{a b}(ha:PE X (.Name a b) (tD X O ea))(hr:PA X es (tL X O l)):PA X (.Name a b::es) (tL X O (lC ea l)):=U9 ha hr Vm
def Db{a b c d}(ha:PE X (.BinOp a b c d) (tD X O ea))(hr:PA X es (tL X O l)):PA X (.BinOp a b c d::es) (tL X O (lC ea l)):=U9 ha hr Qi8
def Qdv{a b c d}(ha:PE X (.Compare a b c d) (tD X O ea))(hr:PA X es (tL X O l)):PA X (.Compare a b c d::es) (tL X O (lC ea l)):=U9 ha hr Qi9
def Dl{a b c d}(ha:PE X (.Call a b c d) (tD X O ea))(hr:PA X es (tL X O l)):PA X (.Call a b c d::es) (tL X O (lC ea l)):=U9 ha hr GR
def Du{a b c}(ha:PE X (.Subscript a b c) (tD X O ea))(hr:PA X es (tL X O l)):PA X (.Subscript a b c::es) (tL X O (lC ea l)):=U9 ha hr Qaj
def Wk{a b}(ha:PE X (.List a b) (tD X O ea))(hr:PA X es (tL X O l)):PA X (.List a b::es) (tL X O (lC ea l)):=U9 ha hr Qjb
def Dt{a b c}(ha:PE X (.Tuple a b c) (tD X O ea))(hr:PA X es (tL X O l)):PA X (.Tuple a b c::es) (tL X O (lC ea l)):=U9 ha hr Qjd
def NK{a b c d}(ha:PE X (.ListComp a b c d) (tD X O ea))(hr:PA X es (tL X O l)):PA X (.ListComp a b c d::es) (tL X O (lC ea l)):=U9 ha hr Qjc
end
end Wd
namespace Wd
def O0{n:Nat}{l:Z4}(h:∀(e:QD)(d:List D),l e=some d->d.length<=n)(hn:n<=lI):∀(e:QD)(d:List D),l e=some d->d.length<=lI:=λe d w=>ZP (h e d w) hn
def Z7:∀(e:QD)(d:List D),lN e=some d->d.length<=lI:=O0 (n:=0) Pz (by decide)
def VQ{p:Q8}:∀(e:QD)(d:List D),(lC p lN) e=some d->d.length<=lI:=O0 (n:=1) (Xm Pz) (by decide)
def Zy{p q:Q8}:∀(e:QD)(d:List D),(lC p (lC q lN)) e=some d->d.length<=lI:=O0 (n:=2) (Xm (Xm Pz)) (by decide)
def Zf{p q r:Q8}:∀(e:QD)(d:List D),(lC p (lC q (lC r lN))) e=some d->d.length<=lI:=O0 (n:=3) (Xm (Xm (Xm Pz))) (by decide)
def Wx{p q r t:Q8}:∀(e:QD)(d:List D),(lC p (lC q (lC r (lC t lN)))) e=some d->d.length<=lI:=O0 (n:=4) (Xm (Xm (Xm (Xm Pz)))) (by decide)
open PySem PySem.Spec PyProof.Rows L2
end Wd
namespace Wd
open PySem PySem.Spec PyProof.Rows L2
def _root_.L2.Room.units1{k:Nat}{A:Around}(r:Room k A):A.units+1<cLine:=by have:=r.units;omega
theorem Gq{K:Fg}{F:Hp}(k:Kd):∀{ks:List Kd}{xs:List V}{ds:List D},ks.length=xs.length->Reps K F xs ds->(XC ks ds k=none/\Zs (ks.zip xs) k=none/\hasK k ks=false)\/∃d v,XC ks ds k=some d/\Zs (ks.zip xs) k=some v/\Rep K F v d/\hasK k ks=true
 |[],xs,ds,_,_=>.inl ⟨by cases ds<;>rfl,rfl,rfl⟩|c::ks,[],_,h,_=>by cases h|c::ks,x::xs,_,h,.cons (d:=d) (ds:=ds) hx r=>by
  by_cases z:c=k
  ·right;exact⟨d,x,by show(if c=k then some d else _)=_;rw[if_pos z],Ow (p:=(c,x)) z,hx,by simp[hasK,z]⟩
  ·have e1:XC (c::ks) (d::ds) k=XC ks ds k:=by show(if c=k then some d else _)=_;rw[if_neg z]
   have e2:Zs ((c::ks).zip (x::xs)) k=Zs (ks.zip xs) k:=Rb (p:=(c,x)) z;rw[e1,e2];rcases Gq k (by simpa using h) r with⟨a,b,c'⟩|⟨d',v',a,b,c',m⟩;·refine .inl ⟨a,b,?_⟩;show(decide (c=k)||hasK k ks)=false;rw[c',JF z];rfl
   ·refine .inr ⟨d',v',a,b,c',?_⟩;show(decide (c=k)||hasK k ks)=true;rw[m,Bool.or_true]
theorem EO(k:Kd):∀{ks:List Kd}{xs:List V},ks.length=xs.length->((ks.zip xs).any λkv=>decide (kv.1=k))=hasK k ks|[],_,_=>by simp[hasK]|c::ks,[],h=>by cases h|c::ks,x::xs,h=>by rw[Ur,any_cons,EO k (by simpa using h)];rfl
noncomputable def Tv:List Kd->List V->Kd->V->List V|c::ks,x::xs,k,v=>(if c=k then v else x)::Tv ks xs k v|_,_,_,_=>[]
theorem A3{K:Fg}{F:Hp}(k:Kd){v:V}{d:D}(hv:Rep K F v d):∀{ks:List Kd}{xs:List V}{ds:List D},ks.length=xs.length->Reps K F xs ds->(ks.zip xs).map (λkv=>if kv.1=k then(kv.1,v)else kv)=ks.zip (Tv ks xs k v)/\ks.length=(Tv ks xs k v).length/\Reps K F (Tv ks xs k v) (NJ ks ds k d)
 |[],xs,ds,_,_=>⟨by simp,rfl,by cases ds<;>exact .nil⟩|c::ks,[],_,h,_=>by cases h|c::ks,x::xs,_,h,.cons (d:=d0) (ds:=ds) hx r=>by
  obtain⟨a,b,c'⟩:=A3 k hv (ks:=ks) (xs:=xs) (by simpa using h) r;refine⟨?_,?_,?_⟩
  ·show(if c=k then(c,v)else(c,x))::(ks.zip xs).map _=(c,if c=k then v else x)::ks.zip (Tv ks xs k v);rw[a];by_cases z:c=k;·rw[if_pos z,if_pos z]
   ·rw[if_neg z,if_neg z]
  ·show ks.length+1=(Tv ks xs k v).length+1;rw[b]
  ·refine .cons ?_ c';by_cases z:c=k;·rw[if_pos z,if_pos z];exact hv
   ·rw[if_neg z,if_neg z];exact hx
def Reps.snoc{K:Fg}{F:Hp}{xs:List V}{ds:List D}{v:V}{d:D}(r:Reps K F xs ds)(h:Rep K F v d):Reps K F (xs++[v]) (ds++[d]):=r.append (.cons h .nil)
def QiG{K:Fg}{F:Hp}{k:Kd}{v:V}{d:D}(hv:Rep K F v d){ks:List Kd}{xs:List V}{ds:List D}(hl:ks.length=xs.length)(r:Reps K F xs ds):∃cO b7 bV,HO.dK (Yn (ks.zip xs) k v)=ho (some cO) b7/\Vs (some cO) b7/\Reps K F b7 bV/\Wj ks ds k d=Zm (some cO) bV:=by
 unfold Yn Wj;rw[EO k hl];by_cases z:hasK k ks=true
 ·obtain⟨a,b,c⟩:=A3 k hv hl r;refine⟨ks,Tv ks xs k v,NJ ks ds k d,?_,b,c,?_⟩;·rw[if_pos z,a];rfl
  ·rw[if_pos z];rfl
 ·refine⟨ks++[k],xs++[v],ds++[d],?_,?_,r.snoc hv,?_⟩
  ·rw[if_neg z];show HO.dK (ks.zip xs++[(k,v)])=.dK ((ks++[k]).zip (xs++[v]));rw[List.zip_append hl];rfl
  ·show(ks++[k]).length=(xs++[v]).length;rw[Qg,Qg,hl];rfl
  ·rw[if_neg z];rfl
def HG{K:Fg}{F H:Hp}{v:V}{d:D}{k:Kd}(r:RdD K F H v d)(h:Xk d=some k):v=kV k:=by cases d with|str x=>cases h;exact r.str|int i=>cases h;exact r.int|_=>cases h
section
variable{X:Cx}{O O' OL:List Nat}{w:Bool}{e a b:Expr}{pos:Pos}
def SI:PE X (.Dict [] [] pos) (tO X O (eC (.dic [] []))):=PE.imp Qh1 λσ H Q⟨F0,F,en,d,rs,z,k⟩=>by cases z;intro p hp;exact k p (some []) [] [] F _ (Gr.newO rs.fh hp (.dK [])) hp (rs.fh.none hp) Jq .nil rfl rfl
def P5{ea eb:Q8}(hu:X.A.units+1<cLine)(ha:PE X a (tR X O ea))(hb:PE X b (tR X O eb))(hs:Li b:=by intro _ _;rfl):PE X (.Subscript a b pos) (tD X O (Q4 D.dget ea eb)):=PE.imp (Qh0 hu ha hb hs) λσ H Q⟨F0,F,en,d,rs,z,k⟩=>by
  obtain⟨dx,dy,e1,e2,e3⟩:=U4 z;refine⟨F0,F,en,dx,rs,e1,λx F1 H1 g1 r1=>⟨F0,F1,en,dy,rs.grow g1,e2,λy F2 H2 g2 r2=>?_⟩⟩;cases dx with
  |dic ks ds=>
   obtain⟨kk,q1,q2⟩:=J2 (show((Xk dy).bind λk=>XC ks ds k)=some d from e3);obtain⟨p,xs,rfl,h,hl,rp⟩:=(r1.gr g2).dic g2.fh;rcases Gq kk hl rp with⟨n,_⟩|⟨d',v',a1,a2,a3,_⟩;·rw[n]at q2;cases q2
   ·rw[a1]at q2;cases q2;refine⟨p,v',rfl,?_,k v' F2 H2 (g1.trans g2) a3⟩;rw[HG r2 q1,<-a2];exact .inl ⟨_,_,h,rfl,rfl⟩|_=>cases e3
def DG{ea eb:Q8}{g:Bool->Bool}{f:D->D->Option D}(hf:∀y d r,f y d=some r->∃ks ds k,d=.dic ks ds/\Xk y=some k/\r=.bl (g (hasK k ks))){σ:L2.St}{H:Hp}{Q:Bool->Hp->Prop}(h:tDT X O (Q4 f ea eb) σ H Q):tR X O ea σ H λy H1=>tR X O eb σ H1 λx H2=>∃a o,x=.ref a/\DGet H2 a y o/\∃d,V.bl (g o.isSome)=.bl d/\Q d H2:=by
 obtain⟨F0,F,en,b,rs,z,k⟩:=h;obtain⟨dy,dx,e1,e2,e3⟩:=U4 z;obtain⟨ks,ds,kk,rfl,q1,q2⟩:=hf _ _ _ e3;refine⟨F0,F,en,dy,rs,e1,λy F1 H1 g1 r1=>⟨F0,F1,en,_,rs.grow g1,e2,λx F2 H2 g2 r2=>?_⟩⟩;obtain⟨p,xs,rfl,h,hl,rp⟩:=r2.dic g2.fh;refine⟨p,Zs (ks.zip xs) kk,rfl,?_,?_⟩;·rw[HG (r1.gr g2) q1];exact .inl ⟨_,_,h,rfl,rfl⟩
 ·have:(Zs (ks.zip xs) kk).isSome=hasK kk ks:=by
   rcases Gq kk hl rp with⟨_,n,m⟩|⟨d',v',_,a2,_,m⟩;·rw[n,m];rfl
   ·rw[a2,m];rfl
  rw[this];cases q2;exact⟨_,rfl,k F2 H2 (g1.trans g2)⟩
def QdP{ea eb:Q8}(hu:X.A.units+1<cLine)(ha:PE X a (tR X O ea))(hb:PE X b (tR X O eb))(hm:behindInMarks .In b=false:=by with_unfolding_all rfl):PT X (.Compare a [.In] [b] pos) (tDT X O (Q4 D.dIn ea eb)):=PT.imp (Bp (QhS hu ha hb) hm) λσ H Q h=>by have q:=DG (g:=id) (λy d r e=>by cases d with|dic ks ds=>obtain⟨k,e1,rfl⟩:=Jy (show((Xk y).map λk=>D.bl (hasK k ks))=some r from e);exact⟨ks,ds,k,rfl,e1,rfl⟩|_=>cases e) h;exact q
def Ij{ea eb:Q8}(hu:X.A.units+1<cLine)(ha:PE X a (tR X O ea))(hb:PE X b (tR X O eb))(hm:behindInMarks .NotIn b=false:=by with_unfolding_all rfl):PT X (.Compare a [.NotIn] [b] pos) (tDT X O (Q4 D.dNotIn ea eb)):=PT.imp (Bp (QhT hu ha hb) hm) λσ H Q h=>by have q:=DG (g:=not) (λy d r e=>by cases d with|dic ks ds=>obtain⟨k,e1,rfl⟩:=Jy (show((Xk y).map λk=>D.bl (!hasK k ks))=some r from e);exact⟨ks,ds,k,rfl,e1,rfl⟩|_=>cases e) h;exact q
def TR(i:Nat)(hi:i∈O){x:Str}{p pos':Pos}{v key:Expr}{ek ev:Q8}(hu:X.A.units+1<cLine)(hk:PE X key (tR X O ek))(hv:PE X v (tD X O ev))(hN:X.N[i]?=some x:=by rfl)(jD:Vu X.env.scope x:=by first|exact Or.inl rfl|exact Or.inr (Or.inl rfl)|exact Or.inr (Or.inr rfl))(hd:(x==("__debug__":Str))=false:=by decide)(ck:(x==("__classdict__":Str))=false:=by decide)(hs:swapsWith v (some (.Subscript (.Name x p) key pos')) pos.line X.env=pure false:=by rfl):PS X (.Assign [.Subscript (.Name x p) key pos'] v pos) (tS X O O OL w (WZ i ek ev)):=PS.imp (Qiu hu (Zo hN jD hd ck) hk hv hs) λDn σ H⟨F0,F,en,fl,rs,z,k⟩=>by
  obtain⟨dv,e1,z1⟩:=J2 z;obtain⟨dx,e2,z2⟩:=J2 z1;obtain⟨dy,e3,z3⟩:=J2 z2;obtain⟨dz,e4,rfl⟩:=Jy z3;refine⟨F0,F,en,dv,rs,e1,λu F1 H1 g1 r1=>?_⟩;have bZ:=rs.grow g1;obtain⟨p,kk,xs,ds,h1,h2,h3,h4,h5,h6,h7⟩:=bZ.own i dx (VB e2) hi;refine⟨_,h1,F0,F1,en,dy,bZ,e3,λy F2 H2 g2 r2=>?_⟩;have dh:=bZ.grow g2;obtain⟨p',cU,b7,bV,k1,k2,k3,k4,k5,k6,k7⟩:=dh.own i dx (VB e2) hi;rw[h1]at k1;cases k1;subst k6;cases cU with|none=>cases e4|some ks=>
   obtain⟨kx,q1,q2⟩:=J2 (show((Xk dy).bind λk=>if ks.length<lI then some (Wj ks bV k dv)else none)=some dz from e4);split at q2
   ·rename_i hz;cases q2;obtain⟨ks2,kK,ds2,a1,a2,a3,a4⟩:=QiG (k:=kx) (r1.mono g2.ff) k7 k5;refine⟨p,upd H2 p (.dK (Yn (ks.zip b7) kx u)),rfl,?_,?_⟩
    ·rw[HG r2 q1];exact DPut.k k4 (by rw[WY,show ks.length=b7.length from k7,min_self,<-show ks.length=b7.length from k7,VG];exact hz)
    ·rw[a1];rw[a4]at k;exact k _ F2 _ (g1.ff.trans g2.ff) (dh.write hi (VB e2) h1 k2 k3 a2 a3)
   ·cases q2
end
noncomputable def er(H:Hp)(p:Addr):Hp:=λa=>if a=p then none else H a
def Dh{H:Hp}{p:Addr}:er H p p=none:=if_pos rfl
def NS{H:Hp}{p a:Addr}(h:a≠p):er H p a=H a:=if_neg h
def Qd3{H:Hp}{p:Addr}:Sm (er H p) H:=λa o h=>by
 by_cases z:a=p;·rw[z,Dh]at h;cases h
 ·rw[NS z]at h;exact h
theorem Sm.er{F H:Hp}(s:Sm F H){p:Addr}(h:F p=Option.none):Sm F (er H p):=λa o e=>by
 have:a≠p:=λz=>by rw[z,h]at e;cases e
 rw[NS this];exact s a o e
def RT(K:Fg)(f:List D->Option D):Sp:=λvs H Q _=>∃F us cs p kk xs es d,Sm F H/\vs=us++[.ref p]/\Reps K F us cs/\F p=none/\H p=some (ho kk xs)/\Vs kk xs/\Reps K F xs es/\f (cs++[Zm kk es])=some d/\∀cU b7 dN F' H',Gr F (er H p) F' H'->F' p=none->H' p=some (ho cU b7)->Vs cU b7->Reps K F' b7 dN->d=Zm cU dN->Q .non H'
section
variable{P:Program}{w:World}{K:Fg}{mg:Str->Option Value}{ab:Heap}{x:Str}{st:Stmt}{N ps:List Str}{k:Nat}{b:QF}
def Qi3{F H:Hp}{us:List V}{cs:List D}{p:Addr}{kk:Option (List Kd)}{xs:List V}{es:List D}(n m:Nat)(hm:us.length=m)(hn:m<n)(ic:n<=1000)(s:Sm F H)(r:Reps K F us cs)(hf:F p=none)(hp:H p=some (ho kk xs))(hk:Vs kk xs)(re:Reps K F xs es):RS K H ⟨F,er H p,some p⟩ F H ((us++[V.ref p]).map some++List.replicate (n-(us++[V.ref p]).length) none) (sD n (cs++[Zm kk es])) [m,Qh m]:=by
 have hc:cs.length=m:=by rw[<-r.length];exact hm
 have em:(sD n (cs++[Zm kk es]))[m]?=some (some (Zm kk es)):=by
  unfold sD;rw[YH (by rw[Qm,Qg,hc];simp),Yb,Vk (by omega),hc];simp
 have sm:((us++[V.ref p]).map some++List.replicate (n-(us++[V.ref p]).length) none)[m]?=some (some (V.ref p)):=by
  rw[YH (by rw[Qm,Qg,hm];simp),Yb,Vk (by omega),hm];simp
 have big:∀i d,(sD n (cs++[Zm kk es]))[i]?=some (some d)->i<n:=λi d h=>by
  have:i<(sD n (cs++[Zm kk es])).length:=by cases V1 i (sD n (cs++[Zm kk es])).length with|inl h=>exact h|inr h'=>rw[XQ h']at h;cases h
  unfold sD at this;rw[Qg,Qm,Qg,RB,hc]at this;simp at this;omega
 refine⟨s,Qd3,.refl F,λ_ _ h=>.inl h,λi d h hi=>?_,λi d h hi=>?_,λi j q d1 d2 hi hj h1 h2 _ _=>?_,λi hi=>?_,?_⟩
 ·have iZ:i≠m:=λz=>hi (by rw[z];simp);unfold sD at h;rcases V1 i m with hl|hl
  ·rw[YH (by rw[Qm,Qg,hc];simp;omega),Yb,YH (by omega)]at h;have hd:cs[i]?=some d:=by cases q:cs[i]? with|none=>rw[q]at h;cases h|some d'=>rw[q]at h;cases h;rfl
   obtain⟨v,h1,h2⟩:=r.get hd;refine⟨v,?_,h2⟩;rw[YH (by rw[Qm,Qg,hm];simp;omega),Yb,YH (by omega),h1];rfl
  ·rw[Vk (by rw[Qm,Qg,hc];simp;omega),RA]at h;split at h<;>cases h
 ·have bM:=big i d h;have hi':i=m:=by
   rcases q_5.mp hi with z|z;·exact z
   ·have:=q_1.mp z;unfold Qh at this;omega
  subst hi';rw[em]at h;cases h;exact⟨p,kk,xs,es,sm,Dh,hf,hp,re,rfl,hk⟩
 ·have a1:=big i d1 h1;have a2:=big j d2 h2;have e1:i=m:=by
   rcases q_5.mp hi with z|z;·exact z
   ·have:=q_1.mp z;unfold Qh at this;omega
  have e2:j=m:=by
   rcases q_5.mp hj with z|z;·exact z
   ·have:=q_1.mp z;unfold Qh at this;omega
  rw[e1,e2]
 ·have:i=m:=by
   rcases q_5.mp hi with z|z;·unfold Qh at z;omega
   ·have:=q_1.mp z;unfold Qh at this;omega
  subst this;exact⟨p,rfl,sm⟩
 ·unfold sD;simp[r.length]
def Nz(h:Df K mg x st ps)(S:FnScope N ps (Qp st)){O' OL:List Nat}(hps:0<ps.length)(hpn:ps.length<=N.length)(mT:N.length<=1000)(mS:ps.length-1∈O')(mR:Qh (ps.length-1)∈O')(hb:∀(f:Addr)(az:Value)(A:Around)(ag:List Env)(s:Shared)(H:Hp)(E:XK),Room k (A.deeper (envOfC x (Qp st) s.heap.objs.size f az))->PSs (V9 Yg P w K mg ab N x (Qp st) f az A ag s H E).nox (Yp st) (tS (V9 Yg P w K mg ab N x (Qp st) f az A ag s H E).nox [ps.length-1,Qh (ps.length-1)] O' OL false b)):Qi P w K mg ab (k+1) x ps (RT K (Xc N.length ps.length b)):=by
 obtain⟨f,fd,F,fc,hm⟩:=h;have len:∀{us:List V}{cs:List D}{Fz:Hp}{p:Addr}{dd d:D},Reps K Fz us cs->Xc N.length ps.length b (cs++[dd])=some d->us.length=ps.length-1/\cs.length=ps.length-1:=λr e=>by
  unfold Xc at e;split at e
  ·rename_i z;rw[Qg]at z;simp at z;have:=r.length;omega
  ·cases e
 refine⟨f,fd,F.ok S (λvs H Q E q=>?_) (λaz A ag s H vs Q E hr q=>?_),fc,F.kp,hm⟩
 ·obtain⟨Fz,us,cs,p,kk,xs,es,d,s,hv,r,hf,hp,hk,re,e,_⟩:=q;have:=len (p:=p) r e;rw[hv,Qg];simp;omega
 ·obtain⟨Fz,us,cs,p,kk,xs,es,d,sm,hv,r,hf,hp,hk,re,e,k⟩:=q;refine⟨_,hb f az A ag s H E hr,?_⟩;have hl:=len (p:=p) r e;have e':(match b (sD N.length (cs++[Zm kk es]))with|some (.nx e)=>(e[ps.length-1]?).join|_=>none)=some d:=by
   unfold Xc at e;split at e;·exact e
   ·cases e
  cases q:b (sD N.length (cs++[Zm kk es]))with|none=>rw[q]at e';cases e'|some fl=>
   rw[q]at e';have cV:Wc N vs=(us++[V.ref p]).map some++List.replicate (N.length-(us++[V.ref p]).length) none:=by rw[hv];rfl
   rw[cV];refine⟨⟨Fz,er H p,some p⟩,Fz,sD N.length (cs++[Zm kk es]),fl,Qi3 N.length (ps.length-1) hl.1 (by omega) mT sm r hf hp hk re,q,?_⟩;cases fl with
   |nx en=>
    intro σ' F' H' s' rs;have hd:en[ps.length-1]?=some (some d):=VB e';obtain⟨p',cU,b7,dN,h1,h2,h3,h4,h5,h6,h7⟩:=rs.own _ _ hd mS;obtain⟨p2,m1,m2⟩:=rs.pin _ mR;cases m1;rw[h1]at m2;cases m2;exact k cU b7 dN F' H' rs.ex.gr h3 h4 h7 h5 h6|rt d'=>cases e'|bk en=>cases e'|ct en=>cases e'
end
def RS.call{K:Fg}{H₀:Hp}{F0:Fz}{F H F' H':Hp}{σ:L2.St}{en:QD}{O:List Nat}{i:Nat}{p:Addr}{d0:D}{kk:Option (List Kd)}{xs:List V}{es:List D}(r:RS K H₀ F0 F H σ en O)(hi:i∈O)(he:en[i]?=some (some d0))(hσ:σ[i]?=some (some (.ref p)))(h0:F0.h p=none)(g:Gr F (er H p) F' H')(hf:F' p=none)(hp:H' p=some (ho kk xs))(hk:Vs kk xs)(re:Reps K F' xs es):RS K H₀ F0 F' H' σ (en.set i (some (Zm kk es))) O:=have hl:i<en.length:=by cases V1 i en.length with|inl h=>exact h|inr h=>rw[XQ h]at he;cases he
 {
 fh:=g.fh
 hh:=(r.hh.er h0).trans g.hh
 ff:=r.ff.trans g.ff
 fr:=λa o e=>by
  rcases g.fr a o e with z|z;·exact r.fr a o z
  ·by_cases q:a=p;·rw[q,hf]at e;cases e
   ·rw[NS q]at z;exact .inr (r.hh.none z)
 slot:=λj d' e1 hj=>by
  have z:i≠j:=λz=>hj (z▸hi);rw[Yd hl,if_neg z]at e1;obtain⟨v,h1,h2⟩:=r.slot j d' e1 hj;exact⟨v,h1,h2.mono g.ff⟩
 own:=λj d' e1 hj=>by
  rw[Yd hl]at e1;split at e1;·rename_i z;cases e1;subst z;exact⟨p,kk,xs,es,hσ,h0,hf,hp,re,rfl,hk⟩
  ·rename_i z;obtain⟨q,k2,ys,jh,h1,h2,h3,h4,h5,h6⟩:=r.own j d' e1 hj;have qp:q≠p:=λw:q=p=>z (r.dis i j p _ _ hi hj he e1 hσ (by rw[<-w];exact h1));have e4:er H p q=some (ho k2 ys):=by rw[NS qp];exact h4
   refine⟨q,k2,ys,jh,h1,h2,?_,g.hh _ _ e4,h5.mono g.ff,h6⟩;cases w:F' q with|none=>rfl|some o=>
    rcases g.fr q o w with z2|z2;·rw[h3]at z2;cases z2
    ·rw[e4]at z2;cases z2
 dis:=λj k q d1 d2 hj eW f1 f2 g1 g2=>by
  rw[Yd hl]at f1 f2;have k1:∃d,en[j]?=some (some d):=by
   split at f1;·rename_i z;subst z;exact⟨_,he⟩
   ·exact⟨_,f1⟩
  have k2:∃d,en[k]?=some (some d):=by
   split at f2;·rename_i z;subst z;exact⟨_,he⟩
   ·exact⟨_,f2⟩
  obtain⟨_,k1⟩:=k1;obtain⟨_,k2⟩:=k2;exact r.dis j k q _ _ hj eW k1 k2 g1 g2
 pin:=r.pin
 len:=by rw[W3];exact r.len}
def L3(X:Cx)(O:List Nat)(i:Nat)(l:Z4):TA:=λσ H Q=>∃F0 F e ds p,RS X.K X.H₀ F0 F H σ e O/\l e=some ds/\σ[i]?=some (some (.ref p))/\∀vs F' H',Gr F H F' H'->Reps X.K F' vs ds->Q (vs++[.ref p]) H'
section
variable{X:Cx}{O OL:List Nat}{w:Bool}{e a:Expr}{es:List Expr}{p pos aH:Pos}{x y:Str}{ps:List Str}{k:Nat}
def P4(i:Nat)(hN:X.N[i]?=some x:=by rfl)(hv:Vu X.env.scope x:=by first|exact Or.inl rfl|exact Or.inr (Or.inl rfl)|exact Or.inr (Or.inr rfl))(hd:(x==("__debug__":Str))=false:=by decide)(ck:(x==("__classdict__":Str))=false:=by decide):PA X [.Name x p] (L3 X O i lN):=PA.imp (ZE (Zo hN hv hd ck) VW Vm) λσ H Q⟨F0,F,en,ds,q,rs,z,hσ,k⟩=>by cases z;exact⟨_,hσ,k [] F H (.refl rs.fh) .nil⟩
def VI{i:Nat}{ea:Q8}{l:Z4}(ha:PE X a (tD X O ea))(hr:PA X es (L3 X O i l))(hs:starEach (a::es) X.env=(false,eval a X.env)::starEach es X.env:=by rfl):PA X (a::es) (L3 X O i (lC ea l)):=PA.imp (ZE ha hr hs) λσ H Q⟨F0,F,en,ds,q,rs,z,hσ,k⟩=>by obtain⟨d,e1,e2⟩:=J2 z;obtain⟨bV,e3,rfl⟩:=Jy e2;refine⟨F0,F,en,d,rs,e1,λv F1 H1 g1 r1=>?_⟩;exact⟨F0,F1,en,bV,q,rs.grow g1,e3,hσ,λvs F2 H2 g2 r2=>k (v::vs) F2 H2 (g1.trans g2) (.cons (r1.mono g2.ff) r2)⟩
def P9(i:Nat)(hi:i∈O){f:List D->Option D}{l:Z4}(c:Qi X.prog X.w X.K X.mg X.ab k x ps (RT X.K f))(hr:Room k X.A)(hg:Gl X x)(ha:PA X (e::es) (L3 X O i l))(cj:(x==("__debug__":Str))=false:=by decide)(he:starEach (e::es) X.env=(false,eval e X.env)::starEach es X.env:=by rfl)(cR:(backTo aH (starEach es X.env)).any (·.1)=false:=by rfl)(eU:swapsWith (.Call (.Name x p) (e::es) [] aH) none pos.line X.env=pure false:=by rfl):PS X (.Expr (.Call (.Name x p) (e::es) [] aH) pos) (tS X O O OL w (XS i f l)):=by
 obtain⟨fa,fd,F,hb,hk,hm⟩:=c;refine PS.imp (Vz (Hl F hr hg hm hk hb (.nil:Vals [] []) Hk ha cj he cR) eU) λDn σ H⟨F0,F,en,fl,rs,z,k⟩=>?_;obtain⟨ds,e1,z1⟩:=J2 z;obtain⟨dx,e2,z2⟩:=J2 z1;obtain⟨dz,e3,rfl⟩:=Jy z2;obtain⟨q,kk,xs,dN,h1,h2,h3,h4,h5,h6,h7⟩:=rs.own i dx (VB e2) hi;refine⟨F0,F,en,ds,q,rs,e1,h1,λvs F1 H1 g1 r1=>?_⟩;have bZ:=rs.grow g1;obtain⟨q',cU,b7,jh,k1,k2,k3,k4,k5,k6,k7⟩:=bZ.own i dx (VB e2) hi;rw[h1]at k1;cases k1;subst k6;refine⟨F1,vs,ds,q,cU,b7,jh,dz,g1.fh,?_,r1,k3,k4,k7,k5,e3,λkk2 kK es3 F' H' g hf hp mB re ed=>?_⟩;·rw[Zp]
 ·subst ed;exact k σ F' H' (g1.ff.trans g.ff) (bZ.call hi (VB e2) h1 k2 g hf hp mB re)
end
def E4(K:Fg)(a b:Addr):It:=⟨λi H=>∃xs ys x y,SqL K H a xs/\SqL K H b ys/\xs[i]?=some x/\ys[i]?=some y,λi H x H'=>∃p y1 y2,H p=none/\x=.ref p/\H'=upd H p (.tup [y1,y2])/\(∀xs,SqL K H a xs->xs[i]?=some y1)/\∀ys,SqL K H b ys->ys[i]?=some y2,λi H=>∃xs ys,SqL K H a xs/\SqL K H b ys/\(xs.length<=i\/ys.length<=i)⟩
def Qka{P:Program}{w:World}{K:Fg}{elts:List Expr}{x1:Nat}{pos:Pos}(l1 l2 z TI TO i1 i2:Addr)(D:ZipApart z TI TO i1 i2 l1 l2):Turn P w K (.Tuple elts x1 pos) (E4 K l1 l2) [z,TI,TO,i1,i2] z (λi h=>IsZip h z TI TO .none/\IsPair h TI (.ref i1) (.ref i2)/\(∃a b,IsPair h TO a b)/\h.IsListIter i1 l1 i/\h.IsListIter i2 l2 i)where
 mem:=by simp
 obj:=λi h st b hb=>by
  obtain⟨hz,dt,⟨a,c,dM⟩,⟨o1,mf,c1,d1⟩,⟨o2,dS,c2,d2⟩⟩:=st;simp only[q_5,Y4,or_false]at hb;rcases hb with q|q|q|q|q<;>subst q;·exact⟨_,hz,λv e=>by
    have e':Data.fields _=Data.cell v:=e;cases e'⟩
  ·exact⟨_,dt,λv e=>by
    have e':Data.seq _=Data.cell v:=e;cases e'⟩
  ·exact⟨_,dM,λv e=>by have e':Data.seq _=Data.cell v:=e;cases e'⟩
  ·exact⟨o1,mf,λv e=>by rw[d1]at e;cases e⟩
  ·exact⟨o2,dS,λv e=>by rw[d2]at e;cases e⟩
 keep:=λi h h' st k=>by obtain⟨hz,dt,⟨a,c,dM⟩,h1,h2⟩:=st;exact⟨k z (by simp) _ hz,k TI (by simp) _ dt,⟨a,c,k TO (by simp) _ dM⟩,h1.at λo q=>k i1 (by simp) o q,h2.at λo q=>k i2 (by simp) o q⟩
 item:=by
  intro X hP hw hK hc i aa s σ H E I hf st hg;subst hP hw hK;obtain⟨hz,dt,⟨a,c,dM⟩,h1,h2⟩:=st;obtain⟨xs,ys,x,y,fI,fH,hx,hy⟩:=hg;obtain⟨gA,gO,p1,_⟩:=I.list fI;obtain⟨bO,gN,p2,_⟩:=I.list fH;obtain⟨u1,lQ,kS⟩:=gO.get hx;obtain⟨u2,lP,kR⟩:=gN.get hy;refine wpAny_pyNext_zip_item D hz dt dM h1 h2 p1.isList p2.isList (x:=u1) (y:=u2) (by simpa using lQ) (by simpa using lP) λh' fZ jP fg jd hT hsz kk=>?_;refine⟨_,rfl,wpAny_letOwnedTupleGo_zip fZ λh3 lF sb=>?_⟩;have k2:∀b o,b∉[z,TI,TO,i1,i2]->s.heap.get? b=some o->h3.get? b=some o:=λb o hb q=>by
   have a1:b≠z:=λe=>hb (by simp[e]);have a2:b≠TO:=λe=>hb (by simp[e]);have a3:b≠i1:=λe=>hb (by simp[e]);have a4:b≠i2:=λe=>hb (by simp[e]);exact(sb.2 b a1).trans (kk b o a1 a2 a3 a4 q)
  have fe:H s.heap.objs.size=none:=I.hok.fresh (Qx _);have lz:z<s.heap.objs.size:=Heap.lt_size hz;have lU:h3.get? s.heap.objs.size=some {cls:=.type "tuple",data:=.seq #[u1,u2]}:=(sb.2 _ (ne_of_gt lz)).trans hT;have I2:Inv X aa σ (upd H s.heap.objs.size (.tup [x,y])) {s with heap:=h3,toks:=s.toks}:=QaI (t':=s.toks) I k2 hf (Qx _) (show ObjOk X.prog X.w _ h3 _ (.tup [x,y])from⟨by show 2<=sizeLine;decide,[u1,u2],.cons kS (.cons kR .nil),⟨_,lU,rfl,_,rfl⟩⟩);have jQ:IsPair h3 TI (.ref i1) (.ref i2):=(sb.2 _ D.TIz).trans (kk TI _ D.TIz D.TITO D.TIi1 D.TIi2 dt);refine⟨.ref s.heap.objs.size,_,I2,rfl,⟨_,x,y,fe,rfl,rfl,λzs fZ=>by rw[I.list_inj fZ fI];exact hx,λzs fZ=>by rw[I.list_inj fZ fH];exact hy⟩,⟨lF,jQ,⟨u1,u2,(sb.2 _ D.TOz).trans jP⟩,fg.at λo q=>(sb.2 _ D.i1z).trans q,jd.at λo q=>(sb.2 _ D.i2z).trans q⟩,λb hb=>?_⟩;have bM:b<s.heap.objs.size:=by
   simp only[q_5,Y4,or_false]at hb;rcases hb with q|q|q|q|q<;>subst q;·exact lz
   ·exact Heap.lt_size dt
   ·exact Heap.lt_size dM
   ·obtain⟨o,ho,_⟩:=h1;exact Heap.lt_size ho
   ·obtain⟨o,ho,_⟩:=h2;exact Heap.lt_size ho
  rw[Qn (Y3 bM)];exact(hf b hb).1
 done:=by
  intro X hP hw hK hc i aa s σ H E I hf st hg;subst hP hw hK;obtain⟨hz,dt,⟨a,c,dM⟩,h1,h2⟩:=st;obtain⟨xs,ys,fI,fH,hx⟩:=hg;obtain⟨gA,gO,p1,_⟩:=I.list fI;obtain⟨bO,gN,p2,_⟩:=I.list fH;have l1':=gO.length;have l2':=gN.length;refine wpAny_pyNext_zip_end (I.ok.hd hc) D hz dt dM h1 h2 p1.isList p2.isList ?_ λh' kk=>⟨rfl,QaH (t':=s.toks) I (λb o hb q=>kk b o (λe=>hb (by simp[e])) (λe=>hb (by simp[e])) (λe=>hb (by simp[e])) (λe=>hb (by simp[e])) q) hf⟩;rcases hx with q|q;·left;simp;omega
  ·right;simp;omega
 self:=λ_ _ _ _ _ st h=>by obtain⟨hz,_⟩:=st;exact wpAny_pyIter_zip hz h
def QfY{x y:Nat}(h:x<y\/y<x):x≠y:=by omega
def Qkl(I l1 l2:Nat)(h1:l1<I)(h2:l2<I):ZipApart (I+4) (I+2) (I+3) I (I+1) l1 l2:=by constructor<;>(refine QfY ?_;omega)
section
variable{X:Cx}{O:List Nat}{a b:Expr}{p pos:Pos}
def QeD(K:Fg)(ta:TA):TI:=λσ H R=>ta σ H λvs H1=>∃l m,vs=[.ref l,.ref m]/\(∃xs,SqL K H1 l xs)/\(∃ys,SqL K H1 m ys)/\R (E4 K l m) H1
def Qih{elts:List Expr}{x1:Nat}{cH:Pos}{ta:TA}(hg:Gl X "zip")(hm:X.mg "zip"=none)(ha:PA X [a,b] ta)(hs:starEach [a,b] X.env=[(false,eval a X.env),(false,eval b X.env)])(fG:starEach [b] X.env=[(false,eval b X.env)]):PI X (.Tuple elts x1 cH) (.Call (.Name "zip" p) [a,b] [] pos) (QeD X.K ta):=by
 intro aa s σ H R I h;refine Call_ (Sr I hg hm boot_zip (PyProof.Rows.callWith_type1 (Qa (ha pos aa s σ H _ I h) λus s1⟨vs,H1,I1,r1,q1⟩=>?_) (by rw[hs,fG]) (by rw[fG];rfl)));obtain⟨l,m,e,⟨xs,fI⟩,⟨ys,fH⟩,q⟩:=q1;subst e;obtain⟨u,u2,rfl,rx,ry⟩:=LC r1;cases rx;cases ry;obtain⟨gA,gO,p1,_⟩:=I1.list fI;obtain⟨bO,gN,p2,_⟩:=I1.list fH;have lh:l<s1.heap.objs.size:=by obtain⟨o,ho,_⟩:=p1.isList;exact Heap.lt_size ho
 have lg:m<s1.heap.objs.size:=by obtain⟨o,ho,_⟩:=p2.isList;exact Heap.lt_size ho
 have D:ZipApart (s1.heap.objs.size+4) (s1.heap.objs.size+2) (s1.heap.objs.size+3) s1.heap.objs.size (s1.heap.objs.size+1) l m:=Qkl _ _ _ lh lg;refine call_zip_2 p1.isList p2.isList λh' hz dt dM iq eX hsz hk=>?_;have I2:Inv X aa σ H1 {s1 with heap:=h'}:=I1.kept (t':=s1.toks) hk;have fe:∀b,s1.heap.objs.size<=b->H1 b=none:=λb hb=>I1.hok.fresh hb;refine wpAny_pyIter_zip hz ⟨_,[s1.heap.objs.size+4,s1.heap.objs.size+2,s1.heap.objs.size+3,s1.heap.objs.size,s1.heap.objs.size+1],_,_,H1,rfl,I2,Qka l m _ _ _ _ _ D,⟨hz,dt,⟨_,_,dM⟩,iq,eX⟩,λb hb=>?_,q⟩;have:s1.heap.objs.size<=b:=by
  simp only[q_5,Y4,or_false]at hb;rcases hb with q|q|q|q|q<;>rw[q];·exact le_add_right _ _
  ·exact le_add_right _ _
  ·exact le_add_right _ _
  ·exact Qx _
  ·exact le_add_right _ _
 exact I1.fpOk this (fe b this)
theorem Gu:∀(as bs:List D),(V5 as bs).length=min as.length bs.length|[],_=>by simp[V5]|_::_,[]=>by simp[V5]|a::as,b::bs=>by rw[V5,JM,Gu,JM,JM];omega
theorem QaV:∀(as bs:List D)(i:Nat)(x y:D),as[i]?=some x->bs[i]?=some y->(V5 as bs)[i]?=some (.tup [x,y])|[],_,_,_,_,h,_=>by simp at h|_::_,[],_,_,_,_,h=>by simp at h|a::as,b::bs,0,_,_,h1,h2=>by simp at h1 h2;subst h1 h2;simp[V5]|a::as,b::bs,i+1,x,y,h1,h2=>by rw[V5,W4];exact QaV as bs i x y (by simpa using h1) (by simpa using h2)
def CU{K:Fg}{F:Hp}{v:V}{d:D}{ds:List D}(r:Rep K F v d)(e:D.its d=some ds):∃l xs,v=.ref l/\SqL K F l xs/\Reps K F xs ds:=by cases r with|@lst l xs bV hl r=>cases e;exact⟨l,xs,rfl,SqL.of hl,r⟩|@scr l ns hl=>cases e;exact⟨l,_,rfl,hl,Reps.ints ns⟩|_=>cases e
def P6{elts:List Expr}{x1:Nat}{cH:Pos}{ea eb:Q8}(hg:Gl X "zip")(hm:X.mg "zip"=none)(ha:PE X a (tD X O ea))(hb:PE X b (tD X O eb))(hs:starEach [a,b] X.env=[(false,eval a X.env),(false,eval b X.env)]:=by rfl)(fG:starEach [b] X.env=[(false,eval b X.env)]:=by rfl):PI X (.Tuple elts x1 cH) (.Call (.Name "zip" p) [a,b] [] pos) (tI X O (WN ea eb)):=PI.imp (Qih hg hm (ZE ha (ZE hb VW fG) (by rw[hs,fG])) hs fG) λσ H R⟨F0,F,en,kG,rs,z,k⟩=>by
  obtain⟨dx,e1,z1⟩:=J2 z;obtain⟨dy,e2,z2⟩:=J2 z1;obtain⟨b7,e3,z3⟩:=J2 z2;obtain⟨kJ,e4,rfl⟩:=Jy z3;refine⟨F0,F,en,dx,rs,e1,λv F1 H1 g1 r1=>⟨F0,F1,en,dy,rs.grow g1,e2,λu F2 H2 g2 r2=>?_⟩⟩;obtain⟨l,xs,rfl,hl,rx⟩:=CU (r1.mono g2.ff) e3;obtain⟨m,ys,rfl,dj,ry⟩:=CU r2 e4;refine⟨l,m,rfl,⟨xs,g2.fh.sqL hl⟩,⟨ys,g2.fh.sqL dj⟩,k F2 H2 _ (g1.trans g2) ⟨λi F' H' s s' hi=>?_,λi F' H' x H3 s s' hi hy=>?_,λi F' H' s s' hi=>?_⟩⟩;·rw[Gu]at hi;obtain⟨v1,h1,_⟩:=rx.get (Qk (show i<b7.length by omega));obtain⟨v2,h2,_⟩:=ry.get (Qk (show i<kJ.length by omega));exact⟨xs,ys,v1,v2,s'.sqL (s.sqL hl),s'.sqL (s.sqL dj),h1,h2⟩
  ·obtain⟨p,y1,y2,hp,rfl,rfl,hJ,lK⟩:=hy;obtain⟨d1,a1,a2⟩:=rx.getV (hJ xs (s'.sqL (s.sqL hl)));obtain⟨d2,b1,b2⟩:=ry.getV (lK ys (s'.sqL (s.sqL dj)));have g:=Gr.new s' hp (.tup [y1,y2]);exact⟨_,.tup [d1,d2],g,QaV _ _ i d1 d2 a1 b1,.tup Jq (.cons ((a2.mono s).mono g.ff) (.cons ((b2.mono s).mono g.ff) .nil))⟩
  ·rw[Gu]at hi;exact⟨xs,ys,s'.sqL (s.sqL hl),s'.sqL (s.sqL dj),by rw[rx.length,ry.length];omega⟩
end
section
variable{X:Cx}{O OL:List Nat}{w:Bool}{c:Expr}{body:List Stmt}{pos:Pos}
def QdK{ec:Q8}{b:QF}(hp:PassesOwn (model X.prog X.w) X.A X.env X.xe)(hc:PT X c (tDT X O ec))(hb:PSs X body (tS X O O O w b)):PS X (.While c body [] pos) (tS X O O OL w (A9 ec b)):=PS.imp (Qiv hp hc hb) λDn σ H⟨F0,F,en,fl,rs,z,k⟩=>by
  refine⟨λm σ' H'=>∃F' bg,Sm F F'/\RS X.K X.H₀ F0 F' H' σ' bg O/\X7 ec b m bg=some fl,⟨100000,F,en,.refl F,rs,z⟩,?_⟩;rintro m σ' H'⟨F',bg,s',bE,e3⟩;cases m with
  |zero=>cases e3|succ n=>
   obtain⟨q,e4,e5⟩:=UI (show YT (ec bg) (Vp (b bg) (X7 ec b n)) (some (.nx bg))=some fl from e3);refine⟨F0,F',bg,q,bE,e4,λF1 H1 g1=>?_⟩;cases q with
   |true=>
    rw[if_pos rfl];have m7:Vp (b bg) (X7 ec b n)=some fl:=e5;obtain⟨f,e6,e7⟩:=QaK m7;refine⟨λσ2 H2=>∃F' bg,Sm F F'/\RS X.K X.H₀ F0 F' H2 σ2 bg O/\X7 ec b n bg=some fl,λσ2 H2 q=>⟨n,Nat.lt_succ_self n,q⟩,F0,F1,bg,f,bE.grow g1,e6,?_⟩;have sA:Sm F F1:=s'.trans g1.ff;cases f with
    |nx e=>exact λσ4 F4 H4 s4 cF=>⟨F4,e,sA.trans s4,cF,e7⟩|ct e=>exact λσ4 F4 H4 s4 cF=>⟨F4,e,sA.trans s4,cF,e7⟩|bk e=>cases e7;exact λσ4 F4 H4 s4 cF=>k σ4 F4 H4 (sA.trans s4) cF|rt d=>cases e7;exact k
   |false=>rw[if_neg (by decide)];cases e5;exact k σ' F1 H1 (s'.trans g1.ff) (bE.grow g1)
end
section
variable{X:Cx}{O:List Nat}{a:Expr}{p q pos:Pos}
def QeP{P:Program}{w:World}{k:JC}{v:Value}(h:(YY P w).is k v=true):RelV (kV k) v:=by
 rcases Xl (show Td k v=true from h)with⟨i,t,rfl,rfl⟩|⟨x,t,rfl,rfl⟩;·exact⟨t,rfl⟩
 ·exact⟨t,rfl⟩
def Qfa{κ:Type}{ps:List (κ×V)}{vs:List (κ×Value)}(r:KV ps vs):∀{j:Nat}{p:κ×V}{v:κ×Value},ps[j]?=some p->vs[j]?=some v->p.1=v.1/\RelV p.2 v.2:=by unfold KV at r;induction r with|nil=>intro j p v h;simp at h|cons h _ ih=>intro j p v hp hv;cases j with|zero=>simp at hp hv;subst hp hv;exact h|succ j=>exact ih (by simpa using hp) (by simpa using hv)
def Py{κ:Type}{ps:List (κ×V)}{vs:List (κ×Value)}(r:KV ps vs):ps.length=vs.length:=Paired.length r
def QiY{K:Fg}{F:Hp}:∀k:Kd,Rep K F (kV k) (kD k)|.inl i=>.int i|.inr x=>.str x
end
def C7{X:Cx}{aa:List (Addr×Obj)}{σ:L2.St}{H:Hp}{s:Shared}{d:Addr}{o:Obj}{ah:List (JC×V)}{es:Array DictEntry}{ep:Nat}(I:Inv X aa σ H s)(hd:H d=some (.frz o (.dK ah)))(ho:o.data=.dict es ep):∃vs,KV ah vs/\s.heap.DictAt (YY X.prog X.w) d vs ep:=by obtain⟨h1,_,_,vs,rel,o',dN,iA,cD,hx,dB,J5⟩:=show ObjOk X.prog X.w H s.heap d (.frz o (.dK ah))from I.hok d _ hd;rw[h1]at cD;cases cD;rw[ho]at dB;cases dB;exact⟨vs,rel,o,es,h1,hx,ho,J5⟩
def E2(d:Addr)(o:Obj)(ah:List (JC×V))(vals:Bool):It:=⟨λi H=>H d=some (.frz o (.dK ah))/\i<ah.length,λi H x H'=>H'=H/\∃p,ah[i]?=some p/\x=if vals then p.2 else kV p.1,λi H=>H d=some (.frz o (.dK ah))/\ah.length<=i⟩
def Qj7{P:Program}{w:World}{K:Fg}{tg:Expr}(d it:Addr){o:Obj}{ah:List (JC×V)}{es:Array DictEntry}{ep:Nat}(ho:o.data=.dict es ep):Turn P w K tg (E2 d o ah false) [it] it (λi h=>h.IsKeyIter it d i ah.length ep)where
 mem:=by simp
 obj:=λi h st b hb=>by
  have e:b=it:=by simpa using hb
  subst e;obtain⟨o,e,c,d⟩:=st;exact⟨o,e,λv z=>by rw[d]at z;cases z⟩
 keep:=λi h h' st k=>st.at λo e=>k it (by simp) o e
 item:=by
  intro X hP hw hK hc i aa s σ H E I hf st hg;subst hP hw hK;obtain⟨hd,hi⟩:=hg;obtain⟨vs,rel,da⟩:=C7 I hd ho;have hl:=Py rel;obtain⟨f0,f1,f2,f3,f4,f5⟩:=hf it (by simp);have hx:vs[i]?=some (vs[i]'(by omega)):=Qk (by omega);obtain⟨e1,e2⟩:=Qfa rel (Qk hi) hx;refine wpAny_pyNext_dict_item (knd:=YY X.prog X.w) (k:=(vs[i]'(by omega)).1) (v:=(vs[i]'(by omega)).2) (by rw[<-hl];exact st) da hx λkey h' hk cc sb=>?_;have I1:Inv X aa σ H {s with heap:=h'}:=I.turned (t':=s.toks) (λb o hb e=>(sb.2 b hb).trans e) f0 f1 f3 f4 f5;rw[<-hl]at cc;obtain⟨oi,e,c,dd⟩:=id cc;exact⟨key,rfl,Iw (s:={s with heap:=h'}) e c dd (by decide) ⟨kV ah[i].1,H,I1,by rw[e1];exact QeP hk,⟨rfl,ah[i],Qk hi,rfl⟩,cc,λb hb=>(hf b hb).1⟩⟩
 done:=by
  intro X hP hw hK hc i aa s σ H E I hf st hg;subst hP hw hK;obtain⟨hd,hi⟩:=hg;obtain⟨vs,rel,da⟩:=C7 I hd ho;have hl:=Py rel;obtain⟨f0,f1,f2,f3,f4,f5⟩:=hf it (by simp);exact wpAny_pyNext_dict_end (knd:=YY X.prog X.w) (I.ok.hd hc) (by rw[<-hl];exact st) da (XQ (by omega)) λh' eb=>⟨rfl,I.turned (t':=s.toks) (λb o hb e=>eb b o hb e) f0 f1 f3 f4 f5⟩
 self:=λ_ _ _ _ _ st h=>wpAny_pyIter_keyiter st h
section
variable{X:Cx}{O:List Nat}{tg a iter:Expr}{p q:Pos}
def QeR{K:Fg}{F H:Hp}{d:Addr}{o:Obj}{ks:List Kd}{xs:List V}{ds:List D}(hd:F d=some (.frz o (.dK (ks.zip xs))))(hl:ks.length=xs.length)(rp:Reps K F xs ds)(vals:Bool):ItOk K F (E2 d o (ks.zip xs) vals) (if vals then ds else ks.map kD):=by
 have hz:(ks.zip xs).length=ks.length:=by rw[WY];omega
 have hrl:=rp.length;have hlen:(if vals then ds else ks.map kD).length=ks.length:=by cases vals<;>simp<;>omega
 refine⟨λi F' H' s s' hi=>⟨s' _ _ (s _ _ hd),by omega⟩,λi F' H' x H2 s s' hi⟨hH,p,hp,hx⟩=>?_,λi F' H' s s' hi=>⟨s' _ _ (s _ _ hd),by omega⟩⟩;subst hH;have hi':i<ks.length:=by omega
 rw[Qk (by omega)]at hp;cases hp;rw[getElem_zip]at hx;cases vals with
 |false=>
  refine⟨F',kD ks[i],.refl s',?_,?_⟩
  ·show(ks.map kD)[i]?=_;rw[Yb,Qk hi'];rfl
  ·rw[hx];exact QiY _|true=>obtain⟨dd,h1,h2⟩:=rp.getV (Qk (show i<xs.length by omega));refine⟨F',dd,.refl s',h1,?_⟩;rw[hx];exact h2.mono s
def DC{ev:Q8}(h:PE X iter (tD X O ev)):PI X tg iter (tI X O (HB ev)):=by
 rintro aa s σ H R I⟨F0,F,en,kG,rs,z,k⟩;obtain⟨d,e1,e2⟩:=J2 z;refine Qa (h aa s σ H (λx H1=>∃F1,Gr F H F1 H1/\Rep X.K F1 x d) I ⟨F0,F,en,d,rs,e1,λv F1 H1 g1 r1=>⟨F1,g1,r1⟩⟩) λv s1⟨x,H1,I1,rx,F1,g1,r1⟩=>?_;cases r1 with
 |@dic dd o ks xs ds hd hl rp=>
  cases e2;cases rx;have mK:=g1.fh _ _ hd;obtain⟨h1,zl,d4,vs,rel,o',es,ep,cD,hx,dB,J5⟩:=(show ObjOk X.prog X.w H1 s1.heap dd (.frz o (.dK (ks.zip xs)))from I1.hok dd _ mK);rw[h1]at cD;cases cD;have hlen:=Py rel;refine wpAny_pyIter_dict (knd:=YY X.prog X.w) (kvs:=vs) (ep:=ep) d4 ⟨o,es,h1,hx,dB,J5⟩ ?_;refine⟨s1.heap.objs.size,[s1.heap.objs.size],_,_,H1,rfl,I1.kept (t':=s1.toks) λb o e=>Heap.get?_push_of_some _ e,Qj7 dd _ (ah:=ks.zip xs) dB,⟨_,Heap.get?_push_size _ rfl,rfl,by rw[hlen];rfl⟩,λb hb=>?_,k F1 H1 _ g1 (QeR (H:=H1) hd hl rp false)⟩;have e:b=s1.heap.objs.size:=by simpa using hb
  subst e;exact I1.fpOk (Qx _) (I1.hok.fresh (Qx _))|_=>cases e2
end
noncomputable def un(G G':Hp):Hp:=λa=>match G a with|some o=>some o|none=>G' a
def Qkc(G G':Hp):Sm G (un G G'):=λa o h=>by unfold un;rw[h]
def Qkd{F G G':Hp}(s:Sm G F)(s':Sm G' F):Sm G' (un G G'):=λa o h=>by unfold un;cases e:G a with|none=>exact h|some x=>have:=s a x e;rw[s' a o h]at this;exact this.symm
def Qke{F G G':Hp}(s:Sm G F)(s':Sm G' F):Sm (un G G') F:=λa o h=>by unfold un at h;cases e:G a with|none=>rw[e]at h;exact s' a o h|some x=>rw[e]at h;cases h;exact s a _ e
def QaM{G G':Hp}{a:Addr}{o:HO}(h:un G G' a=some o):G a=some o\/G' a=some o:=by unfold un at h;cases e:G a with|none=>rw[e]at h;exact .inr h|some x=>rw[e]at h;exact .inl h
noncomputable def GV(p:Addr)(o:HO):Hp:=λa=>if a=p then some o else none
def Qkr(p:Addr)(o:HO):GV p o p=some o:=if_pos rfl
def Qks{F:Hp}{p:Addr}{o:HO}(h:F p=some o):Sm (GV p o) F:=λa x e=>by
 unfold GV at e;split at e;·rename_i z;subst z;cases e;exact h
 ·cases e
theorem Gr.un{F1 H1 G F' H':Hp}(sg:Sm G F1)(s1:Sm F1 H1)(g:Gr G H1 F' H'):Gr F1 H1 (un F1 F') H'/\Sm F' (un F1 F'):=by
 have s2:Sm F1 H':=s1.trans g.hh;refine⟨⟨Qkc _ _,g.hh,Qke s2 g.fh,λa o h=>?_⟩,Qkd s2 g.fh⟩;rcases QaM h with z|z;·exact .inl z
 ·rcases g.fr a o z with y|y;·exact .inl (sg a o y)
  ·exact .inr y
end Wd
namespace Wd
open PySem PySem.W PyProof.Rows
noncomputable def pl(p:Array Nat)(i:Nat):Nat:=(p[i]?).getD 0
def Qkq{p:Array Nat}{i j:Nat}(hj:j<=p.size)(k:Nat):pl (kas_rev p i j) k=if i<=k/\k<j then pl p (i+j-1-k)else pl p k:=by unfold pl kas_rev;rw[getElem?_mirror_all hj];split<;>rfl
structure Ord(lt:Nat->Nat->Bool)(n:Nat):Prop where
 as:∀i j,i<n->j<n->lt i j=true->lt j i=false
 tr:∀i j k,i<n->j<n->k<n->lt j i=false->lt k j=false->lt k i=false
section
variable{n:Nat}
structure Pm(n:Nat)(p:Array Nat):Prop where pm:p.Perm (List.toArray (List.range n))
theorem Pm.size{p:Array Nat}(h:Pm n p):p.size=n:=by have:=h.pm.toList.length_eq;simpa using this
def Pm.bd{p:Array Nat}(h:Pm n p)(hn:0<n)(i:Nat):pl p i<n:=by unfold pl;cases e:p[i]? with|none=>exact hn|some x=>have hx:x∈p:=Array.mem_of_getElem? e;have:=(h.pm.mem_iff).mp hx;simpa using this
end
section
variable{lt:Nat->Nat->Bool}{n:Nat}(o:Ord lt n)
def Dn(lt:Nat->Nat->Bool)(p:Array Nat)(k:Nat):Prop:=∀i j,i<=j->j<k->lt (pl p i) (pl p j)=false
include o
def Ord.ir(i:Nat)(h:i<n):lt i i=false:=by cases e:lt i i with|false=>rfl|true=>rw[o.as i i h h e]at e;cases e
def Eqs(lt:Nat->Nat->Bool)(p:Array Nat)(a k:Nat):Prop:=∀i j,a<=i->i<k->a<=j->j<k->lt (pl p i) (pl p j)=false
end
end Wd
namespace Wd
open PySem PySem.Spec PyProof.Rows L2
section
variable{μ:Type}
abbrev ZB(μ:Type):=QD->μ->Option (QD×μ)
noncomputable def loopR(g:Jk)(b:ZB μ):List D->ZB μ|[],e,m=>some (e,m)|d::ds,e,m=>(g d e).bind λe1=>(b e1 m).bind λr=>loopR g b ds r.1 r.2
def RJ(it:ZH)(g:Jk)(b:ZB μ):ZB μ:=λe m=>(it e).bind λds=>loopR g b ds e m
abbrev N3(μ:Type):=μ->Fz->Hp->Hp->Prop
def V3(X:Cx)(O:List Nat)(Res:N3 μ)(b:ZB μ):TS:=λDn σ H=>∃F0 F e m r,RS X.K X.H₀ F0 F H σ e O/\Res m F0 F H/\b e m=some r/\∀σ' F' H',Sm F F'->RS X.K X.H₀ F0 F' H' σ' r.1 O->Res r.2 F0 F' H'->Dn.nx σ' H'
variable{X:Cx}{O:List Nat}{Res:N3 μ}{tg iter:Expr}{body:List Stmt}{pos:Pos}
def Ii{it:ZH}{g:Jk}{b:ZB μ}(gr:∀m F0 F H F' H',Res m F0 F H->Gr F H F' H'->Res m F0 F' H')(hc:X.calm=true)(hp:PassesOwn (model X.prog X.w) X.A X.env X.xe)(hi:PI X tg iter (tI X O it))(hg:PG X tg (tG X O O g))(hb:PSs X body (V3 X O Res b))(hs:∀x,foldedSetIterable iter X.env x=pure x:=by intro _;rfl):PS X (.For tg iter body [] pos) (V3 X O Res (RJ it g b)):=PS.imp (Bm hp hc hi hg hb hs) λDn σ H⟨F0,F,en,m,rr,rs,res,z,k⟩=>by
  obtain⟨ds,e1,e2⟩:=J2 z;refine⟨F0,F,en,ds,rs,e1,λF1 H1 J g1 io=>?_⟩;refine⟨λi n σ' H'=>n=ds.length-i/\i<=ds.length/\∃F' bg m',Sm F1 F'/\RS X.K X.H₀ F0 F' H' σ' bg O/\Res m' F0 F' H'/\loopR g b (ds.drop i) bg m'=some rr,⟨ds.length,by omega,by omega,F1,en,m,.refl F1,rs.grow g1,gr _ _ _ _ _ _ res g1,by rw[drop_zero];exact e2⟩,?_⟩;rintro i n σ' H'⟨rfl,hle,F',bg,m',s',bE,cL,e3⟩;rcases V1 i ds.length with hi|hi
  ·refine .inr ⟨io.go i F' H' s' bE.fh hi,λσ2 H2=>∃n',n'<ds.length-i/\n'=ds.length-(i+1)/\i+1<=ds.length/\∃F' bg m',Sm F1 F'/\RS X.K X.H₀ F0 F' H2 σ2 bg O/\Res m' F0 F' H2/\loopR g b (ds.drop (i+1)) bg m'=some rr,λσ2 H2⟨n',h1,h2⟩=>⟨n',h1,h2⟩,λx H2 hy=>?_⟩;obtain⟨F2,d,g2,hd,r2⟩:=io.yld i F' H' x H2 s' bE.fh hi hy;have gc:ds.drop i=d::ds.drop (i+1):=by
    rw[RD hi];rw[Qk hi]at hd;cases hd;rfl
   rw[gc]at e3;obtain⟨gn,e4,e5⟩:=J2 (show((g d bg).bind λe1=>(b e1 m').bind λr=>loopR g b (ds.drop (i+1)) r.1 r.2)=some rr from e3);obtain⟨gT,e6,e7⟩:=J2 e5;refine⟨F0,F2,bg,d,gn,bE.grow g2,r2,e4,λσ3 H3 F3 s3 cN=>?_⟩;have sA:Sm F1 F3:=(s'.trans g2.ff).trans s3.ff;exact⟨F0,F3,gn,m',gT,cN,gr _ _ _ _ _ _ (gr _ _ _ _ _ _ cL g2) s3,e6,λσ4 F4 H4 s4 cF ju=>⟨_,by omega,rfl,hi,F4,gT.1,gT.2,sA.trans s4,cF,ju,e7⟩⟩
  ·have hz:ds.drop i=[]:=Oi hi;rw[hz]at e3;cases e3;exact .inl ⟨io.stop i F' H' s' bE.fh hi,k σ' F' H' (g1.ff.trans s') bE cL⟩
def WE{st:Stmt}{b:ZB μ}(h:PS X st (V3 X O Res b)):PSs X [st] (V3 X O Res b):=R9 h
end
def By:V->List V->Hp->VK->Prop:=λx vs H Q=>∃p ah k y,x=.ref p/\vs=[kV k,y]/\H p=some (.dK ah)/\ah.length<sizeLine/\(∀v,Zs ah k=some v->Q v H)/\(Zs ah k=none->Q y (upd H p (.dK (Yn ah k y))))
section
variable{X:Cx}
def QfQ:N0 X "dict.setdefault" By:=by
 intro aa s σ H x vs v us Q I rx rv h;obtain⟨p,ah,k,y,rfl,rfl,hH,hz,q1,q2⟩:=h;cases rx;obtain⟨u,w',rfl,ru,cM⟩:=LC rv;obtain⟨_,d4,ps,rel,dd⟩:=DI I.hok hH;have hlen:=Paired.length rel;have fu:(YY X.prog X.w).is k u=true:=Sq ru;refine PySem.call_meetsIn PySem.F.slot_dict_setdefault dd.typeIs PySem.F.entry_dict_setdefault (PySem.F.args_dict_setdefault_3 _ _ _) (PySem.kt_meets_setdefault (YY X.prog X.w) p fu d4 w') ⟨ps,dd,by omega,λv hv=>?_,λhn h' hd hs=>?_⟩;·have e:=rel.val k;rw[hv]at e;cases c:Zs ah k with|none=>rw[c]at e;exact e.elim|some x=>rw[c]at e;exact⟨x,H,I.tok _,e,q1 x c⟩
 ·have e1:Zs ah k=none:=by
   have e:=rel.val k;rw[hn]at e;cases c:Zs ah k with|none=>rfl|some x=>rw[c]at e;exact e.elim
  have hl:(Yn ah k y).length<=sizeLine:=by have:=HJ ah k y;omega
  have he:∃q,h'.get? p=some q:=let⟨q,_,_,hq,_⟩:=hd;⟨q,hq⟩;exact⟨y,_,Ig I (by rw[hH];exact True.intro) hs he (DH hl d4 (rel.put k cM) hd),cM,q2 e1⟩
end
abbrev KM:=List (Str×List Int)
noncomputable def addI(l:List Int)(i:Int):List Int:=if l.getLast?=some i then l else l++[i]
def Gr.keepN{F H F' H':Hp}(g:Gr F H F' H'){a:Addr}{o:HO}(h:H a=some o)(f:F a=none):F' a=none:=by cases e:F' a with|none=>rfl|some z=>
  rcases g.fr a z e with y|y;·rw[f]at y;cases y
  ·rw[h]at y;cases y
def RS.nest{K:Fg}{H₀:Hp}{F0:Fz}{F H F' H':Hp}{σ:L2.St}{e:QD}{i:Nat}(r:RS K H₀ F0 F H σ e [Qh i])(hl:e.length<=1000)(s:Sm F F')(s2:Sm F' H')(s3:Sm F0.h H')(fr:∀a o,F' a=some o->F a=some o\/F0.h a=none):RS K H₀ F0 F' H' σ e [Qh i]:=by
 have no:∀{j:Nat}{d:D},e[j]?=some (some d)->j∈[Qh i]->False:=λ{j d}h hj=>by have:=(q_22.mp h).1;have:=q_1.mp hj;unfold Qh at this;omega
 refine⟨s2,s3,r.ff.trans s,λa o h=>?_,λj d h hj=>?_,λj d h hj=>(no h hj).elim,λj _ _ _ _ hj _ h1=>(no h1 hj).elim,r.pin,r.len⟩
 ·rcases fr a o h with z|z;·exact r.fr a o z
  ·exact .inr z
 ·obtain⟨v,h1,h2⟩:=r.slot j d h hj;exact⟨v,h1,h2.mono s⟩
def Mq{K:Fg}{F:Hp}{v:V}{x:Str}(r:Rep K F v (.str x)):v=.str x:=by cases r;rfl
def A1{K:Fg}{F:Hp}{v:V}{x:Int}(r:Rep K F v (.int x)):v=.int x:=by cases r;rfl
section
variable{X:Cx}{i a b:Nat}
def UM{X:Cx}{e:Expr}{es:List Expr}{p pos:Pos}{x:Str}{ps:List Str}{k:Nat}{sp:Sp}{t:TA}(c:Qi X.prog X.w X.K X.mg X.ab k x ps sp)(hr:Room k X.A)(hg:Gl X x)(ha:PA X (e::es) t)(cj:(x==("__debug__":Str))=false:=by decide)(he:starEach (e::es) X.env=(false,eval e X.env)::starEach es X.env:=by rfl)(cR:(backTo pos (starEach es X.env)).any (·.1)=false:=by rfl):PE X (.Call (.Name x p) (e::es) [] pos) (Oo sp [] E0 t):=by obtain⟨fa,fd,F,hb,hk,hm⟩:=c;exact Hl F hr hg hm hk hb .nil Hk ha cj he cR
end
section
variable{K:Fg}{H₀:Hp}{F0:Fz}{F H:Hp}{σ:L2.St}{e:QD}{i:Nat}
def RS.nestIn{p:Addr}(r:RS K H₀ F0 F H σ e [i])(hl:e.length<=1000)(h1:σ[i]?=some (some (.ref p))):RS K H₀ ⟨F0.f,F0.h,some p⟩ F H σ (e.set i none) [Qh i]:=by
 have q:∀{j:Nat}{d:D},(e.set i none)[j]?=some (some d)->j≠i/\e[j]?=some (some d):=λ{j d}h=>by
  rw[Us]at h;split at h;·split at h<;>cases h
  ·rename_i z;exact⟨λw=>z w.symm,h⟩
 have no:∀{j:Nat}{d:D},(e.set i none)[j]?=some (some d)->j∈[Qh i]->False:=λ{j d}h hj=>by
  have:=(q_22.mp (q h).2).1;have:=q_1.mp hj;unfold Qh at this;omega
 refine⟨r.fh,r.hh,r.ff,r.fr,λj d h hj=>?_,λj d h hj=>(no h hj).elim,λj _ _ _ _ hj _ h1=>(no h1 hj).elim,λj hj=>?_,by rw[W3];exact r.len⟩;·exact r.slot j d (q h).2 λz=>(q h).1 (q_1.mp z)
 ·have:j=i:=by have:=q_1.mp hj;unfold Qh at this;omega
  subst this;exact⟨p,rfl,h1⟩
end
section
variable{μ:Type}{X:Cx}{O:List Nat}{Res:N3 μ}
def QdN:PSs X [] (V3 X O Res λe m=>some (e,m)):=PSs.imp Bo λDn σ H⟨F0,F,en,m,r,rs,res,z,k⟩=>by cases z;exact k σ F H (.refl F) rs res
end
noncomputable def hdI:List D->Bool|.int _::_=>true|_=>false
mutual inductive NoI:D->Prop where|non:NoI .non|bl(b:Bool):NoI (.bl b)|int(i:Int):NoI (.int i)|str(x:Str):NoI (.str x)|tup{ds:List D}(h:NoIs ds):NoI (.tup ds)|lst{ds:List D}(h:NoIs ds)(hd:hdI ds=false):NoI (.lst ds)inductive NoIs:List D->Prop where|nil:NoIs []|cons{d:D}{ds:List D}(h:NoI d)(r:NoIs ds):NoIs (d::ds)end
def ClI(K:Fg)(G:Hp):Prop:=∀a xs,G a=some (.lst xs)->∀i r,xs≠V.int i::r
theorem ClI.un{K:Fg}{G G':Hp}(c:ClI K G)(c':ClI K G'):ClI K (un G G'):=λa xs h=>by
 rcases QaM h with z|z;·exact c a xs z
 ·exact c' a xs z
def ClI.emp(K:Fg):ClI K λ_=>none:=λa xs h=>by cases h
abbrev SM:=List (Int×List Str×List Str)
noncomputable def VN(m:SM)(ts:List Addr):List (Kd×V):=(m.map λx=>(Sum.inl x.1:Kd)).zip (ts.map V.ref)
noncomputable def ZL(p:Addr)(ls ns:List Addr):List Addr:=p::(ls++ns)
structure SH(m:SM)(p:Addr)(ts ls ns:List Addr)(F H:Hp):Prop where
 lt:ts.length=m.length
 ll:ls.length=m.length
 ln:ns.length=m.length
 dc:H p=some (.dK (VN m ts))nd:(ZL p ls ns).Nodup
 at_:∀(j:Nat)(t l n:Addr)(x:Int×List Str×List Str),ts[j]?=some t->ls[j]?=some l->ns[j]?=some n->m[j]?=some x->H t=some (.tup [.ref l,.ref n])/\H l=some (.lst (x.2.1.map V.str))/\H n=some (.lst (x.2.2.map V.str))fn:∀a∈ZL p ls ns,F a=none
 ft:∀t∈ts,F t=none
def SH.gr{m:SM}{p:Addr}{ts ls ns:List Addr}{F H F' H':Hp}(s:SH m p ts ls ns F H)(g:Gr F H F' H'):SH m p ts ls ns F' H':=by
 have one:∀j,j<m.length->∃t l n x,ts[j]?=some t/\ls[j]?=some l/\ns[j]?=some n/\m[j]?=some x:=λj hj=>⟨_,_,_,_,Qk (by rw[s.lt];exact hj),Qk (by rw[s.ll];exact hj),Qk (by rw[s.ln];exact hj),Qk hj⟩;refine⟨s.lt,s.ll,s.ln,g.hh _ _ s.dc,s.nd,λj t l n x a b c d=>?_,λa ha=>?_,λt ht=>?_⟩;·obtain⟨h1,h2,h3⟩:=s.at_ j t l n x a b c d;exact⟨g.hh _ _ h1,g.hh _ _ h2,g.hh _ _ h3⟩
 ·have f:=s.fn a ha;rcases q_5.mp ha with z|z;·rw[z]at f⊢;exact g.keepN s.dc f
  ·rcases q_7.mp z with z|z
   ·obtain⟨j,hj,e⟩:=Tr z;obtain⟨t,l,n,x,h1,h2,h3,h4⟩:=one j (by rw[<-s.ll];exact hj);rw[Qk hj,e]at h2;cases h2;exact g.keepN (s.at_ j t a n x h1 (by rw[Qk hj,e]) h3 h4).2.1 f
   ·obtain⟨j,hj,e⟩:=Tr z;obtain⟨t,l,n,x,h1,h2,h3,h4⟩:=one j (by rw[<-s.ln];exact hj);exact g.keepN (s.at_ j t l a x h1 h2 (by rw[Qk hj,e]) h4).2.2 f
 ·obtain⟨j,hj,e⟩:=Tr ht;obtain⟨t',l,n,x,h1,h2,h3,h4⟩:=one j (by rw[<-s.lt];exact hj);exact g.keepN (s.at_ j t l n x (by rw[Qk hj,e]) h2 h3 h4).1 (s.ft t ht)
def SRes:N3 SM:=λm F0 F H=>∃(p:Addr)(ts ls ns:List Addr),F0.p=some p/\SH m p ts ls ns F H/\(∀a∈ZL p ls ns,F0.h a=none)/\∀t∈ts,F0.h t=none
theorem SRes.gr(m:SM)(F0:Fz)(F H F' H':Hp)(r:SRes m F0 F H)(g:Gr F H F' H'):SRes m F0 F' H':=by obtain⟨p,ts,ls,ns,h1,h2,h3,h4⟩:=r;exact⟨p,ts,ls,ns,h1,h2.gr g,h3,h4⟩
noncomputable def ens:SM->Int->SM|[],g=>[(g,[],[])]|x::m,g=>if x.1=g then x::m else x::ens m g
noncomputable def YW(f:List Str×List Str->List Str×List Str):SM->Int->SM|[],g=>[(g,f ([],[]))]|x::m,g=>if x.1=g then(x.1,f x.2)::m else x::YW f m g
theorem Ik(g:Int):∀(m:SM)(ts:List Addr),ts.length=m.length->(∃(j:Nat)(t:Addr)(x:Int×List Str×List Str),m[j]?=some x/\x.1=g/\ts[j]?=some t/\Zs (VN m ts) (.inl g)=some (.ref t)/\ens m g=m/\∀f,YW f m g=m.set j (x.1,f x.2))\/(Zs (VN m ts) (.inl g)=none/\ens m g=m++[(g,[],[])]/\∀f,YW f m g=m++[(g,f ([],[]))])
 |[],[],_=>.inr ⟨rfl,rfl,λ_=>rfl⟩|[],_::_,h=>by simp at h|_::_,[],h=>by simp at h|x::m,t::ts,h=>by
  have hc:VN (x::m) (t::ts)=(.inl x.1,.ref t)::VN m ts:=rfl;by_cases e:x.1=g
  ·refine .inl ⟨0,t,x,rfl,e,rfl,?_,?_,λf=>?_⟩;·rw[hc,Ow (by rw[e])]
   ·unfold ens;rw[if_pos e]
   ·unfold YW;rw[if_pos e];rfl
  ·have e':¬(Sum.inl x.1:Kd)=.inl g:=λz=>e (by cases z;rfl);rcases Ik g m ts (by simpa using h)with⟨j,t',x',h1,h2,h3,h4,h5,h6⟩|⟨h1,h2,h6⟩
   ·refine .inl ⟨j+1,t',x',by simpa using h1,h2,by simpa using h3,?_,?_,λf=>?_⟩;·rw[hc,Rb e'];exact h4
    ·unfold ens;rw[if_neg e,h5]
    ·unfold YW;rw[if_neg e,h6];rfl
   ·refine .inr ⟨?_,?_,λf=>?_⟩;·rw[hc,Rb e'];exact h1
    ·unfold ens;rw[if_neg e,h2];rfl
    ·unfold YW;rw[if_neg e,h6];rfl
def Qe9(m:SM)(ts:List Addr)(h:ts.length=m.length):(VN m ts).length=m.length:=by unfold VN;rw[WY,Qm,Qm];omega
theorem Cc:∀(m:SM)(ts:List Addr)(x:Int×List Str×List Str)(q:Addr),ts.length=m.length->VN (m++[x]) (ts++[q])=VN m ts++[(.inl x.1,.ref q)]|[],[],_,_,_=>rfl|[],_::_,_,_,h=>by simp at h|_::_,[],_,_,h=>by simp at h|y::m,r::ts,x,q,h=>by show(.inl y.1,.ref r)::VN (m++[x]) (ts++[q])=_;rw[Cc m ts x q (by simpa using h)];rfl
def Kept(fp:List Addr)(H H':Hp):Prop:=∀a o,a∉fp->H a=some o->H' a=some o
def Kept.refl(fp:List Addr)(H:Hp):Kept fp H H:=λ_ _ _ h=>h
def SH.keep{m:SM}{p:Addr}{ts ls ns:List Addr}{F H H':Hp}(s:SH m p ts ls ns F H)(k:∀a o,H a=some o->H' a=some o):SH m p ts ls ns F H':=⟨s.lt,s.ll,s.ln,k _ _ s.dc,s.nd,λj t l n x a b c d=>by obtain⟨h1,h2,h3⟩:=s.at_ j t l n x a b c d;exact⟨k _ _ h1,k _ _ h2,k _ _ h3⟩,s.fn,s.ft⟩
def SH.snoc{m:SM}{p:Addr}{ts ls ns:List Addr}{F H H':Hp}(s:SH m p ts ls ns F H){g:Int}{t l n:Addr}(ht:H t=none)(hl:H l=none)(hn:H n=none)(ln:l≠n)(sm:Sm F H)(k:Kept [p] H H')(hp:H' p=some (.dK (VN (m++[(g,[],[])]) (ts++[t]))))(h1:H' t=some (.tup [.ref l,.ref n]))(h2:H' l=some (.lst []))(h3:H' n=some (.lst [])):SH (m++[(g,[],[])]) p (ts++[t]) (ls++[l]) (ns++[n]) F H':=by
 have old:∀a∈ZL p ls ns,∃o,H a=some o:=λa ha=>by
  rcases q_5.mp ha with z|z;·rw[z];exact⟨_,s.dc⟩
  ·rcases q_7.mp z with z|z
   ·obtain⟨j,hj,rfl⟩:=Tr z;have h':j<m.length:=by rw[<-s.ll];exact hj
    exact⟨_,(s.at_ j _ _ _ _ (Qk (by rw[s.lt];exact h')) (Qk hj) (Qk (by rw[s.ln];exact h')) (Qk h')).2.1⟩
   ·obtain⟨j,hj,rfl⟩:=Tr z;have h':j<m.length:=by rw[<-s.ln];exact hj
    exact⟨_,(s.at_ j _ _ _ _ (Qk (by rw[s.lt];exact h')) (Qk (by rw[s.ll];exact h')) (Qk hj) (Qk h')).2.2⟩
 have new:∀a,H a=none->a∉ZL p ls ns:=λa ha z=>by obtain⟨o,e⟩:=old a z;rw[ha]at e;cases e
 have nd:=s.nd;have np:∀a∈ls++ns,a≠p:=λa ha z=>(q_46.mp nd).1 (z▸ha);have gZ:(ls++ns).Nodup:=(q_46.mp nd).2;have lp:l≠p:=λz=>new l hl (by rw[z];exact JN);have kY:n≠p:=λz=>new n hn (by rw[z];exact JN);have mem:∀a,a∈ZL p (ls++[l]) (ns++[n])↔a∈ZL p ls ns\/a=l\/a=n:=λa=>by unfold ZL;simp only[q_5,q_7,q_1];grind
 refine⟨by simp[s.lt],by simp[s.ll],by simp[s.ln],hp,?_,λj t' l' n' x a b c d=>?_,λa ha=>?_,λt' h=>?_⟩
 ·have l1:l∉ls++ns:=λz=>new l hl (JH _ z);have n1:n∉ls++ns:=λz=>new n hn (JH _ z);have pp:p∉ls++ns:=(q_46.mp nd).1;unfold ZL;rw[q_46];refine⟨λz=>?_,?_⟩
  ·simp only[q_7,q_1]at z;simp only[q_7,not_or]at pp;rcases z with(z|z)|(z|z);·exact pp.1 z
   ·exact lp z.symm
   ·exact pp.2 z
   ·exact kY z.symm
  ·simp only[q_7,not_or]at l1 n1;rw[q_63]at gZ⊢;refine⟨?_,?_,?_⟩;·rw[q_63];exact⟨gZ.1,by simp,λa ha b hb e=>by rw[q_1.mp hb]at e;exact l1.1 (e▸ha)⟩
   ·rw[q_63];exact⟨gZ.2.1,by simp,λa ha b hb e=>by rw[q_1.mp hb]at e;exact n1.2 (e▸ha)⟩
   ·intro a ha b hb e;rcases q_7.mp ha with z|z<;>rcases q_7.mp hb with y|y;·exact gZ.2.2 a z b y e
    ·rw[q_1.mp y]at e;exact n1.1 (e▸z)
    ·rw[q_1.mp z]at e;exact l1.2 (e▸y)
    ·rw[q_1.mp z,q_1.mp y]at e;exact ln e
 ·rcases V1 j m.length with hj|hj
  ·rw[YH (by rw[s.lt];exact hj)]at a;rw[YH (by rw[s.ll];exact hj)]at b;rw[YH (by rw[s.ln];exact hj)]at c;rw[YH hj]at d;obtain⟨e1,e2,e3⟩:=s.at_ j t' l' n' x a b c d;have tp:t'≠p:=λz=>by rw[z,s.dc]at e1;cases e1
   exact⟨k _ _ (by simpa using tp) e1,k _ _ (by simpa using np _ (V0 _ (Yo b))) e2,k _ _ (by simpa using np _ (YF _ (Yo c))) e3⟩
  ·have ej:j=m.length:=by
    have:=(q_22.mp d).1;simp at this;omega
   subst ej;rw[Vk (by rw[s.lt];exact Qx _),s.lt,sub_self]at a;rw[Vk (by rw[s.ll];exact Qx _),s.ll,sub_self]at b;rw[Vk (by rw[s.ln];exact Qx _),s.ln,sub_self]at c;rw[Vk (Qx _),sub_self]at d;cases a;cases b;cases c;cases d;exact⟨h1,h2,h3⟩
 ·rcases(mem a).mp ha with z|z|z;·exact s.fn a z
  ·rw[z];exact sm.none hl
  ·rw[z];exact sm.none hn
 ·rcases q_7.mp h with z|z;·exact s.ft t' z
  ·rw[q_1.mp z];exact sm.none ht
def RU:Sp:=λvs H Q _=>∃F m p ts ls ns g,Sm F H/\vs=[.ref p,.int g]/\SH m p ts ls ns F H/\m.length<1000/\∀(H':Hp)(cB cg bI:List Addr)(j:Nat)(t:Addr),Kept [p] H H'->SH (ens m g) p cB cg bI F H'->(∀a,a∈cg\/a∈bI\/a∈cB->(a∈ls\/a∈ns\/a∈ts)\/H a=none)->cB[j]?=some t->(∃x:Int×List Str×List Str,(ens m g)[j]?=some x/\x.1=g/\∀f,YW f m g=(ens m g).set j (x.1,f x.2))->Q (.ref t) H'
section
variable{P:Program}{w:World}{K:Fg}{mg:Str->Option Value}{ab:Heap}{x y z:Str}{st:Stmt}{k:Nat}
def okQ(h:Df K mg x st [y,z])(S:FnScope [y,z] [y,z] (Qp st))(hb:∀(f:Addr)(az:Value)(A:Around)(ag:List Env)(s:Shared)(H:Hp)(E:XK),Room k (A.deeper (envOfC x (Qp st) s.heap.objs.size f az))->PSs (V9 Yg P w K mg ab [y,z] x (Qp st) f az A ag s H E).nox (Yp st) (Qaw (RX K "dict" By (VZ 0) (Vo (VZ 1) (Vo (Qax (Vo (Gh X5) (Vo (Gh X5) X5))) X5))))):Qi P w K mg ab (k+1) x [y,z] RU:=by
 obtain⟨f,fd,F,fc,hm⟩:=h;refine⟨f,fd,F.ok S (λvs H Q E q=>by obtain⟨_,_,_,_,_,_,_,_,hv,_⟩:=q;rw[hv];rfl) (λaz A ag s H vs Q E hr q=>?_),fc,F.kp,hm⟩;obtain⟨Fz,m,p,ts,ls,ns,g,sm,hv,sh,ml,k⟩:=q;refine⟨_,hb f az A ag s H E hr,?_⟩;have cV:Wc [y,z] vs=[some (V.ref p),some (.int g)]:=by rw[hv];rfl
 rw[cV];have hz:=sizeLine_eq;have kl:=Qe9 m ts sh.lt;refine⟨.ref p,rfl,.inr (.inr (.inl ⟨rfl,.inl ⟨_,sh.dc⟩⟩)),.int g,rfl,WV _,λl hl=>⟨WV _,λn hn=>⟨by simp;omega,λt ht=>?_⟩⟩⟩;have nl:n≠l:=λe=>by rw[e,Jq]at hn;cases hn
 have eF:H n=none:=by rw[Qn nl]at hn;exact hn
 have tn:t≠n:=λe=>by rw[e,Jq]at ht;cases ht
 have tl:t≠l:=λe=>by rw[Qn tn,e,Jq]at ht;cases ht
 have hV:H t=none:=by rw[Qn tn,Qn tl]at ht;exact ht
 have keep:∀a o,H a=some o->upd (upd (upd H l (.lst [])) n (.lst [])) t (.tup [.ref l,.ref n]) a=some o:=λa o e=>by
  rw[Qn (λz=>by rw[z,hV]at e;cases e),Qn (λz=>by rw[z,eF]at e;cases e),Qn (λz=>by rw[z,hl]at e;cases e)];exact e
 refine⟨p,VN m ts,.inl g,.ref t,rfl,rfl,keep _ _ sh.dc,by omega,λv hv=>?_,λeD=>?_⟩
 ·rcases Ik g m ts sh.lt with⟨j,t0,x0,a1,a2,a3,a4,a5,a6⟩|⟨a1,_⟩
  ·rw[hv]at a4;cases a4;exact k _ ts ls ns j t0 (λa o _ e=>keep a o e) (by rw[a5];exact sh.keep keep) (λa ha=>.inl ha) a3 ⟨x0,by rw[a5,a1],a2,λf=>by rw[a5,a6]⟩
  ·rw[hv]at a1;cases a1
 ·rcases Ik g m ts sh.lt with⟨j,t0,x0,a1,a2,a3,a4,a5,a6⟩|⟨_,a5,a6⟩;·rw[eD]at a4;cases a4
  ·have pt:p≠t:=λe=>by have:=sh.dc;rw[e,hV]at this;cases this
   have pn:p≠n:=λe=>by have:=sh.dc;rw[e,eF]at this;cases this
   have pl:p≠l:=λe=>by have:=sh.dc;rw[e,hl]at this;cases this
   have kp:Kept [p] H (upd (upd (upd (upd H l (.lst [])) n (.lst [])) t (.tup [.ref l,.ref n])) p (.dK (Yn (VN m ts) (.inl g) (.ref t)))):=λa o ha e=>by rw[Qn (by simpa using ha)];exact keep a o e
   refine k _ (ts++[t]) (ls++[l]) (ns++[n]) m.length t kp ?_ (λa ha=>?_) (by rw[<-sh.lt];simp) ⟨(g,[],[]),by rw[a5];simp,rfl,λf=>by rw[a5,a6];simp⟩
   ·rw[a5];refine sh.snoc hV hl eF (Ne.symm nl) sm kp ?_ ?_ ?_ ?_;·rw[Jq,QiC _ eD,Cc m ts _ t sh.lt]
    ·rw[Qn (Ne.symm pt),Jq]
    ·rw[Qn (Ne.symm pl),Qn (Ne.symm tl),Qn (Ne.symm nl),Jq]
    ·rw[Qn (Ne.symm pn),Qn (Ne.symm tn),Jq]
   ·simp only[q_7,q_1]at ha;rcases ha with(h|h)|(h|h)|(h|h);·exact .inl (.inl h)
    ·right;rw[h];exact hl
    ·exact .inl (.inr (.inl h))
    ·right;rw[h];exact eF
    ·exact .inl (.inr (.inr h))
    ·right;rw[h];exact hV
end
def SH.memL{m:SM}{p:Addr}{ts ls ns:List Addr}{F H:Hp}(s:SH m p ts ls ns F H){j:Nat}{l:Addr}(h:ls[j]?=some l):l∈ZL p ls ns:=JH _ (V0 _ (Yo h))
def SH.memN{m:SM}{p:Addr}{ts ls ns:List Addr}{F H:Hp}(s:SH m p ts ls ns F H){j:Nat}{n:Addr}(h:ns[j]?=some n):n∈ZL p ls ns:=JH _ (YF _ (Yo h))
theorem SH.set{m:SM}{p:Addr}{ts ls ns:List Addr}{F H:Hp}(s:SH m p ts ls ns F H){j:Nat}{t l n q:Addr}{x:Int×List Str×List Str}{L N:List Str}(hx:m[j]?=some x)(ht:ts[j]?=some t)(hl:ls[j]?=some l)(hn:ns[j]?=some n)(h:q=l/\N=x.2.2\/q=n/\L=x.2.1){zs:List V}(hz:zs=(if q=l then L else N).map V.str):SH (m.set j (x.1,L,N)) p ts ls ns F (upd H q (.lst zs)):=by
 obtain⟨c1,c2,c3⟩:=s.at_ j t l n x ht hl hn hx;have nd:=s.nd;have j3:=q_46.mp nd;have fV:=q_63.mp j3.2;have lm:=Yo hl;have nm:=Yo hn;have fX:l≠n:=λe=>fV.2.2 l lm n nm e;have qf:q∈ls++ns:=by rcases h with⟨z,_⟩|⟨z,_⟩<;>rw[z];exact V0 _ lm;exact YF _ nm
 have pq:p≠q:=λe=>j3.1 (e▸qf);have qs:∃us,H q=some (.lst us):=by rcases h with⟨z,_⟩|⟨z,_⟩<;>rw[z];exact⟨_,c2⟩;exact⟨_,c3⟩
 obtain⟨us,hq⟩:=qs;have tq:∀{t' l' n':Addr},H t'=some (.tup [.ref l',.ref n'])->t'≠q:=λe z=>by rw[z,hq]at e;cases e
 have hk:VN (m.set j (x.1,L,N)) ts=VN m ts:=by
  unfold VN;congr 1;apply List.ext_getElem?;intro i;rw[Yb,Yb,Us];split
  ·rename_i z;subst z;rw[if_pos (q_22.mp hx).1,hx];rfl
  ·rfl
 refine⟨by rw[W3];exact s.lt,by rw[W3];exact s.ll,by rw[W3];exact s.ln,by rw[Qn pq,hk];exact s.dc,nd,λi t' l' n' x' a b c d=>?_,s.fn,s.ft⟩;rw[Us]at d;split at d
 ·rename_i z;subst z;rw[if_pos (q_22.mp hx).1]at d;cases d;rw[ht]at a;cases a;rw[hl]at b;cases b;rw[hn]at c;cases c;refine⟨by rw[Qn (tq c1)];exact c1,?_,?_⟩
  ·rcases h with⟨z,e⟩|⟨z,e⟩;·rw[if_pos z]at hz;rw[z,Jq,hz]
   ·rw[Qn (by rw[z];exact fX),e];exact c2
  ·rcases h with⟨z,e⟩|⟨z,e⟩;·rw[Qn (by rw[z];exact Ne.symm fX),e];exact c3
   ·rw[if_neg (by rw[z];exact Ne.symm fX)]at hz;rw[z,Jq,hz]
 ·rename_i z;obtain⟨d1,d2,d3⟩:=s.at_ i t' l' n' x' a b c d;have l1:l'≠l:=λw=>z ((List.getElem?_inj (q_22.mp hl).1 fV.1).mp (by rw[hl,b,w]));have n1:n'≠n:=λw=>z ((List.getElem?_inj (q_22.mp hn).1 fV.2.1).mp (by rw[hn,c,w]));have l2:l'≠n:=λw=>fV.2.2 l' (Yo b) n nm w;have n2:n'≠l:=λw=>fV.2.2 l lm n' (Yo c) w.symm;have lq:l'≠q:=by rcases h with⟨y,_⟩|⟨y,_⟩<;>rw[y]<;>assumption
  have nq:n'≠q:=by rcases h with⟨y,_⟩|⟨y,_⟩<;>rw[y]<;>assumption
  exact⟨by rw[Qn (tq d1)];exact d1,by rw[Qn lq];exact d2,by rw[Qn nq];exact d3⟩
section
variable{K:Fg}{H₀:Hp}{F0:Fz}{F H:Hp}{σ:L2.St}{e:QD}{i:Nat}{m:SM}{p:Addr}{ts ls ns:List Addr}
def SH.asked(rs:RS K H₀ F0 F H σ e [Qh i])(hl:e.length<=1000)(sh:SH m p ts ls ns F H)(h3:∀a∈ZL p ls ns,F0.h a=none)(h4:∀t∈ts,F0.h t=none){H':Hp}{m':SM}{cB cg bI:List Addr}(k:Kept [p] H H')(fS:SH m' p cB cg bI F H')(nw:∀a,a∈cg\/a∈bI\/a∈cB->(a∈ls\/a∈ns\/a∈ts)\/H a=none):RS K H₀ F0 F H' σ e [Qh i]/\(∀a∈ZL p cg bI,F0.h a=none)/\∀t∈cB,F0.h t=none:=by
 have fp:=sh.fn p JN;have hp:=h3 p JN;have one:∀a,a∈cg\/a∈bI\/a∈cB->F0.h a=none:=λa ha=>by
  rcases nw a ha with(z|z|z)|z;·exact h3 a (JH _ (V0 _ z))
  ·exact h3 a (JH _ (YF _ z))
  ·exact h4 a z
  ·exact rs.hh.none z
 refine⟨rs.nest hl (.refl F) (λa o h=>k a o (λz=>by rw[q_1.mp z,fp]at h;cases h) (rs.fh a o h)) (λa o h=>k a o (λz=>by rw[q_1.mp z,hp]at h;cases h) (rs.hh a o h)) λa o h=>.inl h,λa ha=>? _,λt ht=>one t (.inr (.inr ht))⟩;rcases q_5.mp ha with z|z;·rw[z];exact hp
 ·rcases q_7.mp z with z|z;·exact one a (.inl z)
  ·exact one a (.inr (.inl z))
def RS.wr(rs:RS K H₀ F0 F H σ e [Qh i])(hl:e.length<=1000){q:Addr}(hf:F q=none)(hh:F0.h q=none)(o:HO):RS K H₀ F0 F (upd H q o) σ e [Qh i]:=rs.nest hl (.refl F) (rs.fh.upd _ hf) (rs.hh.upd _ hh) λa o h=>.inl h
end
noncomputable def UU:List D->Option (List Str)|[]=>some []|.str x::r=>(UU r).map (x::·)|_=>none
theorem Gf{K:Fg}{F:Hp}:∀{zs:List V}{ds:List D}{L:List Str},Reps K F zs ds->UU ds=some L->zs=L.map V.str|_,_,L,.nil,e=>by cases e;rfl|_,_,L,.cons (d:=d) h r,e=>by cases h with|str x=>obtain⟨M,e1,rfl⟩:=Jy e;rw[Gf r e1];rfl|_=>cases e
def N7(pg lv:Q8):ZB SM:=λe m=>match pg e,lv e with|some (.int g),some (.lst ds)=>(UU ds).bind λL=>if e.length<=1000/\m.length<1000/\L.length<=100000/\(∀x∈ens m g,x.2.1.length<=100000)then some (e,YW (λx=>(x.1++L,x.2)) m g)else none|_,_=>none
section
variable{X:Cx}{i:Nat}
def QdG{st:Stmt}{pg lv:Q8}(h:PS X st (RY (RX X.K "list" Mp (X6 (UR X.K) (Oo RU [] E0 (Vo (VZ i) (Vo (tD X [Qh i] pg) X5))) (tC (.int 0))) (Vo (tD X [Qh i] lv) X5)))):PS X st (V3 X [Qh i] SRes (N7 pg lv)):=PS.imp h λDn σ H⟨F0,F,en,m,r,rs,res,z,k⟩=>by
  obtain⟨g,ds,L,iY,mr,hL,hl,ml,Ll,xl,rfl⟩:∃g ds L,pg en=some (.int g)/\lv en=some (.lst ds)/\UU ds=some L/\en.length<=1000/\m.length<1000/\L.length<=100000/\(∀x∈ens m g,x.2.1.length<=100000)/\r=(en,YW (λx=>(x.1++L,x.2)) m g):=by
   unfold N7 at z;split at z
   ·rename_i g ds h1 h2;obtain⟨L,h3,h4⟩:=J2 z;split at h4
    ·rename_i hh;cases h4;exact⟨g,ds,L,h1,h2,h3,hh.1,hh.2.1,hh.2.2.1,hh.2.2.2,rfl⟩
    ·cases h4
   ·cases z
  obtain⟨p,ts,ls,ns,h1,sh,h3,h4⟩:=res;obtain⟨p',cZ,hσ⟩:=rs.pin i (q_1.mpr rfl);rw[h1]at cZ;cases cZ;have iS:=sizeLine_eq;refine⟨.ref p,hσ,F0,F,en,_,rs,iY,λv F1 H1 g1 r1=>?_⟩;have ev:=A1 r1;subst ev;have bZ:=rs.grow g1;have fR:=sh.gr g1;refine⟨F1,m,p,ts,ls,ns,g,bZ.fh,rfl,fR,ml,λH2 cB cg bI j t kp dg nw eA⟨x,hx,_,hu⟩=>?_⟩;obtain⟨dh,fM,jc⟩:=fR.asked bZ hl h3 h4 kp dg nw;have hj:j<(ens m g).length:=(q_22.mp hx).1;obtain⟨l,lj⟩:∃l,cg[j]?=some l:=⟨_,Qk (by rw[dg.ll];exact hj)⟩;obtain⟨n,nj⟩:∃n,bI[j]?=some n:=⟨_,Qk (by rw[dg.ln];exact hj)⟩;obtain⟨c1,c2,c3⟩:=dg.at_ j t _ _ x eA lj nj hx;refine .inr (.inl ⟨t,_,0,.ref l,rfl,rfl,SqT.of c1,rfl,?_⟩);refine⟨.inl ⟨rfl,_,SqL.of c2⟩,F0,F1,en,_,dh,mr,λu F3 H3 g3 r3=>?_⟩;cases r3 with|lst hb hr=>rename_i b zs;have ez:=Gf hr hL;subst ez;have iL:=dg.gr g3;have cN:=dh.grow g3;have xb:=xl x (Yo hx);refine⟨l,b,_,_,rfl,rfl,g3.hh _ _ c2,g3.fh _ _ hb,by rw[Qm,Qm];omega,?_⟩;have lm:=iL.memL lj;refine k σ F3 _ (g1.ff.trans g3.ff) (cN.wr hl (iL.fn _ lm) (fM _ lm) _) ⟨p,cB,cg,bI,h1,?_,fM,jc⟩;show SH (YW (λx=>(x.1++L,x.2)) m g) p cB cg bI F3 _;rw[hu];exact iL.set (L:=x.2.1++L) (N:=x.2.2) hx eA lj nj (.inl ⟨rfl,rfl⟩) (by rw[if_pos rfl,Zr])
end
def RV(K:Fg)(f:List D->SM->Option SM):Sp:=λvs H Q _=>∃F m p ts ls ns us cs m',Sm F H/\vs=.ref p::us/\Reps K F us cs/\SH m p ts ls ns F H/\f cs m=some m'/\∀(F' H':Hp)(cB cg bI:List Addr),Sm F F'->Sm F' H'->Kept (ZL p ls ns++ts) H H'->(∀a o,F' a=some o->F a=some o\/(a∈ZL p ls ns\/a∈ts)\/H a=none)->SH m' p cB cg bI F' H'->(∀a,a∈ZL p cg bI\/a∈cB->(a∈ZL p ls ns\/a∈ts)\/H a=none)->Q .non H'
def XD(n k:Nat)(b:ZB SM)(cs:List D)(m:SM):Option SM:=if cs.length+1=k/\k<=n/\n<=1000 then(b (none::sD (n-1) cs) m).map (·.2)else none
section
variable{P:Program}{w:World}{K:Fg}{mg:Str->Option Value}{ab:Heap}{x:Str}{st:Stmt}{N ps:List Str}{k:Nat}{b:ZB SM}
def M3(h:Df K mg x st ps)(S:FnScope N ps (Qp st))(hb:∀(f:Addr)(az:Value)(A:Around)(ag:List Env)(s:Shared)(H:Hp)(E:XK),Room k (A.deeper (envOfC x (Qp st) s.heap.objs.size f az))->PSs (V9 Yg P w K mg ab N x (Qp st) f az A ag s H E).nox (Yp st) (V3 (V9 Yg P w K mg ab N x (Qp st) f az A ag s H E).nox [Qh 0] SRes b)):Qi P w K mg ab (k+1) x ps (RV K (XD N.length ps.length b)):=by
 obtain⟨f,fd,F,fc,hm⟩:=h;have cond:∀{cs:List D}{m m':SM},XD N.length ps.length b cs m=some m'->cs.length+1=ps.length/\ps.length<=N.length/\N.length<=1000/\∃r,b (none::sD (N.length-1) cs) m=some r/\r.2=m':=λ{cs m m'}e=>by
  unfold XD at e;split at e
  ·rename_i hh;obtain⟨r,h1,h2⟩:=Jy e;exact⟨hh.1,hh.2.1,hh.2.2,r,h1,h2⟩
  ·cases e
 refine⟨f,fd,F.ok S (λvs H Q E q=>?_) (λaz A ag s H vs Q E hr q=>?_),fc,F.kp,hm⟩
 ·obtain⟨_,_,_,_,_,_,us,cs,_,_,hv,r,_,e,_⟩:=q;have:=(cond e).1;have:=r.length;rw[hv,JM];omega
 ·obtain⟨Fq,m,p,ts,ls,ns,us,cs,m',sm,hv,r,sh,e,k⟩:=q;refine⟨_,hb f az A ag s H E hr,?_⟩;obtain⟨c1,c2,c3,rr,c4,c5⟩:=cond e;have ul:=r.length;have cV:Wc N vs=some (V.ref p)::(us.map some++List.replicate (N.length-1-us.length) none):=by
   rw[hv];show(V.ref p::us).map some++List.replicate (N.length-(us.length+1)) none=_;rw[ZQ,List.cons_append,show N.length-(us.length+1)=N.length-1-us.length by omega]
  rw[cV];let F0:Fz:=⟨Fq,λa=>if a∈ZL p ls ns++ts then none else H a,some p⟩;have ki:∀a,a∈ZL p ls ns++ts->F0.h a=none:=λa ha=>if_pos ha;have len:(none::sD (N.length-1) cs:QD).length=N.length:=by unfold sD;simp;omega
  have no:∀{j:Nat}{d:D},(none::sD (N.length-1) cs:QD)[j]?=some (some d)->j∉[Qh 0]:=λ{j d}h hj=>by
   have:=(q_22.mp h).1;have:=q_1.mp hj;unfold Qh at this;rw[len]at*;omega
  have rs:RS K H F0 Fq H (some (V.ref p)::(us.map some++List.replicate (N.length-1-us.length) none)) (none::sD (N.length-1) cs) [Qh 0]:=by
   refine⟨sm,λa o h=>?_,.refl Fq,λa o h=>.inl h,λj d h hj=>?_,λj d h hj=>absurd hj (no h),λj _ _ _ _ hj _ h1=>absurd hj (no h1),λj hj=>?_,?_⟩
   ·have h':(if a∈ZL p ls ns++ts then none else H a)=some o:=h;split at h';·cases h'
    ·exact h'
   ·cases j with
    |zero=>simp at h|succ j=>
     rw[W4]at h⊢;unfold sD at h;rcases V1 j cs.length with hl|hl
     ·rw[YH (by rw[Qm];exact hl),Yb]at h;obtain⟨c,hc,e⟩:=q_82.mp h;cases e;obtain⟨v,h1,h2⟩:=r.get hc;exact⟨v,by rw[YH (by rw[Qm,ul];exact hl),Yb,h1];rfl,h2⟩
     ·rw[Vk (by rw[Qm];exact hl),RA]at h;split at h<;>cases h
   ·have:j=0:=by
     have:=q_1.mp hj;unfold Qh at this;omega
    subst this;exact⟨p,rfl,rfl⟩
   ·unfold sD;simp;omega
  have sres:SRes m F0 Fq H:=⟨p,ts,ls,ns,rfl,sh,λa ha=>ki a (V0 _ ha),λt ht=>ki t (YF _ ht)⟩;refine⟨F0,Fq,_,m,rr,rs,sres,c4,λσ' F' H' s' bE cL=>?_⟩;obtain⟨p',cB,cg,bI,h1,fS,h3,h4⟩:=cL;cases h1;rw[c5]at fS;have out:∀a,F0.h a=none->(a∈ZL p ls ns\/a∈ts)\/H a=none:=λa ha=>by
   have h':(if a∈ZL p ls ns++ts then none else H a)=none:=ha;split at h';·rename_i z;exact .inl (q_7.mp z)
   ·exact .inr h'
  refine k F' H' cB cg bI s' bE.fh (λa o ha e=>bE.hh a o (show(if a∈ZL p ls ns++ts then none else H a)=some o by rw[if_neg ha];exact e)) (λa o h=>?_) fS λa ha=>out a (ha.elim (h3 a) (h4 a));rcases bE.fr a o h with z|z;·exact .inl z
  ·exact .inr (out a z)
end
noncomputable def Va(f:List D->SM->Option SM)(l:Z4):ZB SM:=λe m=>if e.length<=1000 then(l e).bind λds=>(f ds m).map λm'=>(e,m')else none
noncomputable def Wf(cv:Q8)(ba bb:ZB SM):ZB SM:=λe m=>match cv e with|some (.bl true)=>ba e m|some (.bl false)=>bb e m|_=>none
noncomputable def U3(a b:ZB SM):ZB SM:=λe m=>(a e m).bind λr=>b r.1 r.2
section
variable{X:Cx}{i:Nat}
def TQ{st:Stmt}{f:List D->SM->Option SM}{l:Z4}(h:PS X st (RY (Oo (RV X.K f) [] E0 (Vo (VZ i) (tL X [Qh i] l))))):PS X st (V3 X [Qh i] SRes (Va f l)):=PS.imp h λDn σ H⟨F0,F,en,m,r,rs,res,z,k⟩=>by
  unfold Va at z;split at z
  ·rename_i hl;obtain⟨ds,e1,z1⟩:=J2 z;obtain⟨m',e2,rfl⟩:=Jy z1;obtain⟨p,ts,ls,ns,h1,sh,h3,h4⟩:=res;obtain⟨p',cZ,hσ⟩:=rs.pin i (q_1.mpr rfl);rw[h1]at cZ;cases cZ;refine⟨.ref p,hσ,F0,F,en,ds,rs,e1,λvs F1 H1 g1 r1=>?_⟩;have bZ:=rs.grow g1;refine⟨F1,m,p,ts,ls,ns,vs,ds,m',bZ.fh,by rw[Zp],r1,sh.gr g1,e2,λF' H' cB cg bI s1 s2 kp fr fS nw=>?_⟩;have dD:∀a,a∈ZL p ls ns\/a∈ts->F0.h a=none:=λa ha=>ha.elim (h3 a) (h4 a);have out:∀a,a∈ZL p cg bI\/a∈cB->F0.h a=none:=λa ha=>(nw a ha).elim (dD a) λy=>bZ.hh.none y;refine k σ F' H' (g1.ff.trans s1) (bZ.nest hl s1 s2 (λa o h=>kp a o (λz=>by rw[dD a (q_7.mp z)]at h;cases h) (bZ.hh a o h)) λa o h=>?_) ⟨p,cB,cg,bI,h1,fS,λa ha=>out a (.inl ha),λt ht=>out t (.inr ht)⟩;rcases fr a o h with y|y|y;·exact .inl y
   ·exact .inr (dD a y)
   ·exact .inr (bZ.hh.none y)
  ·cases z
def NP{c:Expr}{a b:List Stmt}{cv:Q8}{ba bb:ZB SM}{pos:Pos}(hc:PT X c (tDT X [Qh i] cv))(ha:PSs X a (V3 X [Qh i] SRes ba))(hb:PSs X b (V3 X [Qh i] SRes bb)):PS X (.If c a b pos) (V3 X [Qh i] SRes (Wf cv ba bb)):=PS.imp (Hq hc ha hb) λDn σ H⟨F0,F,en,m,r,rs,res,z,k⟩=>by
  unfold Wf at z;split at z
  ·rename_i e1;exact⟨_,F,_,true,rs,e1,λF' H' g=>UK ⟨_,F',en,m,r,rs.grow g,SRes.gr _ _ _ _ _ _ res g,z,λσ' F2 H2 s=>k σ' F2 H2 (g.ff.trans s)⟩⟩
  ·rename_i e1;exact⟨_,F,_,false,rs,e1,λF' H' g=>UJ ⟨_,F',en,m,r,rs.grow g,SRes.gr _ _ _ _ _ _ res g,z,λσ' F2 H2 s=>k σ' F2 H2 (g.ff.trans s)⟩⟩
  ·cases z
def QdL{st:Stmt}{J5:List Stmt}{ba bb:ZB SM}(h1:PS X st (V3 X [Qh i] SRes ba))(h2:PSs X J5 (V3 X [Qh i] SRes bb)):PSs X (st::J5) (V3 X [Qh i] SRes (U3 ba bb)):=PSs.imp (Tp h1 h2) λDn σ H⟨F0,F,en,m,r,rs,res,z,k⟩=>by obtain⟨q,e1,e2⟩:=J2 z;exact⟨F0,F,en,m,q,rs,res,e1,λσ' F' H' s bE cL=>⟨F0,F',q.1,q.2,r,bE,cL,e2,λσ2 F2 H2 s2=>k σ2 F2 H2 (s.trans s2)⟩⟩
end
noncomputable def XN(x:Str)(l:List Str):List Str:=match l.getLast? with|none=>l|some y=>l.set (l.length-1) (y++" "++x)
def Rc(c:Bool)(x:Str)(N:List Str)(s:List Str×List Str):List Str×List Str:=(if c then s.1++[x]else XN x s.1,s.2++N)
def Qkj(c:Bool)(x:Str)(N:List Str)(m:SM)(g:Int):Prop:=m.length<1000/\x.length<=100000/\N.length<=100000/\∀s∈ens m g,s.2.1.length<=100000/\s.2.2.length<=100000/\(s.1=g->c=false->s.2.1≠[]/\∀y∈s.2.1,y.length<=100000)
noncomputable def oI:Option D->Option Int|some (.int i)=>some i|_=>none
noncomputable def oB:Option D->Option Bool|some (.bl i)=>some i|_=>none
noncomputable def oS:Option D->Option Str|some (.str i)=>some i|_=>none
noncomputable def oL:Option D->Option (List D)|some (.lst i)=>some i|_=>none
def Qge{o:Option D}{i:Int}(h:oI o=some i):o=some (.int i):=by
 unfold oI at h;split at h;·cases h;rfl
 ·cases h
def Qgd{o:Option D}{i:Bool}(h:oB o=some i):o=some (.bl i):=by
 unfold oB at h;split at h;·cases h;rfl
 ·cases h
def Qgg{e:QD}{k:Nat}{i:Str}(h:oS (eV k e)=some i):e[k]?=some (some (.str i)):=by unfold oS eV at h;cases z:e[k]? with|none=>rw[z]at h;cases h|some o=>cases o with|none=>rw[z]at h;cases h|some d=>rw[z]at h;cases d<;>first|(cases h;rfl)|cases h
def Qgf{e:QD}{k:Nat}{i:List D}(h:oL (eV k e)=some i):e[k]?=some (some (.lst i)):=by unfold oL eV at h;cases z:e[k]? with|none=>rw[z]at h;cases h|some o=>cases o with|none=>rw[z]at h;cases h|some d=>rw[z]at h;cases d<;>first|(cases h;rfl)|cases h
open Classical in noncomputable def K5(pg cv:Q8):ZB SM:=λe m=>(oI (pg e)).bind λg=>(oB (cv e)).bind λc=>(oS (eV 2 e)).bind λx=>(oL (eV 3 e)).bind λds=>(UU ds).bind λN=>if Qkj c x N m g/\e.length=6/\e[4]?=some none/\e[5]?=some none then some (e,YW (Rc c x N) m g)else none
section
variable{K:Fg}{H₀:Hp}{F0:Fz}{F H:Hp}{σ:L2.St}{e:QD}{i:Nat}
def RS.raw(r:RS K H₀ F0 F H σ e [Qh i])(hl:e.length<=1000){j:Nat}(hj:e[j]?=some none)(ji:j≠i)(v:V):RS K H₀ F0 F H (σ.set j (some v)) e [Qh i]:=by
 have no:∀{j:Nat}{d:D},e[j]?=some (some d)->j∈[Qh i]->False:=λ{j d}h hj=>by
  have:=(q_22.mp h).1;have:=q_1.mp hj;unfold Qh at this;omega
 refine⟨r.fh,r.hh,r.ff,r.fr,λk d h hk=>?_,λk d h hk=>(no h hk).elim,λk _ _ _ _ hk _ h1=>(no h1 hk).elim,λk hk=>?_,by rw[W3];exact r.len⟩
 ·have:j≠k:=λz=>by rw[z,h]at hj;cases hj
  rw[Uq this];exact r.slot k d h hk
 ·have:k=i:=by
   have:=q_1.mp hk;unfold Qh at this;omega
  subst this;rw[Uq ji];exact r.pin k hk
end
noncomputable abbrev Bu:R2:=λx y H Q=>∃i j,x=.str i/\y=.str j/\i.length+j.length<=sizeLine/\Q (.str (i++j)) H
abbrev tM1:TE:=tUn (rU λi=>.int (-i)) (tC (.int 1))
section
variable{X:Cx}
def QdO{body:List Stmt}{pg cv:Q8}(h:PSs X body (L6 (RW (Oo RU [] E0 (Vo (VZ 0) (Vo (tD X [Qh 0] pg) X5))) (Pq 4)) (L6 (RW (X6 (UR X.K) (VZ 4) (tC (.int 0))) (Pq 5)) (L6 (Qav (tDT X [Qh 0] cv) (RY (RX X.K "list" Bt (VZ 5) (Vo (VZ 2) X5))) (RW (X6 Bu (X6 Bu (X6 (UR X.K) (VZ 5) tM1) (tC (.str " "))) (VZ 2)) (C8 (VZ 5) tM1 Bz))) (RY (RX X.K "list" Mp (X6 (UR X.K) (VZ 4) (tC (.int 1))) (Vo (VZ 3) X5))))))):PSs X body (V3 X [Qh 0] SRes (K5 pg cv)):=PSs.imp h λDn σ H⟨F0,F,en,m,r,rs,res,z,k⟩=>by
  obtain⟨g,z1,z⟩:=J2 z;obtain⟨c,z2,z⟩:=J2 z;obtain⟨x,z3,z⟩:=J2 z;obtain⟨ds,z4,z⟩:=J2 z;obtain⟨N,hN,z⟩:=J2 z;have iY:=Qge z1;have mM:=Qgd z2;have e2:=Qgg z3;have e3:=Qgf z4;split at z
  ·rename_i hh;cases z;obtain⟨wc,he,e4,e5⟩:=hh;have hl:en.length<=1000:=by omega
   obtain⟨w1,w2,w3,w4⟩:=wc;obtain⟨p,ts,ls,ns,h1,sh,h3,h4⟩:=res;obtain⟨p',cZ,hσ⟩:=rs.pin 0 (q_1.mpr rfl);rw[h1]at cZ;cases cZ;have iS:=sizeLine_eq;refine⟨.ref p,hσ,F0,F,en,_,rs,iY,λv F1 H1 g1 r1=>?_⟩;have ev:=A1 r1;subst ev;have bZ:=rs.grow g1;have fR:=sh.gr g1;refine⟨F1,m,p,ts,ls,ns,g,bZ.fh,rfl,fR,w1,λH2 cB cg bI j t kp dg nw eA⟨s,hx,sg,hu⟩=>?_⟩;obtain⟨dh,fM,jc⟩:=fR.asked bZ hl h3 h4 kp dg nw;have hj:j<(ens m g).length:=(q_22.mp hx).1;obtain⟨l,lj⟩:∃l,cg[j]?=some l:=⟨_,Qk (by rw[dg.ll];exact hj)⟩;obtain⟨n,nj⟩:∃n,bI[j]?=some n:=⟨_,Qk (by rw[dg.ln];exact hj)⟩;obtain⟨c1,c2,c3⟩:=dg.at_ j t _ _ s eA lj nj hx;obtain⟨b1,b2,b3⟩:=w4 s (Yo hx);have sl:=rs.len;have s4:(σ.set 4 (some (.ref t)))[4]?=some (some (.ref t)):=by rw[Us,if_pos rfl,if_pos (by rw[sl,he];simp)]
   refine⟨.ref t,s4,?_⟩;refine .inr (.inl ⟨t,_,0,.ref l,rfl,rfl,SqT.of c1,rfl,?_⟩);have cF:=(dh.raw hl e4 (by decide) (.ref t)).raw hl e5 (by decide) (.ref l);generalize fm:(σ.set 4 (some (V.ref t))).set 5 (some (V.ref l))=σ' at cF;have t4:σ'[4]?=some (some (.ref t)):=by rw[<-fm,Uq (by decide)];exact s4
   have t5:σ'[5]?=some (some (.ref l)):=by rw[<-fm,Us,if_pos rfl,if_pos (by rw[W3,sl,he];simp)]
   have no:∀{j:Nat}{d:D},en[j]?=some (some d)->j∉[Qh 0]:=λ{j d}h hj=>by
    have:=(q_22.mp h).1;have:=q_1.mp hj;unfold Qh at this;omega
   have t2:σ'[2]?=some (some (.str x)):=by
    obtain⟨v,y1,y2⟩:=cF.slot 2 _ e2 (no e2);rw[y1,Mq y2]
   obtain⟨v3,t3,r3⟩:=cF.slot 3 _ e3 (no e3);dsimp only[Pq];rw[fm];refine⟨F0,F1,en,c,cF,mM,λF5 H5 g5=>?_⟩;have gR:=cF.grow g5;have dQ:=dg.gr g5;have lm:=dQ.memL lj;have nm:=dQ.memN nj;obtain⟨kI,gq,c35⟩:=dQ.at_ j t _ _ s eA lj nj hx;have fX:l≠n:=λe=>(q_63.mp (q_46.mp dQ.nd).2).2.2 l (Yo lj) n (Yo nj) e;cases(r3.mono g5.ff)with|lst hb hr=>
   rename_i b zs;have ez:=Gf hr hN;subst ez;have bl:b≠l:=λe=>by rw[e,dQ.fn l lm]at hb;cases hb
   have bn:b≠n:=λe=>by rw[e,dQ.fn n nm]at hb;cases hb
   have tl:t≠l:=λe=>by rw[e,gq]at kI;cases kI
   have fin:∀(L:List Str)(zs:List V),zs=L.map V.str->(if c then s.2.1++[x]else XN x s.2.1)=L->(RY (RX X.K "list" Mp (X6 (UR X.K) (VZ 4) (tC (.int 1))) (Vo (VZ 3) X5))) Dn σ' (upd H5 l (.lst zs)):=λL zs hz hL=>by
    have jV:=dQ.set (L:=L) (N:=s.2.2) hx eA lj nj (.inl ⟨rfl,rfl⟩) (zs:=zs) (by rw[if_pos rfl,hz]);have gQ:=gR.wr hl (dQ.fn _ lm) (fM _ lm) (.lst zs);have cQ:((ens m g).set j (s.1,L,s.2.2))[j]?=some (s.1,L,s.2.2):=by rw[Us,if_pos rfl,if_pos hj]
    obtain⟨nh,c26,kH⟩:=jV.at_ j t _ _ _ eA lj nj cQ;refine⟨.ref t,t4,?_⟩;refine .inr (.inl ⟨t,_,1,.ref n,rfl,rfl,SqT.of nh,rfl,?_⟩);refine⟨.inl ⟨rfl,_,SqL.of kH⟩,_,t3,n,b,_,N.map V.str,rfl,rfl,kH,?_,?_,?_⟩;·rw[Qn bl];exact gR.fh _ _ hb
    ·rw[Qm,Qm];show s.2.2.length+_<=_;omega
    ·refine k σ' F5 _ (g1.ff.trans g5.ff) (gQ.wr hl (dQ.fn _ nm) (fM _ nm) _) ⟨p,cB,cg,bI,h1,?_,fM,jc⟩;show SH (YW (Rc c x N) m g) p cB cg bI F5 _;have:=jV.set (L:=L) (N:=s.2.2++N) cQ eA lj nj (.inr ⟨rfl,rfl⟩) (zs:=s.2.2.map V.str++N.map V.str) (by rw[if_neg (Ne.symm fX),Zr]);rw[List.set_set]at this;rw[hu];have e:Rc c x N s.2=(L,s.2.2++N):=by unfold Rc;rw[hL]
     rw[e];exact this
   cases c with
   |true=>refine UK ⟨.ref l,t5,.inl ⟨rfl,_,SqL.of gq⟩,_,t2,l,_,_,rfl,rfl,gq,by rw[Qm];omega,?_⟩;exact fin (s.2.1++[x]) _ (by rw[Zr];rfl) rfl|false=>
    obtain⟨ne,yl⟩:=b3 sg rfl;obtain⟨y,hy⟩:∃y,s.2.1.getLast?=some y:=by cases q:s.2.1.getLast? with|none=>exact absurd (List.getLast?_eq_none_iff.mp q) ne|some y=>exact⟨y,rfl⟩
    have nv:=yl y (List.mem_of_getLast? hy);have len:0<s.2.1.length:=List.length_pos_iff.mpr ne;have ix:UL (s.2.1.map V.str).length (-1)=some (s.2.1.length-1):=by
     unfold UL;rw[Qm,if_neg (by decide),if_pos (by omega)];congr 1;omega
    have ay:XY (s.2.1.map V.str) (-1)=some (.str y):=by
     unfold XY;rw[ix];show(s.2.1.map V.str)[s.2.1.length-1]?=_;rw[Yb,<-List.getLast?_eq_getElem?,hy];rfl
    refine UJ ⟨.ref l,t5,?_⟩;refine⟨1,rfl,.inl ⟨l,_,-1,.str y,rfl,rfl,SqL.of gq,ay,?_⟩⟩;refine⟨y," ",rfl,rfl,by show y.length+1<=_;omega,_,t2,y++" ",x,rfl,rfl,?_,?_⟩;·rw[Str.length_append];show y.length+1+_<=_;omega
    refine⟨.ref l,t5,1,rfl,l,_,-1,s.2.1.length-1,rfl,rfl,gq,ix,?_⟩;refine fin (XN x s.2.1) _ ?_ rfl;unfold XN;rw[hy,List.map_set]
  ·cases z
end
noncomputable def VY(x:Int×List Str×List Str):D:=.tup [.lst (x.2.1.map .str),.lst (x.2.2.map .str)]
def Uz(m:SM):D:=.dic (m.map λx=>.inl x.1) (m.map VY)
def RK(i:Nat)(b:ZB SM):QF:=λe=>match e[i]? with|some (some (.dic [] []))=>if e.length<=1000 then(b (e.set i none) []).bind λr=>if i<r.1.length/\r.1.length<=1000 then some (.nx (r.1.set i (some (Uz r.2))))else none else none|_=>none
theorem Reps.strs{K:Fg}{F:Hp}:∀(L:List Str),Reps K F (L.map V.str) (L.map .str)|[]=>.nil|x::L=>.cons (.str x) (Reps.strs L)
section
variable{K:Fg}{H₀:Hp}{F0:Fz}{F H:Hp}{σ:L2.St}{e:QD}{i:Nat}
def RS.nestOutS{p:Addr}{m:SM}(r:RS K H₀ ⟨F0.f,F0.h,some p⟩ F H σ e [Qh i])(res:SRes m ⟨F0.f,F0.h,some p⟩ F H)(hi:i<e.length)(hl:e.length<=1000):∃F',Sm F F'/\RS K H₀ F0 F' H σ (e.set i (some (Uz m))) [i]:=by
 obtain⟨p',ts,ls,ns,h1,sh,h3,h4⟩:=res;cases h1;obtain⟨p',cZ,hσ⟩:=r.pin i (q_1.mpr rfl);cases cZ;have nd:=q_46.mp sh.nd;have tn:p∉ts:=λz=>by
  obtain⟨j,hj,e⟩:=Tr z;have hm:j<m.length:=by rw[<-sh.lt];exact hj
  have:=(sh.at_ j p _ _ _ (by rw[Qk hj,e]) (Qk (by rw[sh.ll];exact hm)) (Qk (by rw[sh.ln];exact hm)) (Qk hm)).1;rw[sh.dc]at this;cases this
 let fz:=ls++ns++ts;have fn:∀a∈fz,F a=none/\F0.h a=none:=λa ha=>by
  rcases q_7.mp ha with z|z;·exact⟨sh.fn a (JH _ z),h3 a (JH _ z)⟩
  ·exact⟨sh.ft a z,h4 a z⟩
 let F':Hp:=λa=>if a∈fz then H a else F a;have s1:Sm F F':=λa o h=>by
  have:a∉fz:=λz=>by rw[(fn a z).1]at h;cases h
  show(if a∈fz then H a else F a)=_;rw[if_neg this];exact h
 have s2:Sm F' H:=λa o h=>by
  have h':(if a∈fz then H a else F a)=some o:=h;split at h';·exact h'
  ·exact r.fh a o h'
 have q:∀{j:Nat}{d:D},j≠i->(e.set i (some (Uz m)))[j]?=some (some d)->e[j]?=some (some d):=λ{j d}z h=>by rwa[Uq (Ne.symm z)]at h
 have i1:i<1000:=by omega
 refine⟨F',s1,s2,r.hh,r.ff.trans s1,λa o h=>?_,λj d h hj=>?_,λj d h hj=>?_,λj j' _ _ _ hj i6 _ _ _ _=>by rw[q_1.mp hj,q_1.mp i6],λj hj=>?_,by rw[W3];exact r.len⟩
 ·have h':(if a∈fz then H a else F a)=some o:=h;split at h'
  ·rename_i z;exact .inr (fn a z).2
  ·exact r.fr a o h'
 ·have ji:j≠i:=λz=>hj (q_1.mpr z);have h':=q ji h;obtain⟨v,a1,a2⟩:=r.slot j d h' λz=>by
   have:=(q_22.mp h').1;have:=q_1.mp z;unfold Qh at this;omega
  exact⟨v,a1,a2.mono s1⟩
 ·have:=q_1.mp hj;subst this;rw[Us,if_pos rfl,if_pos hi]at h;cases h;refine⟨p,some (m.map λx:Int×List Str×List Str=>(Sum.inl x.1:Kd)),ts.map V.ref,m.map VY,hσ,h3 p JN,?_,sh.dc,?_,rfl,by show(m.map λx=>(Sum.inl x.1:Kd)).length=_;simp[sh.lt]⟩;·show(if p∈fz then H p else F p)=_;rw[if_neg λz=>(q_7.mp z).elim nd.1 tn];exact sh.fn p JN
  ·have g:∀(fP:List Addr)(m1:SM),fP.length=m1.length->(∀(j:Nat)(t:Addr)(x:Int×List Str×List Str),fP[j]?=some t->m1[j]?=some x->Rep K F' (.ref t) (VY x))->Reps K F' (fP.map V.ref) (m1.map VY):=λfP=>by induction fP with
    |nil=>intro m1 h _;cases m1 with|nil=>exact .nil|cons _ _=>simp at h
    |cons q1 qs1 ih=>
     intro m1 h hh;cases m1 with|nil=>simp at h|cons l1 m1=>exact .cons (hh 0 q1 l1 rfl rfl) (ih m1 (by simpa using h) λj q l a b=>hh (j+1) q l (by simpa using a) (by simpa using b))
   refine g ts m sh.lt λj t x a b=>?_;have hm:=(q_22.mp b).1;obtain⟨l,dU⟩:∃l,ls[j]?=some l:=⟨_,Qk (by rw[sh.ll];exact hm)⟩;obtain⟨n,hn⟩:∃n,ns[j]?=some n:=⟨_,Qk (by rw[sh.ln];exact hm)⟩;obtain⟨c1,c2,c3⟩:=sh.at_ j t l n x a dU hn b;have fr:∀a,a∈fz->F' a=H a:=λa ha=>if_pos ha;refine .tup ((fr t (YF _ (Yo a))).trans c1) (.cons (.lst ((fr l (V0 _ (V0 _ (Yo dU)))).trans c2) (Reps.strs _)) (.cons (.lst ((fr n (V0 _ (YF _ (Yo hn)))).trans c3) (Reps.strs _)) .nil))
 ·have:=q_1.mp hj;unfold Qh at this;omega
end
section
variable{X:Cx}{O' OL:List Nat}{w:Bool}{i:Nat}{s1 s2:Stmt}{J5:List Stmt}{ba bb:ZB SM}{s:QF}
def QdM(h1:PS X s1 (V3 X [Qh i] SRes ba))(h2:PS X s2 (V3 X [Qh i] SRes bb))(h3:PSs X J5 (tS X [i] O' OL w s)):PSs X (s1::s2::J5) (tS X [i] O' OL w (sQ (RK i (U3 ba bb)) s)):=PSs.imp (Tp h1 (Tp h2 h3)) λDn σ H⟨F0,F,en,fl,rs,z,k⟩=>by have z':XT (RK i (U3 ba bb) en) s=some fl:=z;cases q:RK i (U3 ba bb) en with|none=>rw[q]at z';cases z'|some f1=>
  rw[q]at z';unfold RK at q;split at q
  ·rename_i he;split at q
   ·rename_i hl;obtain⟨r,e1,e2⟩:=J2 q;split at e2
    ·rename_i hc;cases e2;obtain⟨r1,e3,e4⟩:=J2 e1;obtain⟨p,kk,xs,ds,a1,a2,a3,a4,a5,a6,a7⟩:=rs.own i _ he (q_1.mpr rfl);cases kk with
     |none=>cases a6|some ks=>
      cases a6;cases a5;refine⟨⟨F0.f,F0.h,some p⟩,F,en.set i none,[],r1,rs.nestIn hl a1,⟨p,[],[],[],rfl,⟨rfl,rfl,rfl,a4,by simp[ZL],by simp,by simp[ZL,a3],by simp⟩,by simp[ZL,a2],by simp⟩,e3,λσ' F' H' s' bE cL=>?_⟩;refine⟨⟨F0.f,F0.h,some p⟩,F',r1.1,r1.2,r,bE,cL,e4,λσ2 F2 H2 s2 dh jv=>?_⟩;obtain⟨F3,s3,cN⟩:=dh.nestOutS jv hc.1 hc.2;exact⟨F0,F3,_,fl,cN,z',k.mono ((s'.trans s2).trans s3)⟩
    ·cases e2
   ·cases q
  ·cases q
end
noncomputable def D.fs3:D->D->D->Option D|.str x,.str y,.str z=>if x.length<=100000/\y.length<=100000/\z.length<=100000 then some (.str (x++" "++y++" "++z))else none|_,_,_=>none
def DM(a b c:Q8):Q8:=λe=>(a e).bind λx=>(b e).bind λy=>(c e).bind λz=>D.fs3 x y z
section
variable{X:Cx}{O:List Nat}{e1 e2 e3:Expr}{t1 t2 t3:TE}
def Qh2{j1 j2}{p1 p2 p3 p4 p5 pos:Pos}(h1:PE X e1 t1)(h2:PE X e2 t2)(h3:PE X e3 t3):PE X (.JoinedStr [.FormattedValue e1 (-1) none p1,.Constant (.str " ") j1 p2,.FormattedValue e2 (-1) none p3,.Constant (.str " ") j2 p4,.FormattedValue e3 (-1) none p5] pos) (λσ H Q=>t1 σ H λu H1=>∃x,u=.str x/\x.length<=100000/\t2 σ H1 λu H2=>∃y,u=.str y/\y.length<=100000/\t3 σ H2 λu H3=>∃z,u=.str z/\z.length<=100000/\Q (.str (x++" "++y++" "++z)) H3):=by
 intro aa s σ H Q I h;have hz:=sizeLine_eq;refine JoinedStr_many (joinParts_cons (FormattedValue_plain (Qa (h1 aa _ σ H _ I h) λu s1⟨v,H1,I1,r1,x,ev,lx,q⟩=>?_)));subst ev;obtain⟨t,rfl⟩:=r1;have e0:Str.empty++x=x:=Str.empty_append x;have sp:(Str.ofString " ").length=1:=rfl;refine formatField_str (λt' tk=>⟨by rw[e0];omega,?_⟩) (by omega);rw[e0];refine joinParts_cons (Calls.Constant_str ⟨by rw[Str.length_append];omega,?_⟩);refine joinParts_cons (FormattedValue_plain (Qa (h2 aa _ σ H1 _ ((I1.tok _).tok _) q) λu s2⟨v,H2,I2,r2,y,ev,ly,q⟩=>?_));subst ev;obtain⟨t2,rfl⟩:=r2;refine formatField_str (λt' tk=>⟨by rw[Str.length_append,Str.length_append];omega,?_⟩) (by omega);refine joinParts_cons (Calls.Constant_str ⟨by rw[Str.length_append,Str.length_append,Str.length_append];omega,?_⟩);refine joinParts_cons (FormattedValue_plain (Qa (h3 aa _ σ H2 _ ((I2.tok _).tok _) q) λu s3⟨v,H3,I3,r3,z,ev,lz,q⟩=>?_));subst ev;obtain⟨t3,rfl⟩:=r3;have l5:(x++" "++y++" "++z:Str).length<=sizeLine:=by rw[Str.length_append,Str.length_append,Str.length_append,Str.length_append];omega
 refine formatField_str (λt' tk=>⟨l5,?_⟩) (by omega);exact joinParts_nil ⟨.str _,H3,(I3.tok _).tok _,⟨_,rfl⟩,q⟩ l5
def Qdx{j1 j2}{p1 p2 p3 p4 p5 pos:Pos}{ea eb ec:Q8}(h1:PE X e1 (tD X O ea))(h2:PE X e2 (tD X O eb))(h3:PE X e3 (tD X O ec)):PE X (.JoinedStr [.FormattedValue e1 (-1) none p1,.Constant (.str " ") j1 p2,.FormattedValue e2 (-1) none p3,.Constant (.str " ") j2 p4,.FormattedValue e3 (-1) none p5] pos) (tD X O (DM ea eb ec)):=PE.imp (Qh2 h1 h2 h3) λσ H Q⟨F0,F,en,d,rs,z,k⟩=>by
  obtain⟨dx,a1,z1⟩:=J2 z;obtain⟨dy,a2,z2⟩:=J2 z1;obtain⟨dz,a3,z3⟩:=J2 z2;obtain⟨x,y,w,rfl,rfl,rfl,lx,ly,lw,rfl⟩:∃x y w,dx=.str x/\dy=.str y/\dz=.str w/\x.length<=100000/\y.length<=100000/\w.length<=100000/\d=.str (x++" "++y++" "++w):=by
   unfold D.fs3 at z3;split at z3
   ·split at z3;·rename_i hh;cases z3;exact⟨_,_,_,rfl,rfl,rfl,hh.1,hh.2.1,hh.2.2,rfl⟩
    ·cases z3
   ·cases z3
  refine⟨F0,F,en,_,rs,a1,λv F1 H1 g1 r1=>⟨x,Mq r1,lx,F0,F1,en,_,rs.grow g1,a2,λv F2 H2 g2 r2=>⟨y,Mq r2,ly,F0,F2,en,_,(rs.grow g1).grow g2,a3,λv F3 H3 g3 r3=>⟨w,Mq r3,lw,?_⟩⟩⟩⟩;exact k _ F3 H3 ((g1.trans g2).trans g3) (.str _)
end
noncomputable def N8(s:QF):ZB SM:=λe m=>match s e with|some (.nx e')=>if e.length<=1000/\e'.length<=1000 then some (e',m)else none|_=>none
def RS.deep{K:Fg}{H₀:Hp}{F0:Fz}{F H F' H':Hp}{σ σ':L2.St}{e e':QD}{i:Nat}(r:RS K H₀ F0 F H σ e [Qh i])(hl:e'.length<=1000)(q:RS K H₀ ⟨F,H,F0.p⟩ F' H' σ' e' [Qh i]):RS K H₀ F0 F' H' σ' e' [Qh i]:=by
 have no:∀{j:Nat}{d:D},e'[j]?=some (some d)->j∈[Qh i]->False:=λ{j d}h hj=>by
  have:=(q_22.mp h).1;have:=q_1.mp hj;unfold Qh at this;omega
 refine⟨q.fh,r.hh.trans q.hh,r.ff.trans q.ff,λa o h=>?_,q.slot,λj d h hj=>(no h hj).elim,λj _ _ _ _ hj _ h1=>(no h1 hj).elim,q.pin,q.len⟩;rcases q.fr a o h with z|z;·exact r.fr a o z
 ·exact .inr (r.hh.none z)
def RS.all{K:Fg}{H₀:Hp}{F0:Fz}{F H:Hp}{σ:L2.St}{e:QD}{i:Nat}(r:RS K H₀ F0 F H σ e [Qh i])(hl:e.length<=1000):RS K H₀ ⟨F,H,F0.p⟩ F H σ e [Qh i]:=by
 have no:∀{j:Nat}{d:D},e[j]?=some (some d)->j∈[Qh i]->False:=λ{j d}h hj=>by
  have:=(q_22.mp h).1;have:=q_1.mp hj;unfold Qh at this;omega
 exact⟨r.fh,.refl H,.refl F,λa o h=>.inl h,r.slot,λj d h hj=>(no h hj).elim,λj _ _ _ _ hj _ h1=>(no h1 hj).elim,r.pin,r.len⟩
section
variable{X:Cx}{i:Nat}
def QdJ{st:Stmt}{j:Nat}{OL:List Nat}{w:Bool}{b:QF}(h:PS X st (tS X [Qh i] (ad j [Qh i]) OL w b))(he:dl j (ad j [Qh i])=[Qh i]:=by decide):PS X st (V3 X [Qh i] SRes (N8 b)):=by
 rintro aa s σ H D I⟨F0,F,en,m,r,rs,res,z,k⟩;obtain⟨e',z1,hl,dU,rfl⟩:∃e',b en=some (.nx e')/\en.length<=1000/\e'.length<=1000/\r=(e',m):=by
  unfold N8 at z;split at z
  ·rename_i e' h1;split at z;·rename_i h2;cases z;exact⟨e',h1,h2.1,h2.2,rfl⟩
   ·cases z
  ·cases z
 refine Qa (h aa s σ H {D with nx:=λσ' H'=>∃F',RS X.K X.H₀ ⟨F,H,F0.p⟩ F' H' σ' e' (ad j [Qh i])} I ⟨⟨F,H,F0.p⟩,F,en,_,rs.all hl,z1,λσ' F' H' _ q=>⟨F',q⟩⟩) λf s' sp=>?_;cases f with|next=>obtain⟨σ',H',I',F',q⟩:=sp;obtain⟨F2,H2,I2,s2,r2⟩:=G4 j I' q;rw[he]at r2;have g:Gr F H F2 H2:=r2.ex.gr;exact⟨σ',H2,I2,k σ' F2 H2 g.ff (rs.deep dU r2) (SRes.gr _ _ _ _ _ _ res g)⟩|_=>exact sp
end
section
variable{X:Cx}{O:List Nat}{x:Str}{pos p:Pos}{e:Expr}{es:List Expr}{l:Z4}{k k':Nat}{ps:List Str}
def dv(i:Nat)(hN:X.N[i]?=some x:=by rfl)(hv:Vu X.env.scope x:=by first|exact Or.inl rfl|exact Or.inr (Or.inl rfl)|exact Or.inr (Or.inr rfl))(hd:(x==("__debug__":Str))=false:=by decide)(hc:(x==("__classdict__":Str))=false:=by decide):PE X (.Name x pos) (tR X O (eV i)):=Yt i hN hv hd hc
def dq{i:Int}{j}:PE X (.Constant (.int i) j pos) (tR X O (eC (.int i))):=dr J3
def dn(i:Nat)(hr:PA X es (tL X O l))(hN:X.N[i]?=some x:=by rfl)(hv:Vu X.env.scope x:=by first|exact Or.inl rfl|exact Or.inr (Or.inl rfl)|exact Or.inr (Or.inr rfl))(hO:i∉O:=by decide)(hd:(x==("__debug__":Str))=false:=by decide)(hc:(x==("__classdict__":Str))=false:=by decide):PA X (.Name x pos::es) (tL X O (lC (eV i) l)):=D3 (Qe i hN hv hO hd hc) hr
def dc{f:List D->Option D}(c:Qi X.prog X.w X.K X.mg X.ab k x ps (Qq X.K f))(hr:Room k' X.A)(ha:PA X (e::es) (tL X O l))(hk:k<=k':=by decide)(hg:Gl X x:=by exact rfl)(cj:(x==("__debug__":Str))=false:=by decide)(he:starEach (e::es) X.env=(false,eval e X.env)::starEach es X.env:=by rfl)(cR:(backTo pos (starEach es X.env)).any (·.1)=false:=by rfl):PE X (.Call (.Name x p) (e::es) [] pos) (tD X O (eK f l)):=Qdw c (hr.mono hk) hg ha cj he cR
def J1{P:Program}{w:World}{K:Fg}{mg:Str->Option Value}{ab:Heap}{st:Stmt}(N ps:List Str)(b:QF)(k:Nat)(h:Df K mg x st ps)(hb:N.Nodup->∀{f:Addr}{az:Value}{A:Around}{ag:List Env}{s:Shared}{H:Hp}{E:XK},Room k (A.deeper (envOfC x (Qp st) s.heap.objs.size f az))->PSs (V9 Yg P w K mg ab N x (Qp st) f az A ag s H E).nox (Yp st) (tS (V9 Yg P w K mg ab N x (Qp st) f az A ag s H E).nox [] [] [] false b))(S:FnScope N ps (Qp st):=by constructor<;>first|rfl|decide+kernel):Qi P w K mg ab (k+1) x ps (Qq K (Qj N.length ps.length b)):=okC h S λ_ _ _ _ _ _ _ hr=>hb S.nd hr
end
section
variable{X:Cx}{O:List Nat}{x:Str}{pos p:Pos}{a b:Expr}{es:List Expr}{l:Z4}{k:Nat}{ea eb:Q8}
def dE(hr:Room k X.A)(ha:PE X a (tR X O ea))(hb:PE X b (tR X O eb)):PT X (.Compare a [.Eq] [b] pos) (tDT X O (Q4 D.eqO ea eb)):=Vf (Wz hr.units) ha hb (Z8 _)
def dF(hr:Room k X.A)(ha:PE X a (tR X O ea))(hb:PE X b (tR X O eb)):PT X (.Compare a [.NotEq] [b] pos) (tDT X O (Q4 D.neO ea eb)):=Vf (BV hr.units) ha hb (Z8 _)
def dy{z:Int}{j}{q:Pos}(i:Nat)(hN:X.N[i]?=some x:=by rfl)(hv:Vu X.env.scope x:=by first|exact Or.inl rfl|exact Or.inr (Or.inl rfl)|exact Or.inr (Or.inr rfl))(hd:(x==("__debug__":Str))=false:=by decide)(hc:(x==("__classdict__":Str))=false:=by decide):PE X (.Subscript (.Name x p) (.Constant (.int z) j q) pos) (tD X O (Q4 D.ix (eV i) (eC (.int z)))):=QU (dv i hN hv hd hc) dq
def dx{z:Int}{j}{q:Pos}(i:Nat)(hN:X.N[i]?=some x:=by rfl)(hv:Vu X.env.scope x:=by first|exact Or.inl rfl|exact Or.inr (Or.inl rfl)|exact Or.inr (Or.inr rfl))(hd:(x==("__debug__":Str))=false:=by decide)(hc:(x==("__classdict__":Str))=false:=by decide):PE X (.Subscript (.Name x p) (.Constant (.int z) j q) pos) (tR X O (Q4 D.ix (eV i) (eC (.int z)))):=dr (dy i hN hv hd hc)
end
end Wd
namespace My
section
open PySem Wd
abbrev Q5(n:Int):Q8:=eC (.int n)
abbrev Q6(n:Str):Q8:=eC (.str n)
abbrev JS(n:Bool):Q8:=eC (.bl n)
abbrev Q2(k:Nat)(n:Int):Q8:=Q4 D.ix (eV k) (eC (.int n))
abbrev ZZ(a:Q8)(n:Int):Q8:=Q4 D.ix a (eC (.int n))
abbrev J7(a b:Q8):Q8:=Q4 D.ix a b
abbrev QG(a b:Q8):Q8:=Q4 D.eqO a b
abbrev Yc(a b:Q8):Q8:=Q4 D.neO a b
abbrev QJ(a b:Q8):Q8:=Q4 D.add a b
abbrev Js(a b:Q8):Q8:=Q4 D.mod a b
abbrev YV(a b:Q8):Q8:=Q4 D.mulA a b
abbrev Vl(a b:Q8):Q8:=Q4 D.sub a b
abbrev QZ(a:Q8):Z4:=lC a lN
abbrev Qc(a b:Q8):Z4:=lC a (lC b lN)
abbrev Qu(a b c:Q8):Z4:=lC a (lC b (lC c lN))
abbrev Z3(a b c d:Q8):Z4:=lC a (lC b (lC c (lC d lN)))
noncomputable abbrev Q1(n:Int):Option D:=some (.int n)
noncomputable abbrev QB(n:List D):Option D:=some (.lst n)
noncomputable abbrev QP(n:Str):Option D:=some (.str n)
noncomputable abbrev QL(n:Bool):Option D:=some (.bl n)
def Ka:QF:=QQ (QE D.len (QE D.strI (eV 0)))
def Sb:List D->Option D:=Qj 1 1 Ka
def KW:QF:=QQ (QT (Z3 (eV 0) (Q5 0) (Q5 0) (Q5 0)))
def UD:List D->Option D:=Qj 1 1 KW
def Ke:QF:=QQ (Q4 D.le (QJ (QJ (Q2 1 1) (Q2 1 3)) (eV 2)) (Q2 0 1))
def Sd:List D->Option D:=Qj 3 3 Ke
def Kf:QF:=QQ (J8 (QG (Q2 1 2) (Q5 0)) (Q4 D.le (QJ (QJ (Q2 1 2) (Q5 1)) (eV 2)) (Q2 0 0)))
def NY:List D->Option D:=Qj 3 3 Kf
def IP:QF:=QQ (QT (lC (QT (Qu (eV 0) (eV 1) (eV 2))) (lC (QT (Z3 (eV 0) (eV 1) (QJ (eV 2) (eV 3)) (eV 4))) lN)))
def Si:List D->Option D:=Qj 5 5 IP
def ID:QF:=sQ (QA (Q2 1 0) (gS 4)) (sQ (QA (Q2 1 1) (gS 5)) (sQ (QA (Q2 1 2) (gS 6)) (sQ (QA (QJ (Q2 1 3) (eV 3)) (gS 7)) (sQ (QC (JV (eK NY (Qu (eV 0) (eV 1) (eV 2))) (eK Sd (Qu (eV 0) (eV 1) (QJ (Q5 1) (eV 3))))) (sQ (QA (Vg (QG (eV 6) (Q5 0)) (Q5 0) (QJ (eV 6) (Q5 1))) (gS 8)) (QQ (eK Si (lC (eV 4) (Z3 (eV 5) (eV 8) (eV 2) (eV 7)))))) QK) (sQ (QC (JV (Q4 D.gt (eV 6) (Q5 0)) (eK Sd (Qu (eV 0) (eV 1) (QJ (Q5 2) (eV 3))))) (QQ (eK Si (lC (eV 4) (Z3 (QJ (eV 5) (Q5 1)) (Q5 0) (eV 2) (eV 7))))) QK) (QQ (eK Si (lC (QJ (eV 4) (Q5 1)) (Z3 (Q5 0) (Q5 0) (eV 2) (eV 3))))))))))
def Ph:List D->Option D:=Qj 9 4 ID
def KZ:QF:=sQ (QC (QG (Q2 0 2) (Q5 0)) (QQ (eV 0)) QK) (QQ (QT (Z3 (Q2 0 0) (QJ (Q2 0 1) (Q5 1)) (Q5 0) (Q2 0 3))))
def PZ:List D->Option D:=Qj 1 1 KZ
def IB:QF:=sQ (QA (eK PZ (QZ (eV 1))) (gS 4)) (sQ (QC (Zw (eK Sd (Qu (eV 0) (eV 4) (QJ (eV 2) (eV 3))))) (QA (eK UD (QZ (QJ (Q2 4 0) (Q5 1)))) (gS 4)) QK) (sQ (QA (QT (Qu (Q2 4 0) (Q2 4 1) (Q5 0))) (gS 5)) (QQ (QT (lC (eV 5) (lC (QT (Z3 (Q2 4 0) (QJ (Q2 4 1) (eV 2)) (Q5 0) (Q2 4 3))) lN))))))
def Tc:List D->Option D:=Qj 6 4 IB
def Kx:QF:=sQ (QC (QG (eV 0) (eK UD (QZ (Q2 0 0)))) (QQ (eV 0)) QK) (QQ (eK UD (QZ (QJ (Q2 0 0) (Q5 1)))))
def Pg:List D->Option D:=Qj 1 1 Kx
def Kw:QF:=sQ (QA (eK Pg (QZ (eV 1))) (gS 2)) (sQ (QC (JV (Q2 0 2) (QG (Js (Q2 2 0) (Q5 2)) (Q5 0))) (QQ (eK UD (QZ (QJ (Q2 2 0) (Q5 1))))) QK) (QQ (eV 2)))
def Pf:List D->Option D:=Qj 3 2 Kw
def IC:QF:=sQ (QA (ZZ (eK Pg (QZ (eV 0))) 0) (gS 2)) (QQ (QT (Qc (QT (Qu (eV 2) (Q5 0) (Q5 0))) (eK UD (QZ (QJ (eV 2) (eV 1)))))))
def Nf:List D->Option D:=Qj 3 2 IC
def Kj:QF:=QQ (JV (Xe D.le D.le (Q5 4) (Q2 0 0) (Q5 90)) (Xe D.le D.le (Q5 2) (Q2 0 1) (Q5 60)))
def Nb:List D->Option D:=Qj 1 1 Kj
def Kk:QF:=QQ (Q4 D.inO (Q2 0 0) (QT (Qc (Q6 "chapter") (Q6 "heading"))))
def Xh:List D->Option D:=Qj 1 1 Kk
def Ki:QF:=QQ (Q4 D.inO (Q2 0 0) (QT (Qc (Q6 "word") (Q6 "ref"))))
def WL:List D->Option D:=Qj 1 1 Ki
def Kn:QF:=QQ (Vg (QG (Q2 0 0) (Q6 "para")) (Q6 "") (J7 (eV 0) (QE D.neg (Q5 1))))
def Ue:List D->Option D:=Qj 1 1 Kn
def Km:QF:=QQ (Vg (QG (Q2 0 0) (Q6 "para")) (Q2 0 1) (QS lN))
def WM:List D->Option D:=Qj 1 1 Km
def IE:QF:=sQ (QA (QS lN) (gS 1)) (sQ (Qz (Ql (eV 0)) (gS 2) (G6 1 (JB 1 [] (Ql (eK WM (QZ (eV 2)))) (gS 0) (QG (Q2 0 0) (Q6 "ref")) (Q2 0 1)))) (QQ (eV 1)))
def VL:List D->Option D:=Qj 3 1 IE
def I0:QF:=sQ (QC (QG (Q2 0 0) (Q6 "plates")) (QQ (QJ (Q5 2) (Q2 0 1))) QK) (sQ (QC (JV (eK Xh (QZ (eV 0))) (Q2 1 3)) (QQ (Q5 4)) QK) (QQ (QJ (Q5 2) (YV (Q5 2) (QE D.len (JB 1 [] (Ql (eK WM (QZ (eV 0)))) (gS 0) (eK WL (QZ (eV 0))) (eV 0)))))))
def Sf:List D->Option D:=Qj 2 2 I0
def Kz:QF:=QQ (QJ (Q5 3) (QE D.sumL (JB 1 [1] (Ql (eV 0)) (gS 0) (JS true) (eK Sf (Qc (eV 0) (eV 1))))))
def Nd:List D->Option D:=Qj 2 2 Kz
def IF:QF:=QQ (eK Sb (QZ (eK Nd (Qc (eV 0) (eV 1)))))
def Ng:List D->Option D:=Qj 2 2 IF
def KU:QF:=QQ (QE D.anyL (JB 1 [1] (Ql (eV 0)) (gS 0) (JS true) (Q4 D.gt (QE D.len (eV 0)) (eV 1))))
def PX:List D->Option D:=Qj 2 2 KU
def S7:QF:=sQ (QC (eK Xh (QZ (eV 0))) (sQ (QA (Vg (Q2 1 3) (QJ (Q5 2) (eV 2)) (Q5 0)) (gS 3)) (QQ (Q4 D.gt (QJ (QE D.len (Q2 0 1)) (eV 3)) (Q2 1 0)))) QK) (QQ (JV (QG (Q2 0 0) (Q6 "table")) (eK PX (Qc (Q2 0 1) (Q2 1 0)))))
def Ud:List D->Option D:=Qj 4 3 S7
def Kl:QF:=sQ (QC (QG (Q2 0 0) (Q6 "word")) (QQ (eK PX (Qc (QJ (QS (QZ (Q2 0 1))) (Q2 0 2)) (Q2 1 0)))) QK) (QQ (JV (QG (Q2 0 0) (Q6 "ref")) (Q4 D.gt (QJ (QJ (QE D.len (Q2 0 2)) (eV 2)) (QE D.len (Q2 0 3))) (Q2 1 0))))
def Nc:List D->Option D:=Qj 3 3 Kl
def Kg:QF:=sQ (QC (QG (Q2 0 0) (Q6 "heading")) (QQ (Q4 D.gt (QJ (Q2 0 2) (Q5 1)) (Q2 1 1))) QK) (QQ (JV (QG (Q2 0 0) (Q6 "table")) (Q4 D.gt (QE D.len (Q2 0 1)) (Q2 1 1))))
def NZ:List D->Option D:=Qj 2 2 Kg
def Kh:QF:=QQ (JV (QG (Q2 0 0) (Q6 "word")) (Q4 D.gt (QJ (QE D.len (Q2 0 2)) (Q5 1)) (Q2 1 1)))
def Na:List D->Option D:=Qj 2 2 Kh
def KS:QF:=sQ (QC (Q4 D.dIn (eV 0) (eV 2)) X3 QK) (WZ 2 (eV 0) (JS true))
def PV:List D->Option D:=Xc 3 3 KS
def Kt:QF:=sQ (QC (eK Ud (Qu (eV 0) (eV 2) (eV 3))) X3 QK) (sQ (QC (eK NZ (Qc (eV 0) (eV 2))) X3 QK) (QC (Yc (eK Ue (QZ (eV 0))) (Q6 "")) (XS 4 PV (Qc (eK Ue (QZ (eV 0))) (eV 1))) QK))
def Pb:List D->Option D:=Xc 5 5 Kt
def Ku:QF:=sQ (QC (eK Nc (Qu (eV 0) (eV 2) (eV 3))) X3 QK) (sQ (QC (eK Na (Qc (eV 0) (eV 2))) X3 QK) (QC (QG (Q2 0 0) (Q6 "mark")) (XS 4 PV (Qc (Q2 0 1) (eV 1))) QK))
def Pc:List D->Option D:=Xc 5 5 Ku
def N9:QF:=sQ (QA (QE D.len (JB 1 [] (Ql (eV 0)) (gS 0) (eK WL (QZ (eV 0))) (eV 0))) (gS 5)) (Qz (Ql (eV 0)) (gS 6) (sQ (XS 4 Pc (Z3 (eV 6) (eV 1) (eV 2) (eV 3))) (QC (eK WL (QZ (eV 6))) (W6 5 D.sub (Q5 1)) (QC (QG (eV 5) (Q5 0)) X3 QK))))
def Pd:List D->Option D:=Xc 7 5 N9
def Kv:QF:=Qz (Xj (eV 0)) (Jb [gS 2,gS 3]) (Qz (Ql (eK VL (QZ (QS (QZ (eV 3)))))) (gS 4) (QC (Q4 D.dNotIn (eV 4) (eV 1)) X3 QK))
def Pe:List D->Option D:=Qj 5 2 Kv
def Ks:QF:=sQ (QC (Zw (eK Nb (QZ (eV 1)))) X3 QK) (sQ (QA (eK Ng (Qc (eV 0) (eV 1))) (gS 2)) (sQ (QA (eC (.dic [] [])) (gS 3)) (sQ (Qz (Xj (eV 0)) (Jb [gS 4,gS 5]) (sQ (XS 3 Pb (Z3 (eV 5) (eV 4) (eV 1) (eV 2))) (XS 3 Pd (Z3 (eK WM (QZ (eV 5))) (eV 4) (eV 1) (eV 2))))) (Wa (eK Pe (Qc (eV 0) (eV 3)))))))
def Ug:List D->Option D:=Qj 6 2 Ks
def II:QF:=sQ (QA (QS lN) (gS 2)) (sQ (QA (eK UD (QZ (Q5 1))) (gS 3)) (sQ (QC (Zw (Q2 1 3)) (QQ (QT (Qc (eV 2) (eV 3)))) QK) (sQ (Qz (Ql (eV 0)) (gS 4) (QC (eK Xh (QZ (eV 4))) (sQ (QA (eK Tc (Z3 (eV 1) (eV 3) (Q5 1) (Q5 0))) (gS 5)) (sQ (sP 2 (Q2 5 0)) (QA (Q2 5 1) (gS 3)))) QK)) (sQ (QC (Q4 D.gt (QE D.len (eV 2)) (Q5 0)) (QA (eK Pf (Qc (eV 1) (eV 3))) (gS 3)) QK) (QQ (QT (Qc (eV 2) (eV 3))))))))
def Nh:List D->Option D:=Qj 6 2 II
def IJ:QF:=sQ (QA (QS lN) (gS 4)) (sQ (QA (Q5 0) (gS 5)) (sQ (Qz (Ql (eV 0)) (gS 6) (QC (eK WL (QZ (eV 6))) (sQ (QC (QG (Q2 6 0) (Q6 "ref")) (sQ (QA (QJ (QJ (QE D.len (Q2 6 2)) (J7 (eV 3) (eV 5))) (QE D.len (Q2 6 3))) (gS 7)) (sQ (QA (eK Ph (Z3 (eV 1) (eV 2) (eV 7) (Q5 0))) (gS 8)) (W6 5 D.addI (Q5 1)))) (QA (eK Ph (Z3 (eV 1) (eV 2) (QE D.len (Q2 6 1)) (QE D.len (Q2 6 2)))) (gS 8))) (sQ (sP 4 (Q2 8 0)) (QA (Q2 8 1) (gS 2)))) QK)) (QQ (QT (Qc (eV 4) (eK PZ (QZ (eV 2))))))))
def Pk:List D->Option D:=Qj 9 4 IJ
def IG:QF:=sQ (QC (QG (Q2 0 0) (Q6 "plates")) (QQ (eK Nf (Qc (eV 2) (Q2 0 1)))) QK) (sQ (QC (QG (Q2 0 0) (Q6 "table")) (QQ (eK Tc (Z3 (eV 1) (eV 2) (QE D.len (Q2 0 1)) (Q5 0)))) QK) (sQ (QC (QG (Q2 0 0) (Q6 "heading")) (QQ (eK Tc (Z3 (eV 1) (eV 2) (Q5 1) (Q2 0 2)))) QK) (QQ (eK Tc (Z3 (eV 1) (eK Pf (Qc (eV 1) (eV 2))) (Q5 1) (Q5 0))))))
def Pj:List D->Option D:=Qj 3 3 IG
def IH:QF:=sQ (QA (eK Nh (Qc (eV 0) (eV 1))) (gS 3)) (sQ (QA (QS (QZ (Q2 3 0))) (gS 4)) (sQ (QA (Q2 3 1) (gS 5)) (sQ (QA (Q5 0) (gS 6)) (sQ (Qz (Ql (eV 0)) (gS 7) (sQ (QC (QG (Q2 7 0) (Q6 "para")) (sQ (QA (eK Pk (Z3 (Q2 7 1) (eV 1) (eV 5) (ZK (eV 2) (Z9 (eV 6)) Zz))) (gS 3)) (sQ (sP 4 (Q2 3 0)) (W6 6 D.addI (QE D.len (eK VL (QZ (QS (QZ (eV 7))))))))) (sQ (QA (eK Pj (Qu (eV 7) (eV 1) (eV 5))) (gS 3)) (sP 4 (QS (QZ (Q2 3 0)))))) (QA (Q2 3 1) (gS 5)))) (QQ (eV 4))))))
def UG:List D->Option D:=Qj 8 3 IH
def IA:QF:=sQ (QA (QS lN) (gS 3)) (sQ (QA (Q5 0) (gS 4)) (sQ (Qz (Ql (eV 0)) (gS 5) (QC (eK WL (QZ (eV 5))) (W6 4 D.addI (Q5 1)) (QC (QG (Q2 5 0) (eV 2)) (sP 3 (QT (Qc (Q2 5 1) (ZZ (J7 (eV 1) (eV 4)) 0)))) QK))) (QQ (eV 3))))
def Sg:List D->Option D:=Qj 6 3 IA
def Ko:QF:=sQ (QA (eC (.dic [] [])) (gS 2)) (sQ (Qz (WN (eV 0) (ZK (eV 1) (Z9 (Q5 1)) Zz)) (Jb [gS 3,gS 4]) (sQ (QC (Yc (eK Ue (QZ (eV 3))) (Q6 "")) (WZ 2 (eK Ue (QZ (eV 3))) (ZZ (Q2 4 0) 0)) QK) (Qz (Ql (eK Sg (Qu (eK WM (QZ (eV 3))) (eV 4) (Q6 "mark")))) (Jb [gS 5,gS 6]) (WZ 2 (eV 5) (eV 6))))) (QQ (eV 2)))
def UE:List D->Option D:=Qj 7 2 Ko
def IM:QF:=sQ (QA (QS lN) (gS 2)) (sQ (Qz (WN (eV 0) (ZK (eV 1) (Z9 (Q5 1)) Zz)) (Jb [gS 3,gS 4]) (QC (eK Xh (QZ (eV 3))) (sP 2 (QT (Qc (Q2 3 1) (ZZ (Q2 4 0) 0)))) QK)) (QQ (eV 2)))
def Sh:List D->Option D:=Qj 5 2 IM
def Kp:QF:=sQ (Wa (eK Ug (Qc (eV 0) (eV 1)))) (QQ (eK UG (Qu (eV 0) (eV 1) (eV 2))))
def Pa:List D->Option D:=Qj 3 3 Kp
def Kb:QF:=sQ (QA (eK UE (Qc (eV 0) (eK UG (Qu (eV 0) (eV 1) (eV 2))))) (gS 3)) (QQ (JB 1 [3] (Ql (eK VL (QZ (eV 0)))) (gS 0) (JS true) (eK Sb (QZ (Q4 D.dget (eV 1) (eV 0))))))
def TZ:List D->Option D:=Qj 4 3 Kb
def IL:QF:=sQ (QA (eV 2) (gS 3)) (sQ (QA (eK TZ (Qu (eV 0) (eV 1) (eV 3))) (gS 4)) (sQ (A9 (Yc (eV 4) (eV 3)) (sQ (QA (eV 4) (gS 3)) (QA (eK TZ (Qu (eV 0) (eV 1) (eV 3))) (gS 4)))) (QQ (eV 3))))
def Ni:List D->Option D:=Qj 5 3 IL
def Kr:QF:=sQ (Wa (eK Ug (Qc (eV 0) (eV 1)))) (QQ (eK Ni (Qu (eV 0) (eV 1) (YV (QS (QZ (Q5 1))) (QE D.len (eK VL (QZ (eV 0))))))))
def Tb:List D->Option D:=Qj 2 2 Kr
def IK:QF:=QQ (eK UG (Qu (eV 0) (eV 1) (eK Tb (Qc (eV 0) (eV 1)))))
def Pl:List D->Option D:=Qj 2 2 IK
def Rt:ZB SM:=N7 (Q2 1 0) (eV 2)
def Xg:List D->SM->Option SM:=XD 3 3 Rt
noncomputable def Ru:ZB SM:=K5 (Q2 1 0) (QG (Q2 1 2) (Q5 0))
noncomputable def Wt:List D->SM->Option SM:=XD 6 4 Ru
noncomputable def Rr:ZB SM:=U3 (N8 (QA (JB 1 [] (Ql (eV 1)) (gS 0) (eK WL (QZ (eV 0))) (eV 0)) (gS 4))) (RJ (WN (eV 4) (eV 2)) (Jb [gS 5,gS 6]) (Wf (QG (Q2 5 0) (Q6 "ref")) (Va Wt (Qu (eV 6) (QJ (QJ (Q2 5 2) (QE D.strI (Q4 D.dget (eV 3) (Q2 5 1)))) (Q2 5 3)) (QS lN))) (Va Wt (Qu (eV 6) (Q2 5 1) (Q2 5 2)))))
noncomputable def PU:List D->SM->Option SM:=XD 7 4 Rr
noncomputable def Rq:ZB SM:=Wf (QG (Q2 1 0) (Q6 "para")) (Va PU (Qu (Q2 1 1) (eV 2) (eV 3))) (Wf (QG (Q2 1 0) (Q6 "table")) (Va Xg (Qc (Q2 2 0) (Q2 1 1))) (Wf (Yc (Q2 1 0) (Q6 "plates")) (Va Xg (Qc (Q2 2 0) (QS (QZ (Q2 1 1))))) λe m=>some (e,m)))
noncomputable def Sa:List D->SM->Option SM:=XD 4 4 Rq
def KY:QF:=sQ (QA (QE D.strI (eV 1)) (gS 3)) (sQ (QA (YV (Q6 ".") (Vl (Vl (Vl (eV 2) (QE D.len (eV 0))) (Q5 2)) (QE D.len (eV 3)))) (gS 4)) (QQ (DM (eV 0) (eV 4) (eV 3))))
def PY:List D->Option D:=Qj 5 3 KY
def Kc:QF:=sQ (QA (Vl (Vl (eV 1) (QE D.len (Q2 0 0))) (QE D.len (Q2 0 1))) (gS 2)) (QQ (QJ (QJ (Q2 0 0) (YV (QS (QZ (Q6 ""))) (eV 2))) (Q2 0 1)))
def NX:List D->Option D:=Qj 3 2 Kc
noncomputable def Ky:QF:=sQ (QA (eK Pl (Qc (eV 0) (eV 1))) (gS 2)) (sQ (QA (eK UE (Qc (eV 0) (eV 2))) (gS 3)) (sQ (QA (eC (.dic [] [])) (gS 4)) (sQ (RK 4 (U3 (RJ (WN (Q2 2 0) (eK Sh (Qc (eV 0) (eV 2)))) (Jb [gS 5,gS 6]) (Va Xg (lC (eV 5) (lC (QS (QZ (eK PY (Qu (Q2 6 0) (Q2 6 1) (Q2 1 0))))) lN)))) (RJ (WN (eV 0) (ZK (eV 2) (Z9 (Q5 1)) Zz)) (Jb [gS 7,gS 8]) (Va Sa (Qu (eV 7) (eV 8) (eV 3)))))) (QQ (JB 1 [4,1] (HB (eV 4)) (gS 0) (JS true) (QT (Qc (eV 0) (eK NX (Qc (Q4 D.dget (eV 1) (eV 0)) (Q2 2 1))))))))))
noncomputable def Se:List D->Option D:=Qj 9 2 Ky
def K7:QF:=sQ (QC (Q4 D.lt (eV 1) (QE D.len (eV 0))) (QQ (J7 (eV 0) (eV 1))) QK) (QQ (Q5 0))
def Yv:List D->Option D:=Qj 2 2 K7
def KR:QF:=QQ (JV (Vh "int" (eV 0)) (Zw (Vh "bool" (eV 0))))
def NW:List D->Option D:=Qj 1 1 KR
def KG:QF:=sQ (QA (Js (YV (QJ (QJ (Js (eV 0) (Q5 2147483647)) (YV (YV (eV 1) (eV 1)) (Q5 7919))) (Q5 104729)) (Q5 48271)) (Q5 2147483647)) (gS 2)) (QQ (Js (QJ (YV (eV 2) (eV 2)) (YV (Q5 69621) (eV 1))) (Q5 2147483629)))
def WK:List D->Option D:=Qj 3 2 KG
def EU:QF:=sQ (QA (Q6 "abcdefghijkl") (gS 1)) (QQ (QJ (QJ (QJ (ZK (Q6 "xxx") Zz (Z9 (Js (YV (eV 0) (Q5 7)) (Q5 4)))) (J7 (eV 1) (Js (Q4 D.fdiv (eV 0) (Q5 12)) (Q5 12)))) (J7 (eV 1) (Js (eV 0) (Q5 12)))) (ZK (Q6 "yy") Zz (Z9 (Js (YV (eV 0) (Q5 5)) (Q5 3))))))
def SY:List D->Option D:=Qj 2 1 EU
def KJ:QF:=sQ (QA (eC (.int 10)) (gS 2)) (sQ (Qz (ZM (Q4 D.mod (Q4 D.fdiv (eV 1) (eC (.int 97))) (eC (.int 4)))) (gS 3) (QA (Q4 D.mulA (eV 2) (eC (.int 10))) (gS 2))) (sQ (QC (Q4 D.eqO (Q4 D.mod (Q4 D.fdiv (eV 1) (eC (.int 97))) (eC (.int 8))) (eC (.int 7))) (QA (Q4 D.pow (eC (.int 10)) (eC (.int 30))) (gS 2)) QK) (QQ (Q4 D.ix (QS (lC (Q4 D.add (eC (.int 1)) (Q4 D.mod (Q4 D.fdiv (eV 1) (eC (.int 16))) (eC (.int 3)))) (lC (Q4 D.sub (Q4 D.sub (eV 2) (eC (.int 1))) (Q4 D.mod (Q4 D.fdiv (eV 1) (eC (.int 16))) (eC (.int 5)))) (lC (Q4 D.add (eC (.int 1)) (Q4 D.mod (eV 0) (Q4 D.pow (eC (.int 10)) (eC (.int 39))))) lN)))) (Q4 D.mod (Q4 D.fdiv (eV 1) (eC (.int 997))) (eC (.int 3)))))))
def PN:List D->Option D:=Qj 4 2 KJ
def KO:QF:=sQ (QA (eC (.str "!\"#$&'()*+,-./0123456789:;<=>?@ABCDEFGHIJKLMNOPQRSTUVWXYZ[\\]^_`")) (gS 3)) (sQ (QA (QJ (eV 3) (Q6 "abcdefghijklmnopqrstuvwxyz{}~|")) (gS 3)) (sQ (QA (Q6 "") (gS 4)) (sQ (Qz (ZM (eV 1)) (gS 5) (sQ (QA (QJ (QJ (Q4 D.fdiv (eV 0) (Q5 7)) (YV (eV 5) (QJ (Q5 1) (Js (eV 0) (Q5 13))))) (YV (eV 5) (eV 5))) (gS 6)) (sQ (QA (J7 (eV 3) (Js (eV 6) (QJ (Vl (QE D.len (eV 3)) (Q5 1)) (eV 2)))) (gS 7)) (sQ (QC (JV (QG (eV 2) (Q5 1)) (QG (Js (QJ (Q4 D.fdiv (eV 0) (Q5 3)) (eV 5)) (Q5 4)) (Q5 0))) (QA (Q6 " ") (gS 7)) QK) (QA (QJ (eV 4) (eV 7)) (gS 4)))))) (QQ (eV 4)))))
def UC:List D->Option D:=Qj 8 3 KO
def K6:QF:=sQ (QA (eK WK (Qc (eV 0) (QJ (eV 1) (Q5 20)))) (gS 2)) (sQ (QA (Js (eV 2) (Q5 17)) (gS 3)) (sQ (QA (QJ (Q5 1) (Js (Q4 D.fdiv (eV 2) (Q5 17)) (J7 (QS (Qc (Q5 11) (Q5 40))) (QE D.intB (QG (Js (Q4 D.fdiv (eV 2) (Q5 187)) (Q5 9)) (Q5 4)))))) (gS 4)) (sQ (QA (QJ (Q5 1) (Js (Q4 D.fdiv (eV 2) (Q5 97)) (J7 (QS (Qc (Q5 4) (Q5 30))) (QE D.intB (QG (Js (Q4 D.fdiv (eV 2) (Q5 1009)) (Q5 11)) (Q5 5)))))) (gS 5)) (sQ (QA (eK UC (Qu (Q4 D.fdiv (eV 2) (Q5 17)) (eV 4) (Q5 1))) (gS 6)) (sQ (QA (eK UC (Qu (Q4 D.fdiv (eV 2) (Q5 19)) (eV 4) (Q5 0))) (gS 7)) (sQ (QA (eK SY (QZ (eV 1))) (gS 8)) (sQ (QA (eV 8) (gS 9)) (sQ (QC (QG (Js (Q4 D.fdiv (eV 2) (Q5 1009)) (Q5 2)) (Q5 0)) (QA (Q6 "") (gS 9)) QK) (sQ (QC (QG (eV 3) (Q5 0)) (QQ (QT (Qu (Q6 "chapter") (QJ (Q2 7 0) (QE D.strip (eV 6))) (eV 9)))) QK) (sQ (QC (QG (eV 3) (Q5 1)) (QQ (QT (Z3 (Q6 "heading") (QJ (Q2 7 0) (QE D.strip (eV 6))) (Vl (eV 5) (Q5 1)) (eV 9)))) QK) (sQ (QC (QG (eV 3) (Q5 2)) (QQ (QT (lC (Q6 "table") (lC (JB 1 [6,4] (ZM (eV 5)) (gS 0) (JS true) (ZK (eV 1) Zz (Z9 (Q4 D.max2 (Q5 0) (Vl (eV 2) (eV 0)))))) (QZ (eV 9)))))) QK) (sQ (QC (QG (eV 3) (Q5 3)) (QQ (QT (Qu (Q6 "plates") (eK PN (Qc (eV 0) (eV 2))) (eV 9)))) QK) (sQ (QC (QG (eV 3) (Q5 4)) (QQ (QT (Qu (Q6 "break") (Q6 "") (Q6 "")))) QK) (sQ (QC (Q4 D.lt (eV 3) (Q5 7)) (QQ (QT (Qc (Q6 "mark") (eV 8)))) QK) (sQ (QC (QG (eV 3) (Q5 7)) (QQ (QT (lC (Q6 "key") (lC (ZK (YV (eV 7) (Q5 9)) Zz (Z9 (QJ (Q5 1) (Js (Q4 D.fdiv (eV 2) (Q5 97)) (Q5 80))))) lN)))) QK) (sQ (QC (Q4 D.lt (eV 3) (Q5 12)) (QQ (QT (lC (Q6 "ref") (lC (Q6 "") (lC (ZK (eV 7) Zz (Z9 (Js (Q4 D.fdiv (eV 2) (Q5 97)) (Q5 3)))) (lC (eK UC (Qu (Q4 D.fdiv (eV 2) (Q5 23)) (Js (Q4 D.fdiv (eV 2) (Q5 291)) (Q5 3)) (Q5 0))) lN)))))) QK) (sQ (QC (QG (eV 3) (Q5 12)) (QQ (QT (Qu (Q6 "word") (eV 7) (JB 1 [6] (ZM (eV 5)) (gS 0) (JS true) (ZK (eV 1) (Z9 (eV 0)) Zz))))) QK) (QQ (QT (Qu (Q6 "word") (eV 7) (QS lN)))))))))))))))))))))
def Uc:List D->Option D:=Qj 10 2 K6
def KL:QF:=sQ (QA (QS lN) (gS 2)) (sQ (Qz (Ql (eV 0)) (gS 3) (QC (QG (Q2 3 0) (Q6 "mark")) (sP 2 (Q2 3 1)) (QC (JV (Q4 D.notInO (Q2 3 0) (QS (Z3 (Q6 "break") (Q6 "word") (Q6 "key") (Q6 "ref")))) (Yc (J7 (eV 3) (QE D.neg (Q5 1))) (Q6 ""))) (sP 2 (J7 (eV 3) (QE D.neg (Q5 1)))) QK))) (sQ (QA (QS lN) (gS 4)) (sQ (Qz (Xj (eV 0)) (Jb [gS 5,gS 3]) (QC (JV (QG (Q2 3 0) (Q6 "ref")) (QG (eV 2) (QS lN))) (sP 4 (QT (Qu (Q6 "word") (Q6 "lost") (QS lN)))) (QC (QG (Q2 3 0) (Q6 "ref")) (sQ (QA (J7 (eV 2) (Js (eK WK (Qc (J7 (eV 1) (eV 5)) (QJ (eV 5) (Q5 90)))) (QE D.len (eV 2)))) (gS 6)) (sP 4 (QT (Z3 (Q6 "ref") (eV 6) (Q2 3 2) (Q2 3 3))))) (sP 4 (eV 3))))) (QQ (eV 4)))))
def NU:List D->Option D:=Qj 7 2 KL
def KC:QF:=sQ (QA (QS lN) (gS 1)) (sQ (QA (QS lN) (gS 2)) (sQ (Qz (Ql (QJ (eV 0) (QS (QZ (QT (Qu (Q6 "end") (Q6 "") (Q6 ""))))))) (gS 3) (sQ (QC (Q4 D.inO (Q2 3 0) (QS (Z3 (Q6 "mark") (Q6 "key") (Q6 "ref") (Q6 "word")))) (sQ (sP 2 (eV 3)) Uv) QK) (sQ (QC (JV (Yc (eV 2) (QS lN)) (Q4 D.inO (ZZ (J7 (eV 2) (QE D.neg (Q5 1))) 0) (QS (Qc (Q6 "mark") (Q6 "key"))))) (sP 2 (QT (Qu (Q6 "word") (Q6 "end") (QS lN)))) QK) (sQ (QC (J8 (Yc (eV 2) (QS lN)) (QG (Q2 3 0) (Q6 "break"))) (sP 1 (QT (Qc (Q6 "para") (eV 2)))) QK) (sQ (QA (QS lN) (gS 2)) (QC (Q4 D.notInO (Q2 3 0) (QS (Qc (Q6 "break") (Q6 "end")))) (sP 1 (eV 3)) QK)))))) (QQ (eV 1))))
def TY:List D->Option D:=Qj 4 1 KC
def KA:QF:=sQ (QC (J8 (Q2 1 3) (Yc (Js (eK Yv (Qc (eV 0) (Q5 4))) (Q5 3)) (Q5 1))) (QQ (QS lN)) QK) (sQ (QA (QJ (Q5 1) (Js (eK WK (Qc (eK Yv (Qc (eV 0) (Q5 4))) (Q5 19))) (Q5 6))) (gS 2)) (sQ (QA (Q5 1) (gS 3)) (sQ (Qz (ZM (eV 2)) (gS 4) (QA (YV (eV 3) (Q5 10)) (gS 3))) (sQ (QA (QS (lC (QT (Qu (Q6 "word") (YV (Q6 "w") (Q4 D.max2 (Q5 1) (Vl (Vl (Q2 1 0) (Q5 1)) (eV 2)))) (QS lN))) (lC (QT (Qc (Q6 "mark") (Q6 "z"))) (lC (QT (Z3 (Q6 "ref") (Q6 "z") (Q6 "") (Q6 ""))) lN)))) (gS 5)) (QQ (QS (lC (QT (Qu (Q6 "plates") (Vl (eV 3) (Q5 2)) (Q6 ""))) (lC (QT (Qu (Q6 "table") (JB 1 [] (ZM (Vl (Q2 1 1) (Q5 1))) (gS 0) (JS true) (Q6 "")) (Q6 ""))) (QZ (QT (Qc (Q6 "para") (eV 5))))))))))))
def PK:List D->Option D:=Qj 6 2 KA
def KI:QF:=sQ (QA (Q5 4) (gS 2)) (sQ (QA (Q5 2) (gS 3)) (sQ (Qz (Ql (eV 0)) (gS 4) (sQ (QC (J8 (QG (Q2 4 0) (Q6 "chapter")) (QG (Q2 4 0) (Q6 "heading"))) (QA (Q4 D.max2 (eV 2) (QJ (QJ (QE D.len (Q2 4 1)) (Q5 2)) (eV 1))) (gS 2)) QK) (sQ (QC (QG (Q2 4 0) (Q6 "heading")) (QA (Q4 D.max2 (eV 3) (QJ (Q2 4 2) (Q5 1))) (gS 3)) QK) (sQ (QC (QG (Q2 4 0) (Q6 "table")) (sQ (QA (Q4 D.max2 (eV 3) (QE D.len (Q2 4 1))) (gS 3)) (QA (QE D.maxL (QJ (QS (QZ (eV 2))) (JB 1 [] (Ql (Q2 4 1)) (gS 0) (JS true) (QE D.len (eV 0))))) (gS 2))) QK) (QC (QG (Q2 4 0) (Q6 "para")) (sQ (QA (QE D.maxL (QJ (QS (QZ (eV 2))) (JB 1 [1] (Ql (Q2 4 1)) (gS 0) (QG (Q2 0 0) (Q6 "ref")) (QJ (QJ (QE D.len (Q2 0 2)) (eV 1)) (QE D.len (Q2 0 3)))))) (gS 2)) (sQ (QA (QE D.maxL (QJ (QS (QZ (eV 2))) (JB 1 [] (Ql (Q2 4 1)) (gS 0) (QG (Q2 0 0) (Q6 "word")) (QE D.len (Q2 0 1))))) (gS 2)) (sQ (QA (JB 1 [] (Ql (Q2 4 1)) (gS 0) (QG (Q2 0 0) (Q6 "word")) (Q2 0 2)) (gS 5)) (sQ (QA (QE D.maxL (QJ (QS (QZ (eV 3))) (JB 1 [] (Ql (eV 5)) (gS 0) (JS true) (QJ (Q5 1) (QE D.len (eV 0)))))) (gS 3)) (Qz (Ql (eV 5)) (gS 6) (QA (QE D.maxL (QJ (QS (QZ (eV 2))) (JB 1 [] (Ql (eV 6)) (gS 0) (JS true) (QE D.len (eV 0))))) (gS 2))))))) QK))))) (QQ (QT (Qc (eV 2) (eV 3))))))
def PM:List D->Option D:=Qj 7 2 KI
def KH:QF:=sQ (QA (Q5 3) (gS 2)) (sQ (Qz (Ql (eV 0)) (gS 3) (sQ (QA (QJ (eV 2) (Q5 2)) (gS 2)) (sQ (QC (JV (eV 1) (J8 (QG (Q2 3 0) (Q6 "chapter")) (QG (Q2 3 0) (Q6 "heading")))) (QA (QJ (eV 2) (Q5 2)) (gS 2)) QK) (sQ (QC (QG (Q2 3 0) (Q6 "plates")) (QA (QJ (eV 2) (Q2 3 1)) (gS 2)) QK) (QC (QG (Q2 3 0) (Q6 "para")) (QA (QJ (eV 2) (YV (Q5 2) (QE D.len (JB 1 [] (Ql (Q2 3 1)) (gS 0) (J8 (QG (Q2 0 0) (Q6 "word")) (QG (Q2 0 0) (Q6 "ref"))) (eV 0))))) (gS 2)) QK))))) (QQ (eV 2)))
def PL:List D->Option D:=Qj 4 2 KH
def K9:QF:=sQ (QA (QJ (ZK (eV 0) Zz (Z9 (Q5 63))) (QS (QZ (Q5 7)))) (gS 1)) (sQ (QA (JB 1 [1] (ZM (Js (eK WK (Qc (eK Yv (Qc (eV 0) (Q5 5))) (Q5 29))) (Q5 35))) (gS 0) (JS true) (J7 (eV 1) (Js (eV 0) (QE D.len (eV 1))))) (gS 2)) (sQ (QA (eK TY (lC (eK NU (Qc (JB 2 [] (Xj (eV 2)) (Jb [gS 0,gS 1]) (JS true) (eK Uc (Qc (eV 1) (eV 0)))) (eV 2))) lN)) (gS 3)) (sQ (QA (QG (Js (eK Yv (Qc (eV 0) (Q5 3))) (Q5 2)) (Q5 1)) (gS 4)) (sQ (QA (eK PK (lC (eV 0) (lC (QT (Z3 (Q5 4) (Q5 2) (JS false) (eV 4))) lN))) (gS 5)) (sQ (QA (QE D.len (QE D.strI (eK PL (Qc (QJ (eV 5) (eV 3)) (eV 4))))) (gS 6)) (sQ (QA (eK PM (Qc (QJ (eV 3) (eV 5)) (eV 6))) (Jb [gS 7,gS 8])) (sQ (QC (Yc (eV 5) (QS lN)) (QA (Q4 D.max2 (eV 7) (QJ (eV 6) (Q5 2))) (gS 7)) QK) (sQ (QA (Q4 D.max2 (eV 7) (QJ (Q5 4) (Js (eK WK (Qc (eK Yv (Qc (eV 0) (Q5 0))) (Q5 1))) (Q5 30)))) (gS 9)) (sQ (QA (Q4 D.max2 (eV 8) (QJ (Q5 2) (Js (eK WK (Qc (eK Yv (Qc (eV 0) (Q5 1))) (Q5 2))) (Q5 5)))) (gS 10)) (sQ (QC (QG (Js (eK Yv (Qc (eV 0) (Q5 1))) (Q5 5)) (Q5 1)) (QA (Q4 D.max2 (eV 8) (QJ (Q5 2) (Js (eK WK (Qc (eK Yv (Qc (eV 0) (Q5 1))) (Q5 4))) (Q5 59)))) (gS 10)) QK) (sQ (QA (QT (Z3 (eV 9) (eV 10) (QG (Js (eK Yv (Qc (eV 0) (Q5 2))) (Q5 2)) (Q5 1)) (eV 4))) (gS 11)) (QQ (QT (Qu (QJ (eK PK (Qc (eV 0) (eV 11))) (eV 3)) (eV 11) (eV 6)))))))))))))))
def SX:List D->Option D:=Qj 12 1 K9
def K8:QF:=sQ (QA (QS lN) (gS 1)) (sQ (Qz (Ql (eV 0)) (gS 2) (QC (QG (Q2 2 0) (Q6 "para")) (sQ (QA (QS lN) (gS 3)) (sQ (Qz (Ql (Q2 2 1)) (gS 4) (QC (QG (Q2 4 0) (Q6 "word")) (sP 3 (QT (Qu (Q6 "word") (Q2 4 1) (QE D.listOf (Q2 4 2))))) (sP 3 (eV 4)))) (sP 1 (QT (Qc (Q6 "para") (eV 3)))))) (QC (QG (Q2 2 0) (Q6 "table")) (sP 1 (QT (Qu (Q6 "table") (QE D.listOf (Q2 2 1)) (Q2 2 2)))) (sP 1 (eV 2))))) (QQ (eV 1)))
def PJ:List D->Option D:=Qj 5 1 K8
def KD:QF:=sQ (QA (QS lN) (gS 2)) (sQ (Qz (ZM (QE D.len (eV 0))) (gS 3) (sQ (QA (Q4 D.ix (eV 0) (eV 3)) (gS 4)) (sQ (QC (JV (Q4 D.neO (Q4 D.ix (eV 4) (eC (.int 0))) (eC (.str "para"))) (Q4 D.neO (Q4 D.ix (eV 4) (QE D.neg (eC (.int 1)))) (eC (.str "")))) (sP 2 (QT (lC (Q4 D.ix (eV 4) (QE D.neg (eC (.int 1)))) (lC (Q4 D.ix (Q4 D.ix (Q4 D.ix (eV 1) (Q4 D.add (eV 3) (eC (.int 1)))) (eC (.int 0))) (eC (.int 0))) lN)))) QK) (QC (Q4 D.eqO (Q4 D.ix (eV 4) (eC (.int 0))) (eC (.str "para"))) (sQ (QA (eC (.int 0)) (gS 5)) (Qz (Ql (Q4 D.ix (eV 4) (eC (.int 1)))) (gS 6) (sQ (QC (Q4 D.eqO (Q4 D.ix (eV 6) (eC (.int 0))) (eC (.str "mark"))) (sP 2 (QT (lC (Q4 D.ix (eV 6) (eC (.int 1))) (lC (Q4 D.ix (Q4 D.ix (Q4 D.ix (eV 1) (Q4 D.add (eV 3) (eC (.int 1)))) (eV 5)) (eC (.int 0))) lN)))) QK) (QC (J8 (Q4 D.eqO (Q4 D.ix (eV 6) (eC (.int 0))) (eC (.str "word"))) (Q4 D.eqO (Q4 D.ix (eV 6) (eC (.int 0))) (eC (.str "ref")))) (QA (Q4 D.add (eV 5) (eC (.int 1))) (gS 5)) QK)))) QK)))) (QQ (eV 2)))
def NT:List D->Option D:=Qj 7 2 KD
def KQ:QF:=sQ (QA (eC (.dic [] [])) (gS 2)) (sQ (Qz (Ql (eK NT (Qc (eV 0) (eV 1)))) (Jb [gS 3,gS 4]) (WZ 2 (eV 3) (eV 4))) (sQ (QA (QS lN) (gS 5)) (sQ (Qz (ZM (QE D.len (eV 0))) (gS 6) (sQ (QA (J7 (eV 0) (eV 6)) (gS 7)) (sQ (QC (J8 (QG (Q2 7 0) (Q6 "chapter")) (QG (Q2 7 0) (Q6 "heading"))) (sP 5 (QT (Qu (ZZ (J7 (eV 1) (QJ (eV 6) (Q5 1))) 0) (Q2 7 1) (QS lN)))) QK) (sQ (QC (QG (Q2 7 0) (Q6 "table")) (sQ (QA (ZZ (J7 (eV 1) (QJ (eV 6) (Q5 1))) 0) (Jb [gS 4,gS 8,gS 9])) (Qz (ZM (QE D.len (Q2 7 1))) (gS 10) (sP 5 (QT (Qu (QT (Qu (eV 4) (QJ (eV 8) (eV 10)) (eV 9))) (J7 (Q2 7 1) (eV 10)) (QS lN)))))) QK) (QC (QG (Q2 7 0) (Q6 "para")) (sQ (QA (JB 1 [] (Ql (Q2 7 1)) (gS 0) (J8 (QG (Q2 0 0) (Q6 "word")) (QG (Q2 0 0) (Q6 "ref"))) (eV 0)) (gS 11)) (Qz (ZM (QE D.len (eV 11))) (gS 10) (QC (QG (ZZ (J7 (eV 11) (eV 10)) 0) (Q6 "word")) (sP 5 (QT (Qu (J7 (J7 (eV 1) (QJ (eV 6) (Q5 1))) (eV 10)) (ZZ (J7 (eV 11) (eV 10)) 1) (ZZ (J7 (eV 11) (eV 10)) 2)))) (sQ (QA (J7 (eV 11) (eV 10)) (Jb [gS 12,gS 3,gS 13,gS 14])) (sP 5 (QT (Qu (J7 (J7 (eV 1) (QJ (eV 6) (Q5 1))) (eV 10)) (QJ (QJ (eV 13) (QE D.strI (Q4 D.dget (eV 2) (eV 3)))) (eV 14)) (QS lN)))))))) QK))))) (QQ (eV 5)))))
def PR:List D->Option D:=Qj 15 2 KQ
def KN:QF:=sQ (QC (Zw (Vh "list" (eV 0))) (QQ (JS false)) QK) (sQ (Qz (ZM (QE D.len (eV 0))) (gS 2) (sQ (QC (J8 (Zw (Vh "tuple" (J7 (eV 0) (eV 2)))) (J8 (Yc (QE D.len (J7 (eV 0) (eV 2))) (Q5 2)) (Zw (eK NW (QZ (ZZ (J7 (eV 0) (eV 2)) 0)))))) (QQ (JS false)) QK) (sQ (QC (JV (Q4 D.gt (eV 2) (Q5 0)) (Q4 D.le (ZZ (J7 (eV 0) (eV 2)) 0) (ZZ (J7 (eV 0) (Vl (eV 2) (Q5 1))) 0))) (QQ (JS false)) QK) (sQ (QA (ZZ (J7 (eV 0) (eV 2)) 1) (gS 3)) (sQ (QC (J8 (Zw (Vh "list" (eV 3))) (Yc (QE D.len (eV 3)) (eV 1))) (QQ (JS false)) QK) (QC (Yc (JB 1 [] (Ql (eV 3)) (gS 0) (Zw (Vh "str" (eV 0))) (eV 0)) (QS lN)) (QQ (JS false)) QK)))))) (QQ (JS true)))
def PQ:List D->Option D:=Qj 4 2 KN
def KP:QF:=sQ (QC (JV (Q4 D.gt (eV 1) (Q5 0)) (Yc (ZK (eV 0) (Z9 (Vl (eV 1) (Q5 1))) (Z9 (eV 1))) (Q6 " "))) (QQ (JS false)) QK) (QQ (QG (ZK (eV 0) (Z9 (eV 1)) (Z9 (QJ (eV 1) (QE D.len (eV 2))))) (eV 2)))
def NV:List D->Option D:=Qj 3 3 KP
noncomputable def Kq:QF:=sQ (QA (eK SX (QZ (eV 0))) (Jb [gS 1,gS 2,gS 3])) (sQ (QA (eK Pa (Qu (eV 1) (eV 2) (eK Tb (Qc (eV 1) (eV 2))))) (gS 4)) (sQ (QA (eK PJ (QZ (eV 1))) (gS 5)) (sQ (QA (eK Se (Qc (eV 5) (eV 2))) (gS 6)) (sQ (QC (J8 (Zw (eK PQ (Qc (eV 6) (Q2 2 1)))) (Yc (eV 5) (eV 1))) (QQ (JS false)) QK) (sQ (QA (eC (.dic [] [])) (gS 7)) (sQ (Qz (Ql (eV 6)) (Jb [gS 8,gS 9]) (WZ 7 (eV 8) (eV 9))) (sQ (QA (eC (.dic [] [])) (gS 10)) (sQ (Qz (Ql (Q2 4 0)) (gS 11) (WZ 10 (Q2 11 0) (JS true))) (sQ (Qz (Ql (eK PR (Qc (eV 1) (eV 4)))) (Jb [gS 11,gS 12,gS 13]) (sQ (QA (eV 11) (Jb [gS 8,gS 14,gS 15])) (sQ (WZ 10 (eV 8) (JS true)) (QC (J8 (Q4 D.dNotIn (eV 8) (eV 7)) (Zw (eK NV (Qu (J7 (Q4 D.dget (eV 7) (eV 8)) (eV 14)) (eV 15) (eV 12))))) (QQ (JS false)) QK)))) (QQ (QG (JB 1 [10] (HB (eV 7)) (gS 0) (Q4 D.dNotIn (eV 0) (eV 1)) (eV 0)) (QS lN))))))))))))
noncomputable def Ta:List D->Option D:=Qj 16 1 Kq
noncomputable def cell(ns:List Int)(k:Nat):Int:=ns.getD k 0
noncomputable def ZU(c t:Int):Int:=((c%2147483647+t*t*7919+104729)*48271%2147483647*((c%2147483647+t*t*7919+104729)*48271%2147483647)+69621*t)%2147483629
def B3(c t:Int):0<=ZU c t:=XR _ (by decide)
def QfL(c t:Int):ZU c t<2147483629:=Xu _ (by decide)
def Zg(z:Int){j:Int}(h:0<j):D.mod (.int z) (.int j)=Q1 (z%j):=Xp h
def TV(z:Int){j:Int}(h:0<j):∃x,z%j=x/\0<=x/\x<j:=⟨_,rfl,XR z (by omega),Xu z h⟩
theorem toNat_inj:∀{a b:List Char},a.map Char.toNat=b.map Char.toNat->a=b|[],[],_=>rfl|[],_::_,h=>nomatch h|_::_,[],h=>nomatch h|a::x,b::y,h=>by rw[ZQ,ZQ]at h;obtain⟨h1,h2⟩:=List.cons.inj h;rw[toNat_inj h2,Char.toNat_inj.mp h1]
@[simp]theorem tg(a b:String):(Str.ofString a=Str.ofString b)=(a=b):=propext ⟨λh=>by rw[Str.ofString_eq_byList]at h;unfold Str.ofStringByList at h;have h2:(a.toList.map Char.toNat).toArray=(b.toList.map Char.toNat).toArray:=Str.mk.inj h;exact String.toList_inj.mp (toNat_inj (congrArg Array.toList h2)),λh=>h▸rfl⟩
inductive It where|word(w:Str)(ns:List Str)|ref(l a b:Str)|mark(l:Str)|key(w:Str)
inductive Bk where|chapter(t l:Str)|heading(t:Str)(k:Int)(l:Str)|para(is:List It)|table(rs:List Str)(l:Str)|plates(n:Int)(l:Str)
inductive At where|bk(b:Bk)|it(i:It)|brk|fin
noncomputable def QM(xs:List Str):D:=.lst (xs.map .str)
@[simp]def It.d:It->D|.word w ns=>.tup [.str "word",.str w,QM ns]|.ref l a b=>.tup [.str "ref",.str l,.str a,.str b]|.mark l=>.tup [.str "mark",.str l]|.key w=>.tup [.str "key",.str w]
@[simp]def Bk.d:Bk->D|.chapter t l=>.tup [.str "chapter",.str t,.str l]|.heading t k l=>.tup [.str "heading",.str t,.int k,.str l]|.para is=>.tup [.str "para",.lst (is.map It.d)]|.table rs l=>.tup [.str "table",QM rs,.str l]|.plates n l=>.tup [.str "plates",.int n,.str l]
@[simp]def At.d:At->D|.bk b=>b.d|.it i=>i.d|.brk=>.tup [.str "break",.str "",.str ""]|.fin=>.tup [.str "end",.str "",.str ""]
def Q7(bs:List Bk):D:=.lst (bs.map Bk.d)
theorem loopR{α σ:Type}{g:Jk}{b:QF}(d:α->D)(R:σ->QD->Prop)(step:σ->α->σ):∀(xs:List α),(∀a∈xs,∀s e,R s e->∃e',((g (d a) e).bind b=some (.nx e')\/(g (d a) e).bind b=some (.ct e'))/\R (step s a) e')->∀s e,R s e->∃e',VP g b (xs.map d) e=some (.nx e')/\R (xs.foldl step s) e'
 |[],_,s,e,h=>⟨e,rfl,h⟩|a::xs,hb,s,e,h=>by
  obtain⟨e1,h1,r1⟩:=hb a JN s e h;obtain⟨e2,h2,r2⟩:=loopR d R step xs (λx hx=>hb x (JH _ hx)) _ _ r1;refine⟨e2,?_,r2⟩;show Vp ((g (d a) e).bind b) (VP g b (xs.map d))=_;rcases h1 with h1|h1;·rw[h1];exact h2
  ·rw[h1];exact h2
theorem En{α:Type}{g:Jk}{c el:Q8}(d:α->D)(R:QD->Prop)(p:α->Bool)(o:α->D):∀(xs:List α),(∀a∈xs,∀e,R e->∃e',g (d a) e=some e'/\R e'/\c e'=QL (p a)/\(p a=true->el e'=some (o a)))->∀e,R e->XA g c el (xs.map d) e=some ((xs.filter p).map o)|[],_,e,h=>rfl|a::xs,hb,e,h=>by obtain⟨e1,h1,r1,h2,h3⟩:=hb a JN e h;have ih:=En d R p o xs (λx hx=>hb x (JH _ hx)) _ r1;show(g (d a) e).bind (λe1=>YT (c e1) ((el e1).bind λx=>(XA g c el (xs.map d) e1).map λr=>x::r) (XA g c el (xs.map d) e1))=_;rw[h1];show YT (c e1) _ _=_;rw[h2,Jr,ih];cases q:p a with|false=>rw[if_neg (by decide),List.filter_cons_of_neg (by simp[q])]|true=>rw[if_pos rfl,h3 q,List.filter_cons_of_pos q];rfl
theorem Xn{α:Type}{g:Jk}{b:QF}(d:α->D):∀(xs:List α)(R:Nat->QD->Prop),(∀i(hi:i<xs.length)e,R i e->∃e',((g (d xs[i]) e).bind b=some (.nx e')\/(g (d xs[i]) e).bind b=some (.ct e'))/\R (i+1) e')->∀e,R 0 e->∃e',VP g b (xs.map d) e=some (.nx e')/\R xs.length e'
 |[],R,_,e,h=>⟨e,rfl,h⟩|a::xs,R,hb,e,h=>by
  obtain⟨e1,h1,r1⟩:=hb 0 (by simp) e h;obtain⟨e2,h2,r2⟩:=Xn d xs (λi=>R (i+1)) (λi hi x hx=>hb (i+1) (by simpa using hi) x hx) _ r1;refine⟨e2,?_,r2⟩;show Vp ((g (d a) e).bind b) (VP g b (xs.map d))=_;have fg:(g (d a) e).bind b=some (.nx e1)\/(g (d a) e).bind b=some (.ct e1):=h1;rcases fg with h1|h1;·rw[h1];exact h2
  ·rw[h1];exact h2
def Ct{g:Jk}{b:QF}(n:Nat)(R:Nat->QD->Prop)(h:∀i,i<n->∀e,R i e->∃e',((g (.int (0+(i:Int))) e).bind b=some (.nx e')\/(g (.int (0+(i:Int))) e).bind b=some (.ct e'))/\R (i+1) e'):∀e,R 0 e->∃e',VP g b (rD 0 n) e=some (.nx e')/\R n e':=by
 intro e h0;have:=Xn (g:=g) (b:=b) (λi:Nat=>D.int (0+(i:Int))) (List.range n) R (λi hi e r=>by
  have q:(List.range n)[i]=i:=by simp
  rw[q];exact h i (by simpa using hi) e r) e h0;simpa[rD]using this
def st{a k:QF}{e e1:QD}{r:Option Fl}(h:a e=some (.nx e1))(hk:k e1=r):sQ a k e=r:=by unfold sQ;rw[h];exact hk
def Zj{a k:QF}{e:QD}{d:D}(h:a e=some (.rt d)):sQ a k e=some (.rt d):=by unfold sQ;rw[h];rfl
def stC{a k:QF}{e e1:QD}(h:a e=some (.ct e1)):sQ a k e=some (.ct e1):=by unfold sQ;rw[h];rfl
def Qy{n k:Nat}{b:QF}{ds:List D}{r:D}(hl:ds.length=k)(h:b (sD n ds)=some (.rt r)):Qj n k b ds=some r:=by unfold Qj;rw[if_pos hl,h];rfl
def L0{it:ZH}{g:Jk}{b k:QF}{e:QD}{r:Option Fl}(n:Nat)(R:Nat->QD->Prop)(hit:it e=some (rD 0 n))(h0:R 0 e)(hb:∀i,i<n->∀e,R i e->∃e',((g (.int (0+(i:Int))) e).bind b=some (.nx e')\/(g (.int (0+(i:Int))) e).bind b=some (.ct e'))/\R (i+1) e')(hk:∀e',R n e'->k e'=r):sQ (Qz it g b) k e=r:=by obtain⟨e',h1,h2⟩:=Ct n R hb e h0;refine st (e1:=e') ?_ (hk e' h2);unfold Qz;rw[hit];exact h1
def Vn{α:Type}{it:ZH}{g:Jk}{b k:QF}{e:QD}{r:Option Fl}(d:α->D)(xs:List α)(R:Nat->QD->Prop)(hit:it e=some (xs.map d))(h0:R 0 e)(hb:∀i(hi:i<xs.length)e,R i e->∃e',((g (d xs[i]) e).bind b=some (.nx e')\/(g (d xs[i]) e).bind b=some (.ct e'))/\R (i+1) e')(hk:∀e',R xs.length e'->k e'=r):sQ (Qz it g b) k e=r:=by obtain⟨e',h1,h2⟩:=Xn d xs R hb e h0;refine st (e1:=e') ?_ (hk e' h2);unfold Qz;rw[hit];exact h1
def Dm{α σ:Type}{it:ZH}{g:Jk}{b:QF}{e:QD}(d:α->D)(xs:List α)(R:σ->QD->Prop)(step:σ->α->σ)(s:σ)(hit:it e=some (xs.map d))(h0:R s e)(hb:∀a∈xs,∀s e,R s e->∃e',((g (d a) e).bind b=some (.nx e')\/(g (d a) e).bind b=some (.ct e'))/\R (step s a) e'):∃e',Qz it g b e=some (.nx e')/\R (xs.foldl step s) e':=by obtain⟨e',h1,h2⟩:=loopR d R step xs hb s e h0;refine⟨e',?_,h2⟩;unfold Qz;rw[hit];exact h1
def Qaq{α σ:Type}{it:ZH}{g:Jk}{b k:QF}{e:QD}{r:Option Fl}(d:α->D)(xs:List α)(R:σ->QD->Prop)(step:σ->α->σ)(s:σ)(hit:it e=some (xs.map d))(h0:R s e)(hb:∀a∈xs,∀s e,R s e->∃e',((g (d a) e).bind b=some (.nx e')\/(g (d a) e).bind b=some (.ct e'))/\R (step s a) e')(hk:∀e',R (xs.foldl step s) e'->k e'=r):sQ (Qz it g b) k e=r:=by obtain⟨e',h1,h2⟩:=Dm d xs R step s hit h0 hb;exact st h1 (hk e' h2)
def J6{g:Jk}{b:QF}{d:D}{e e1:QD}{r:Option Fl}(h:g d e=some e1)(hk:b e1=r):(g d e).bind b=r:=by rw[h];exact hk
def ret{a:Q8}{e:QD}{d:D}(h:a e=some d):QQ a e=some (.rt d):=by unfold QQ;rw[h];rfl
def exD{β:Type}{dd:β->D}{P:β->Prop}{n k:Nat}{b:QF}{ds:List D}(hl:ds.length=k)(h:∃x,b (sD n ds)=some (.rt (dd x))/\P x):∃x,Qj n k b ds=some (dd x)/\P x:=by obtain⟨x,h1,h2⟩:=h;exact⟨x,Qy hl h1,h2⟩
def Yu{β:Type}{dd:β->D}{P:β->Prop}{a k:QF}{e e1:QD}(h:a e=some (.nx e1))(hk:∃x,k e1=some (.rt (dd x))/\P x):∃x,sQ a k e=some (.rt (dd x))/\P x:=by obtain⟨x,h1,h2⟩:=hk;exact⟨x,st h h1,h2⟩
def Yh{α:Type}{n:Nat}{caps:List Nat}{it:ZH}{g:Jk}{c el:Q8}{e:QD}(d:α->D)(xs:List α)(R:QD->Prop)(p:α->Bool)(o:α->D)(hit:it e=some (xs.map d))(hl:xs.length<=lI)(h0:R (Xa n caps e))(hb:∀a∈xs,∀e,R e->∃e',g (d a) e=some e'/\R e'/\c e'=QL (p a)/\(p a=true->el e'=some (o a))):JB n caps it g c el e=QB ((xs.filter p).map o):=by unfold JB;rw[hit];show(if(xs.map d).length<=lI then(XA g c el (xs.map d) (Xa n caps e)).map D.lst else none)=_;rw[if_pos (by rw[Qm];exact hl),En d R p o xs hb _ h0];rfl
def XM{α:Type}(xs:List α):xs.filter (λ_=>true)=xs:=by simp
def VV{a b:Q8}{e:QD}{r:Option D}(ha:a e=QL false)(hb:b e=r):J8 a b e=r:=by unfold J8;rw[ha];exact hb
def R1{a b:Q8}{e:QD}(ha:a e=QL true):J8 a b e=QL true:=by unfold J8;rw[ha];rfl
def Za{a b:Q8}{e:QD}{r:Option D}(ha:a e=QL true)(hb:b e=r):JV a b e=r:=by unfold JV;rw[ha];exact hb
def Y6{a b:Q8}{e:QD}(ha:a e=QL false):JV a b e=QL false:=by unfold JV;rw[ha];rfl
def Q0{g:D->D->Option D}{a b:Q8}{e:QD}{x y:D}{r:Option D}(ha:a e=some x)(hb:b e=some y)(h:g x y=r):Q4 g a b e=r:=by unfold Q4;rw[ha,hb];exact h
def JO{g:D->Option D}{a:Q8}{e:QD}{x:D}{r:Option D}(ha:a e=some x)(h:g x=r):QE g a e=r:=by unfold QE;rw[ha];exact h
def WR{a:Q8}{e:QD}{b:Bool}(ha:a e=QL b):Zw a e=QL (!b):=by unfold Zw;rw[ha];rfl
def Sl{t:String}{a:Q8}{e:QD}{x:D}{r:Option D}(ha:a e=some x)(h:D.inst t x=r):Vh t a e=r:=by unfold Vh;rw[ha];exact h
def JA{f:List D->Option D}{a:Q8}{e:QD}{x:D}{r:Option D}(ha:a e=some x)(h:f [x]=r):eK f (lC a lN) e=r:=by unfold eK lC lN;rw[ha];exact h
def Z0{f:List D->Option D}{a b:Q8}{e:QD}{x y:D}{r:Option D}(ha:a e=some x)(hb:b e=some y)(h:f [x,y]=r):eK f (lC a (lC b lN)) e=r:=by unfold eK lC lN;rw[ha,hb];exact h
def Zk{f:List D->Option D}{a b c:Q8}{e:QD}{x y z:D}{r:Option D}(ha:a e=some x)(hb:b e=some y)(hc:c e=some z)(h:f [x,y,z]=r):eK f (lC a (lC b (lC c lN))) e=r:=by unfold eK lC lN;rw[ha,hb,hc];exact h
def TB{f:List D->Option D}{a b c d:Q8}{e:QD}{x y z u:D}{r:Option D}(ha:a e=some x)(hb:b e=some y)(hc:c e=some z)(hd:d e=some u)(h:f [x,y,z,u]=r):eK f (lC a (lC b (lC c (lC d lN)))) e=r:=by unfold eK lC lN;rw[ha,hb,hc,hd];exact h
def Zt{i:Nat}{a:Q8}{e:QD}{x d z:D}(hx:eV i e=some x)(ha:a e=some d)(h:D.app x d=some z):sP i a e=some (.nx (e.set i (some z))):=by unfold sP;rw[hx,ha];show(D.app x d).map _=_;rw[h];rfl
def Qf{a:Q8}{g:Jk}{e e1:QD}{d:D}(h:a e=some d)(hg:g d e=some e1):QA a g e=some (.nx e1):=by unfold QA;rw[h];show(g d e).map _=_;rw[hg];rfl
def Qr{c:Q8}{a b:QF}{e:QD}{r:Option Fl}(h:c e=QL true)(ha:a e=r):QC c a b e=r:=by unfold QC;rw[h];exact ha
def QN{c:Q8}{a b:QF}{e:QD}{r:Option Fl}(h:c e=QL false)(ha:b e=r):QC c a b e=r:=by unfold QC;rw[h];exact ha
def QO(x y:Str):D.eqO (.str x) (.str y)=QL (decide (x=y)):=by simp[D.eqO,Zu,YS,D.cmp]
def W8{a b c:Q8}{e:QD}{x y z:D}(ha:a e=some x)(hb:b e=some y)(hc:c e=some z):QT (lC a (lC b (lC c lN))) e=some (.tup [x,y,z]):=by unfold QT lC lN;rw[ha,hb,hc];rfl
def Ov{a b:Q8}{e:QD}{x y:D}(ha:a e=some x)(hb:b e=some y):QT (lC a (lC b lN)) e=some (.tup [x,y]):=by unfold QT lC lN;rw[ha,hb];rfl
def Ra{a b c d:Q8}{e:QD}{x y z u:D}(ha:a e=some x)(hb:b e=some y)(hc:c e=some z)(hd:d e=some u):QT (lC a (lC b (lC c (lC d lN)))) e=some (.tup [x,y,z,u]):=by unfold QT lC lN;rw[ha,hb,hc,hd];rfl
def XH{x y:Int}(h:x≠y):D.eqO (.int x) (.int y)=QL false:=by simp[D.eqO,Z5,ZC,D.cmp,h]
def XJ{x y:Int}(h:x=y):D.eqO (.int x) (.int y)=QL true:=by simp[D.eqO,Z5,ZC,D.cmp,h]
def HL{x y:Int}(h:¬x<y):D.lt (.int x) (.int y)=QL false:=by show some (D.bl (decide (x<y)))=_;rw[JF h]
def HM{x y:Int}(h:x<y):D.lt (.int x) (.int y)=QL true:=by show some (D.bl (decide (x<y)))=_;rw[Jf h]
def SE{a:Q8}{lo hi:T5}{e:QD}{x:D}{l h:Option Int}{r:Option D}(ha:a e=some x)(hl:lo e=some l)(hh:hi e=some h)(hc:Vb x l h=r):ZK a lo hi e=r:=by unfold ZK;rw[ha,hl,hh];exact hc
def Rp{a:Q8}{e:QD}{i:Int}(ha:a e=Q1 i):Z9 a e=some (some i):=by unfold Z9;rw[ha];rfl
def SD(ns:List Int)(k:Nat):Yv [.scr ns,.int k]=Q1 (cell ns k):=by
 unfold Yv K7;refine Qy rfl ?_;by_cases h:k<ns.length;·refine Zj (Qr (Q0 rfl (JO (x:=.scr ns) rfl rfl) (HM (by omega))) (ret (Q0 (x:=.scr ns) (y:=.int k) rfl rfl ?_)));simp[D.ix,Jh,h,cell]
 ·refine st (QN (Q0 rfl (JO (x:=.scr ns) rfl rfl) (HL (by omega))) rfl) (ret ?_);simp[eC,h,cell]
def Tf(c t:Int)(h0:0<=t)(h1:t<=1000):WK [.int c,.int t]=Q1 (ZU c t):=by have e1:D.mul (.int t) (.int t)=Q1 (t*t):=Sx (by omega);have e2:D.mul (.int (t*t)) (.int 7919)=Q1 (t*t*7919):=Nx (by decide);have e3:D.mul (.int (c%2147483647+t*t*7919+104729)) (.int 48271)=Q1 ((c%2147483647+t*t*7919+104729)*48271):=Nx (by decide);have n0:=XR ((c%2147483647+t*t*7919+104729)*48271) (show(2147483647:Int)≠0 by decide);have n1:=Xu ((c%2147483647+t*t*7919+104729)*48271) (show(0:Int)<2147483647 by decide);have e4:D.mul (.int ((c%2147483647+t*t*7919+104729)*48271%2147483647)) (.int ((c%2147483647+t*t*7919+104729)*48271%2147483647))=Q1 _:=Sx ⟨by omega,by omega⟩;have e5:D.mul (.int 69621) (.int t)=Q1 (69621*t):=Sx (by decide);have m1:D.mod (.int c) (.int 2147483647)=Q1 (c%2147483647):=Xp (by decide);have m2:D.mod (.int ((c%2147483647+t*t*7919+104729)*48271)) (.int 2147483647)=Q1 _:=Xp (by decide);have m3:∀z:Int,D.mod (.int z) (.int 2147483629)=Q1 (z%2147483629):=λz=>Xp (by decide);unfold WK KG ZU;refine Qy rfl (st (Qf (Q0 (Q0 (Q0 (Q0 (Q0 rfl rfl m1) (Q0 (Q0 rfl rfl e1) rfl e2) rfl) rfl rfl) rfl e3) rfl m2) rfl) (ret (Q0 (Q0 (Q0 rfl rfl e4) (Q0 rfl rfl e5) rfl) rfl (m3 _))))
noncomputable def QaE:Option D->Str|some (.str x)=>x|_=>""
noncomputable def CN:Option D->Bool|some (.str _)=>true|_=>false
def QeO{o:Option D}(h:CN o=true):o=QP (QaE o):=by cases o with|none=>cases h|some d=>cases d<;>first|rfl|cases h
def Ze(k:Nat):Str:=QaE (SY [.int k])
def Nu(k:Nat):Bool:=CN (SY [.int k])&&decide (1<=(Ze k).length)&&decide ((Ze k).length<=7)&&decide (Ze k≠"z")
def Qfb:(List.range 58).all Nu=true:=by decide+kernel
def Cg(k:Nat)(h:k<58):Nu k=true:=List.all_eq_true.mp Qfb k (List.mem_range.mpr h)
def Qfc(k:Nat)(h:k<58):SY [.int k]=QP (Ze k):=by have:=Cg k h;simp only[Nu,Xs]at this;exact QeO this.1.1.1
def Qff(k:Nat)(h:k<58):Ze k≠"z":=by have:=Cg k h;simp only[Nu,Xs,decide_eq_true_eq]at this;exact this.2
noncomputable def Ny:List Str->Bool|[]=>true|x::xs=>xs.all (λy=>decide (x≠y))&&Ny xs
def Qfe:Ny ((List.range 58).map Ze)=true:=by decide+kernel
def Vw(z:Int){j:Int}(h:0<j/\j<1073741824):D.fdiv (.int z) (.int j)=Q1 (z/j):=Qd6 h
def QjV(t:Int)(a b c:Option D):∀(ds:List D),∃c',VP (gS 3) (QA (YV (eV 2) (Q5 10)) (gS 2)) ds [a,b,Q1 t,c]=some (.nx [a,b,Q1 (t*10^ds.length),c']):=by intro ds;induction ds generalizing t c with|nil=>exact⟨c,by simp[VP]⟩|cons d ds ih=>obtain⟨c',e⟩:=ih (t*10) (some d);refine⟨c',?_⟩;have m:D.mul (.int t) (.int 10)=Q1 (t*10):=Nx (by decide);simp[VP,Xq,ZK,Vb,lI,Qj,sD,sQ,QC,QQ,RL,QA,W6,Wa,QK,RI,Uv,gS,Jb,VC,eV,eC,Q4,QE,Zw,JV,J8,Vg,Xe,QT,QS,eK,lN,lC,Vh,Zz,Z9,SQ,D.len,D.lt,D.le,D.gt,D.ge,D.add,D.sub,D.ix,D.eqO,D.neO,D.cmp,D.cmpN,D.inst,W9,D.isT,D.intB,D.min2,D.max2,D.neg,D.addI,Jr,Sy,Sk,Sz,X4,UT,RN,RO,RQ,RP,SV,SU,SS,S9,Sv,U2,TN,TM,Z5,Zu,Vv,VA,Vd,Yq,D.rng,D.its,D.itsT,ZC,SW,YS,VJ,Ws,WJ,Wr,QaJ,m,e];rw[Int.mul_assoc,<-Int.pow_succ']
def QjU(t:Int)(a b c d e:Option D):∀(ds:List D),∃d',VP (gS 4) (QA (YV (eV 3) (Q5 10)) (gS 3)) ds [a,b,c,Q1 t,d,e]=some (.nx [a,b,c,Q1 (t*10^ds.length),d',e]):=by intro ds;induction ds generalizing t d with|nil=>exact⟨d,by simp[VP]⟩|cons x ds ih=>obtain⟨c',q⟩:=ih (t*10) (some x);refine⟨c',?_⟩;have m:D.mul (.int t) (.int 10)=Q1 (t*10):=Nx (by decide);simp[VP,Xq,ZK,Vb,lI,Qj,sD,sQ,QC,QQ,RL,QA,W6,Wa,QK,RI,Uv,gS,Jb,VC,eV,eC,Q4,QE,Zw,JV,J8,Vg,Xe,QT,QS,eK,lN,lC,Vh,Zz,Z9,SQ,D.len,D.lt,D.le,D.gt,D.ge,D.add,D.sub,D.ix,D.eqO,D.neO,D.cmp,D.cmpN,D.inst,W9,D.isT,D.intB,D.min2,D.max2,D.neg,D.addI,Jr,Sy,Sk,Sz,X4,UT,RN,RO,RQ,RP,SV,SU,SS,S9,Sv,U2,TN,TM,Z5,Zu,Vv,VA,Vd,Yq,D.rng,D.its,D.itsT,ZC,SW,YS,VJ,Ws,WJ,Wr,QaJ,m,q];rw[Int.mul_assoc,<-Int.pow_succ']
def A5(lo:Int)(n:Nat):(rD lo n).length=n:=by unfold rD;simp
def QjW(n:Nat)(h:n<=3):(10:Int)<=10*10^n/\(10:Int)*10^n<=10^30:=by
 have:n=0\/n=1\/n=2\/n=3:=by omega
 rcases this with z|z|z|z<;>subst z<;>decide
def Uk{x y z:D}{i:Int}(h:i=0\/i=1\/i=2):D.ix (.lst [x,y,z]) (.int i)=some (if i=0 then x else if i=1 then y else z):=by rcases h with h|h|h<;>subst h<;>rfl
def QbD(x:Int)(h:x<=3):x<=10^39:=by
 have:(3:Int)<=10^39:=by decide
 omega
def QbE(x:Int)(h:x<=10^30):x<=10^39:=by
 have:(10:Int)^30<=10^39:=by decide
 omega
def Qim(c n:Int)(hn:0<=n):∃p:Int,PN [.int c,.int n]=some (.int p)/\1<=p/\p<=10^39:=by
 obtain⟨m4,e4,l4,u4⟩:=TV (n/97) (show(0:Int)<4 by decide);obtain⟨m3,e3,l3,u3⟩:=TV (n/16) (show(0:Int)<3 by decide);obtain⟨m5,e5,l5,u5⟩:=TV (n/16) (show(0:Int)<5 by decide);obtain⟨m8,e8,l8,u8⟩:=TV (n/97) (show(0:Int)<8 by decide);obtain⟨q3,f3,g3,h3⟩:=TV (n/997) (show(0:Int)<3 by decide);obtain⟨mc,ec,lc,uc⟩:=TV c (show(0:Int)<10^39 by decide);have ec2:c%1000000000000000000000000000000000000000=mc:=ec;have jY:D.pow (.int 10) (.int 39)=some (.int (10^39)):=Bi (by decide);have kW:D.pow (.int 10) (.int 30)=some (.int (10^30)):=Bi (by decide);have kZ:D.mod (.int c) (.int (10^39))=some (.int mc):=by rw[<-ec];exact Xp (by decide)
 have z3:q3=0\/q3=1\/q3=2:=by omega
 have rg:(if m4.natAbs<4611686018427387904 then some (rD 0 m4.toNat)else none)=some (rD 0 m4.toNat):=if_pos (by omega);obtain⟨c',el⟩:=QjV 10 (some (.int c)) (some (.int n)) none (rD 0 m4.toNat);rw[A5]at el;have tl:=QjW m4.toNat (by omega);obtain⟨T,eT⟩:∃T:Int,10*10^m4.toNat=T:=⟨_,rfl⟩;rw[eT]at el tl;have fin:∀T:Int,10<=T->T<=10^30->∃p:Int,(if q3=0 then D.int (1+m3)else if q3=1 then D.int (T-1-m5)else D.int (1+mc))=.int p/\1<=p/\p<=10^39:=by
  intro T t0 t1;split;·exact⟨_,rfl,by omega,QbD _ (by omega)⟩
  ·split;·exact⟨_,rfl,by omega,QbE _ (by omega)⟩
   ·exact⟨_,rfl,by omega,by omega⟩
 have fd:∀(k:Int)(a b d:Option D),0<k/\k<1073741824->Q4 D.fdiv (eV 1) (eC (.int k)) [a,some (.int n),b,d]=some (.int (n/k)):=λk a b d h=>Q0 rfl rfl (Vw n h);have ha:Q4 D.mod (Q4 D.fdiv (eV 1) (eC (.int 97))) (eC (.int 4)) [some (.int c),some (.int n),some (.int 10),none]=some (.int m4):=Q0 (fd 97 _ _ _ (by decide)) rfl (by rw[Zg _ (by decide),e4]);have key:∀U:Int,(QC (Q4 D.eqO (Q4 D.mod (Q4 D.fdiv (eV 1) (eC (.int 97))) (eC (.int 8))) (eC (.int 7))) (QA (Q4 D.pow (eC (.int 10)) (eC (.int 30))) (gS 2)) (QK)) [some (.int c),some (.int n),some (.int T),c']=some (.nx [some (.int c),some (.int n),some (.int U),c'])->10<=U->U<=10^30->∃p:Int,PN [.int c,.int n]=some (.int p)/\1<=p/\p<=10^39:=λU hU u0 u1=>by
  obtain⟨p,ep,b0,b1⟩:=fin U u0 u1;refine⟨p,?_,b0,b1⟩;unfold PN KJ;refine Qy rfl ?_;refine st (e1:=[some (.int c),some (.int n),some (.int 10),none]) rfl ?_;refine st (e1:=[some (.int c),some (.int n),some (.int T),c']) ?_ (st hU (ret ?_))
  ·unfold Qz ZM;rw[ha,ZA];show Option.bind (if m4.natAbs<4611686018427387904 then some (rD 0 m4.toNat)else none) _=_;rw[rg];exact el
  ·rw[<-ep,<-Uk z3];refine Q0 (x:=.lst [.int (1+m3),.int (U-1-m5),.int (1+mc)]) (y:=.int q3) ?_ (Q0 (fd 997 _ _ _ (by decide)) rfl (by rw[Zg _ (by decide),f3])) rfl;have a1:Q4 D.add (eC (.int 1)) (Q4 D.mod (Q4 D.fdiv (eV 1) (eC (.int 16))) (eC (.int 3))) [some (.int c),some (.int n),some (.int U),c']=some (.int (1+m3)):=Q0 rfl (Q0 (fd 16 _ _ _ (by decide)) rfl (by rw[Zg _ (by decide),e3])) rfl;have a2:Q4 D.sub (Q4 D.sub (eV 2) (eC (.int 1))) (Q4 D.mod (Q4 D.fdiv (eV 1) (eC (.int 16))) (eC (.int 5))) [some (.int c),some (.int n),some (.int U),c']=some (.int (U-1-m5)):=Q0 (Q0 rfl rfl rfl) (Q0 (fd 16 _ _ _ (by decide)) rfl (by rw[Zg _ (by decide),e5])) rfl;have a3:Q4 D.add (eC (.int 1)) (Q4 D.mod (eV 0) (Q4 D.pow (eC (.int 10)) (eC (.int 39)))) [some (.int c),some (.int n),some (.int U),c']=some (.int (1+mc)):=Q0 rfl (Q0 rfl (Q0 rfl rfl jY) kZ) rfl;unfold QS lC lN;rw[a1,a2,a3];rfl
 have hm:∀b:Bool,D.eqO (.int m8) (.int 7)=some (.bl b)->Q4 D.eqO (Q4 D.mod (Q4 D.fdiv (eV 1) (eC (.int 97))) (eC (.int 8))) (eC (.int 7)) [some (.int c),some (.int n),some (.int T),c']=some (.bl b):=λb h=>Q0 (Q0 (fd 97 _ _ _ (by decide)) rfl (by rw[Zg _ (by decide),e8])) rfl h;by_cases h8:m8=7;·exact key (10^30) (Qr (hm true (XJ h8)) (Qf (Q0 rfl rfl kW) rfl)) (by decide) (by decide)
 ·exact key T (QN (hm false (XH h8)) rfl) tl.1 tl.2
noncomputable def someS:Str:=Str.ofString "!\"#$&'()*+,-./0123456789:;<=>?@ABCDEFGHIJKLMNOPQRSTUVWXYZ[\\]^_`"++Str.ofString "abcdefghijklmnopqrstuvwxyz{}~|"
def GX:someS.length=93:=by decide+kernel
def Qjw:(Str.ofString "!\"#$&'()*+,-./0123456789:;<=>?@ABCDEFGHIJKLMNOPQRSTUVWXYZ[\\]^_`").length=63:=by decide+kernel
def Qjx:(Str.ofString "abcdefghijklmnopqrstuvwxyz{}~|").length=30:=by decide+kernel
noncomputable def Wy(x:Str)(i:Int):Str:=⟨#[x.cps.toList.getD i.toNat 0]⟩
def BQ(x:Str)(i:Int):(Wy x i).length=1:=rfl
def CZ{x:Str}{i:Int}(h:0<=i)(h':i<x.length)(hl:x.length<=lI):D.ix (.str x) (.int i)=QP (Wy x i):=by
 have q0:x.length=x.cps.size:=rfl;have q:i.toNat<x.cps.size:=by omega
 show(if x.length<=lI then(Jh x.length i).bind λk=>(x.cps[k]?).map λc=>D.str ⟨#[c]⟩else none)=_;rw[if_pos hl,Jh,if_pos h,if_pos h'];show(x.cps[i.toNat]?).map _=_;rw[Hw q];show some (D.str ⟨#[x.cps[i.toNat]]⟩)=_;unfold Wy;rw[YU,Array.getElem?_toList,Hw q];rfl
def Yx(x y:Str):(x++y).length=x.length+y.length:=Array.size_append
def Lu{x y:Str}(h:x.length+y.length<=lI):D.add (.str x) (.str y)=QP (x++y):=if_pos h
def Xx(n g:Int)(k:Nat):Str:=if g=1/\(n/3+k)%4=0 then " "else Wy someS ((n/7+k*(1+n%13)+k*k)%(92+g))
def Qan(n g:Int)(k:Nat):(Xx n g k).length=1:=by
 unfold Xx;split;·decide+kernel
 ·rfl
def Wb(n g:Int)(s:Nat):Str:=(List.range s).foldl (λx k=>x++Xx n g k) ""
theorem C4(n g:Int):∀(ks:List Nat)(x:Str),(ks.foldl (λx k=>x++Xx n g k) x).length=x.length+ks.length|[],x=>rfl|k::ks,x=>by show(ks.foldl (λx k=>x++Xx n g k) (x++Xx n g k)).length=_;rw[C4 n g ks,Yx,Qan,JM];omega
def Mx(n g:Int)(s:Nat):(Wb n g s).length=s:=by unfold Wb;rw[C4,length_range];show 0+s=s;omega
def Qjn(n g:Int):Wb n g 0=Str.ofString "":=by unfold Wb;rw[List.range_zero,List.foldl_nil]
def GW(n g:Int)(s:Nat)(hn:0<=n)(hg:g=0\/g=1)(hs:s<=1000):UC [.int n,.int s,.int g]=QP (Wb n g s):=by
 have rg:D.rng (.int s)=some (rD 0 s):=by show(if(s:Int).natAbs<4611686018427387904 then some (rD 0 (s:Int).toNat)else none)=_;rw[if_pos (by omega)];rfl
 have a0:D.add (.str (Str.ofString "!\"#$&'()*+,-./0123456789:;<=>?@ABCDEFGHIJKLMNOPQRSTUVWXYZ[\\]^_`")) (.str (Str.ofString "abcdefghijklmnopqrstuvwxyz{}~|"))=QP someS:=Lu (by rw[Qjw,Qjx];decide);unfold UC KO;refine Qy rfl ?_;refine st (e1:=[Q1 n,Q1 s,Q1 g,QP (Str.ofString "!\"#$&'()*+,-./0123456789:;<=>?@ABCDEFGHIJKLMNOPQRSTUVWXYZ[\\]^_`"),none,none,none,none]) rfl ?_;refine st (e1:=[Q1 n,Q1 s,Q1 g,QP someS,none,none,none,none]) (Qf (Q0 rfl rfl a0) rfl) ?_;refine st (e1:=[Q1 n,Q1 s,Q1 g,QP someS,QP (Str.ofString ""),none,none,none]) rfl ?_;refine L0 s (λi e=>∃a b c,e=[Q1 n,Q1 s,Q1 g,QP someS,QP (Wb n g i),a,b,c]) (by simp[ZM,eV,rg]) ⟨none,none,none,by rw[Qjn]⟩ ?_ ?_
 ·rintro i hi e⟨a,b,c,rfl⟩;obtain⟨j,ej⟩:∃j:Int,(i:Int)=j:=⟨_,rfl⟩;have i0:(0:Int)<=j/\j<1000:=by omega
  have e1:D.mul (.int j) (.int (1+n%13))=Q1 (j*(1+n%13)):=Sx (by omega);have e2:D.mul (.int j) (.int j)=Q1 (j*j):=Sx (by omega);have e3:D.mod (.int (n/7+j*(1+n%13)+j*j)) (.int (92+g))=Q1 ((n/7+j*(1+n%13)+j*j)%(92+g)):=Xp (by omega);have e4:D.ix (.str someS) (.int ((n/7+j*(1+n%13)+j*j)%(92+g)))=QP (Wy someS ((n/7+j*(1+n%13)+j*j)%(92+g))):=by
   have a0:=XR (n/7+j*(1+n%13)+j*j) (show(92+g)≠0 by omega);have a1:=Xu (n/7+j*(1+n%13)+j*j) (show 0<92+g by omega);exact CZ a0 (by rw[GX];omega) (by rw[GX];decide)
  have e5:D.add (.str (Wb n g i)) (.str (Xx n g i))=QP (Wb n g (i+1)):=by
   rw[Lu (by rw[Mx,Qan];unfold lI;omega)];unfold Wb;rw[List.range_succ,Ts];rfl
  have e6:D.len (.str someS)=Q1 93:=by
   show(if someS.length<=lI then some (D.int someS.length)else none)=_;rw[GX];rfl
  have e7:(93:Int)-1+g=92+g:=by omega
  have ai:∀x y:Int,D.add (.int x) (.int y)=Q1 (x+y):=λ_ _=>rfl;refine⟨[Q1 n,Q1 s,Q1 g,QP someS,QP (Wb n g (i+1)),Q1 j,Q1 (n/7+j*(1+n%13)+j*j),QP (Xx n g i)],.inl ?_,_,_,_,rfl⟩;rw[ej,Int.zero_add];refine J6 rfl ?_;refine st (e1:=[Q1 n,Q1 s,Q1 g,QP someS,QP (Wb n g i),Q1 j,Q1 (n/7+j*(1+n%13)+j*j),c]) (Qf (Q0 (Q0 (Q0 rfl rfl (Vw _ (by decide))) (Q0 rfl (Q0 rfl (Q0 rfl rfl (Zg _ (by decide))) rfl) e1) rfl) (Q0 rfl rfl e2) rfl) rfl) ?_;refine st (e1:=[Q1 n,Q1 s,Q1 g,QP someS,QP (Wb n g i),Q1 j,Q1 (n/7+j*(1+n%13)+j*j),QP (Wy someS ((n/7+j*(1+n%13)+j*j)%(92+g)))]) (Qf (Q0 rfl (Q0 rfl (Q0 (Q0 (JO rfl e6) rfl rfl) rfl (by rw[<-e7];rfl)) e3) e4) rfl) ?_;refine st (e1:=[Q1 n,Q1 s,Q1 g,QP someS,QP (Wb n g i),Q1 j,Q1 (n/7+j*(1+n%13)+j*j),QP (Xx n g i)]) ?_ (Qf (Q0 rfl rfl e5) rfl);unfold Xx;rw[ej];rcases hg with z|z<;>by_cases hc:(n/3+j)%4=0<;>simp[sD,sQ,QC,QQ,QA,QK,gS,eV,eC,Q4,QE,Zw,JV,J8,QT,QS,eK,lN,lC,D.lt,D.sub,D.eqO,D.cmp,Jr,X4,UT,Z5,Zu,ZC,YS,Xq,Vw,Zg,ai,z,hc]
 ·rintro e⟨a,b,c,rfl⟩;simp[QQ,eV]
def Ew(x:Str)(lo hi:Option Int):(V8 x lo hi).length<=x.length:=by show(Zc x.cps.toList lo hi).toArray.size<=x.cps.size;rw[Ja];unfold Zc;rw[YG,length_drop];have:x.cps.toList.length=x.cps.size:=Oh;omega
def Eu(x:Str)(j:Int)(h:0<=j):((V8 x none (some j)).length:Int)=min j x.length:=by obtain⟨k,rfl⟩:=Int.eq_ofNat_of_zero_le h;show((Zc x.cps.toList none (some (k:Int))).toArray.size:Int)=_;rw[Ja];unfold Zc YL;have:x.cps.toList.length=x.length:=Oh;rw[YG,length_drop,this];simp only[];rw[if_neg (Int.not_lt.mpr h),Int.toNat_natCast,Nat.sub_zero,Nat.sub_zero,Nat.min_assoc,min_self];omega
def ND{x:Str}(h:x.length<=lI)(lo hi:Option Int):Vb (.str x) lo hi=QP (V8 x lo hi):=if_pos h
def Qjz{x:Str}(h:x.length<=lI):D.strip (.str x)=QP (Txt.strip x):=if_pos h
def HS(x:Str)(n:Int):(YC x n).length=n.toNat*x.length:=by show(List.replicate n.toNat x.cps.toList).flatten.toArray.size=_;rw[Ja,List.length_flatten,List.map_replicate,List.sum_replicate_nat];rfl
def HR{x:Str}{n:Int}(h:-1073741824<n/\n<1073741824/\x.length*n.toNat<=lI):D.mulA (.str x) (.int n)=QP (YC x n):=if_pos h
def T6(k:Nat)(l:Str):Prop:=l=""\/l=Ze k
def LG(k:Nat):At->Prop|.brk=>True|.fin=>False|.bk (.chapter t l)=>(1<=t.length/\t.length<=41)/\T6 k l|.bk (.heading t n l)=>(1<=t.length/\t.length<=41)/\(0<=n/\n<=29)/\T6 k l|.bk (.table rs l)=>(1<=rs.length/\rs.length<=30)/\(∀r∈rs,r.length<=40)/\T6 k l|.bk (.plates n l)=>(1<=n/\n<=10^39)/\T6 k l|.bk (.para _)=>False|.it (.mark l)=>l=Ze k|.it (.key w)=>1<=w.length/\w.length<=80|.it (.ref l a b)=>l=""/\a.length<=2/\b.length<=2|.it (.word w ns)=>(1<=w.length/\w.length<=40)/\ns.length<=30/\∀r∈ns,r.length<=40
def Qfp(k:Nat)(p:Prop)[Decidable p]:T6 k (if p then Str.ofString ""else Ze k):=by
 by_cases h:p;·rw[if_pos h];exact .inl rfl
 ·rw[if_neg h];exact .inr rfl
def QdV(z:Int){j:Int}(h:0<j):∃x:Nat,z%j=(x:Int)/\(x:Int)<j:=⟨(z%j).toNat,by have:=XR z (show j≠0 by omega);omega,by have:=Xu z h;have:=XR z (show j≠0 by omega);omega⟩
def QiZ(n:Int)(h:0<=n/\n<=1000):D.rng (.int n)=some (rD 0 n.toNat):=if_pos (by omega)
def Ms(m:Nat)(h:m<=100000):D.rng (.int m)=some ((List.range m).map λi:Nat=>D.int (0+(i:Int))):=by show(if(m:Int).natAbs<4611686018427387904 then some (rD 0 (m:Int).toNat)else none)=_;rw[if_pos (by omega)];rfl
def add_int(x y:Int):D.add (.int x) (.int y)=Q1 (x+y):=rfl
def Cr{a:Nat}(h:a<=1000000):1+a<=lI:=ZP (Nat.add_le_add_left h 1) (by decide)
def lB{a:Nat}(h:a<=1000000):a<=lI:=ZP h (by decide)
def DU(x y:Int):D.eqO (.int x) (.int y)=QL (decide (x=y)):=by simp[D.eqO,Z5,ZC,D.cmp]
def CV(x y:Int)(b:Bool):D.ix (.lst [.int x,.int y]) (.int (if b then 1 else 0))=Q1 (if b then y else x):=by cases b<;>rfl
def ET(c:Int)(k:Nat)(hk:k<58):∃a,Uc [.int c,.int k]=some a.d/\LG k a:=by
 obtain⟨kk,ek⟩:∃kk:Int,(k:Int)=kk:=⟨_,rfl⟩;obtain⟨n,en⟩:∃n:Int,ZU c (kk+20)=n:=⟨_,rfl⟩;have n0:0<=n:=en▸B3 _ _;have n1:n<2147483629:=en▸QfL _ _;have hm:WK [.int c,.int (kk+20)]=Q1 n:=en▸Tf c (kk+20) (by omega) (by omega);obtain⟨kd,jk,j8,j7⟩:=TV n (show(0:Int)<17 by decide);clear en n1;obtain⟨sz,gj,sz0,sz1⟩:∃sz:Nat,1+n/17%(if decide (n/187%9=4)then(40:Int)else 11)=(sz:Int)/\1<=sz/\sz<=40:=by
  clear hm jk j8 j7 ek hk;cases decide (n/187%9=4);·exact⟨(1+n/17%11).toNat,by simp;omega,by omega,by omega⟩
  ·exact⟨(1+n/17%40).toNat,by simp;omega,by omega,by omega⟩
 obtain⟨mn,kE,mn0,mn1⟩:∃mn:Int,1+n/97%(if decide (n/1009%11=5)then(30:Int)else 4)=mn/\1<=mn/\mn<=30:=by
  clear hm jk j8 j7 ek hk;cases decide (n/1009%11=5);·exact⟨(1+n/97%4),by simp,by omega,by omega⟩
  ·exact⟨(1+n/97%30),by simp,by omega,by omega⟩
 have j5:D.mod (.int (n/17)) (.int (if decide (n/187%9=4)then(40:Int)else 11))=Q1 (n/17%(if decide (n/187%9=4)then(40:Int)else 11)):=Xp (by split<;>omega);have j4:D.mod (.int (n/97)) (.int (if decide (n/1009%11=5)then(30:Int)else 4))=Q1 (n/97%(if decide (n/1009%11=5)then(30:Int)else 4)):=Xp (by split<;>omega);obtain⟨tx,kC,tl⟩:∃tx,UC [.int (n/17),.int sz,.int 1]=QP tx/\tx.length=sz:=⟨_,GW (n/17) 1 sz (Int.ediv_nonneg n0 (by decide)) (.inr rfl) (by omega),Mx _ _ _⟩;obtain⟨wd,kB,wl⟩:∃tx,UC [.int (n/19),.int sz,.int 0]=QP tx/\tx.length=sz:=⟨_,GW (n/19) 0 sz (Int.ediv_nonneg n0 (by decide)) (.inl rfl) (by omega),Mx _ _ _⟩;have j6:SY [.int kk]=QP (Ze k):=ek▸Qfc k hk;obtain⟨nm,gm,ia⟩:∃nm,(if n/1009%2=0 then Str.ofString ""else Ze k)=nm/\T6 k nm:=⟨_,rfl,Qfp _ _⟩;rw[ek];unfold Uc K6;refine exD (dd:=At.d) rfl ?_;refine Yu (e1:=[Q1 c,Q1 kk,Q1 n,none,none,none,none,none,none,none]) (Qf (Z0 rfl (Q0 rfl rfl rfl) hm) rfl) ?_;refine Yu (e1:=[Q1 c,Q1 kk,Q1 n,Q1 kd,none,none,none,none,none,none]) (Qf (Q0 rfl rfl (by rw[Zg _ (by decide),jk])) rfl) ?_;refine Yu (e1:=[Q1 c,Q1 kk,Q1 n,Q1 kd,Q1 sz,none,none,none,none,none]) (Qf (Q0 rfl (Q0 (Q0 rfl rfl (Vw _ (by decide))) (Q0 (x:=.lst [.int 11,.int 40]) rfl (JO (Q0 (Q0 (Q0 rfl rfl (Vw _ (by decide))) rfl (Zg _ (by decide))) rfl (DU _ _)) rfl) (CV _ _ _)) j5) (by rw[<-gj];rfl)) rfl) ?_;refine Yu (e1:=[Q1 c,Q1 kk,Q1 n,Q1 kd,Q1 sz,Q1 mn,none,none,none,none]) (Qf (Q0 rfl (Q0 (Q0 rfl rfl (Vw _ (by decide))) (Q0 (x:=.lst [.int 4,.int 30]) rfl (JO (Q0 (Q0 (Q0 rfl rfl (Vw _ (by decide))) rfl (Zg _ (by decide))) rfl (DU _ _)) rfl) (CV _ _ _)) j4) (by rw[<-kE];rfl)) rfl) ?_;refine Yu (e1:=[Q1 c,Q1 kk,Q1 n,Q1 kd,Q1 sz,Q1 mn,QP tx,none,none,none]) (Qf (Zk (Q0 rfl rfl (Vw _ (by decide))) rfl rfl kC) rfl) ?_;refine Yu (e1:=[Q1 c,Q1 kk,Q1 n,Q1 kd,Q1 sz,Q1 mn,QP tx,QP wd,none,none]) (Qf (Zk (Q0 rfl rfl (Vw _ (by decide))) rfl rfl kB) rfl) ?_;refine Yu (e1:=[Q1 c,Q1 kk,Q1 n,Q1 kd,Q1 sz,Q1 mn,QP tx,QP wd,QP (Ze k),none]) (Qf (JA rfl j6) rfl) ?_;refine Yu (e1:=[Q1 c,Q1 kk,Q1 n,Q1 kd,Q1 sz,Q1 mn,QP tx,QP wd,QP (Ze k),QP (Ze k)]) (Qf (d:=.str (Ze k)) rfl rfl) ?_;refine Yu (e1:=[Q1 c,Q1 kk,Q1 n,Q1 kd,Q1 sz,Q1 mn,QP tx,QP wd,QP (Ze k),QP nm]) (by
  have h2:∀b:Bool,D.eqO (.int (n/1009%2)) (.int 0)=QL b->QG (Js (Q4 D.fdiv (eV 2) (Q5 1009)) (Q5 2)) (Q5 0) [Q1 c,Q1 kk,Q1 n,Q1 kd,Q1 sz,Q1 mn,QP tx,QP wd,QP (Ze k),QP (Ze k)]=QL b:=λb h=>Q0 (Q0 (Q0 rfl rfl (Vw _ (by decide))) rfl (Zg _ (by decide))) rfl h;by_cases z:n/1009%2=0;·rw[if_pos z]at gm;exact Qr (h2 true (XJ z)) (by rw[<-gm];rfl)
  ·rw[if_neg z]at gm;exact QN (h2 false (XH z)) (by rw[<-gm];rfl)) ?_;clear hm kC kB j6 j5 j4 gm gj kE;have hS:tx.length<=lI:=lB (by omega);have hW:wd.length<=lI:=lB (by omega);have sT:=Qjz hS;have sL:(Txt.strip tx).length<=40:=ZP (PyProof.Rows.len_strip tx) (by omega);have o0:D.ix (.str wd) (.int 0)=QP (Wy wd 0):=CZ (by decide) (by omega) hW;have aT:D.add (.str (Wy wd 0)) (.str (Txt.strip tx))=QP (Wy wd 0++Txt.strip tx):=Lu (by rw[BQ];exact lB (by omega));have lT:(Wy wd 0++Txt.strip tx).length=1+(Txt.strip tx).length:=by rw[Yx,BQ]
 by_cases z:kd=0;·exact⟨.bk (.chapter (Wy wd 0++Txt.strip tx) nm),Zj (Qr (Q0 rfl rfl (XJ z)) (ret (W8 rfl (Q0 (Q0 rfl rfl o0) (JO rfl sT) aT) rfl))),⟨by omega,ia⟩⟩
 refine Yu (QN (Q0 rfl rfl (XH z)) rfl) ?_;by_cases z:kd=1;·exact⟨.bk (.heading (Wy wd 0++Txt.strip tx) (mn-1) nm),Zj (Qr (Q0 rfl rfl (XJ z)) (ret (Ra rfl (Q0 (Q0 rfl rfl o0) (JO rfl sT) aT) rfl rfl))),⟨by omega,by omega,ia⟩⟩
 refine Yu (QN (Q0 rfl rfl (XH z)) rfl) ?_;obtain⟨m,em⟩:∃m:Nat,mn=m:=⟨mn.toNat,by omega⟩;by_cases z:kd=2
 ·refine⟨.bk (.table ((List.range m).map λi:Nat=>V8 tx none (some (if(sz:Int)-(0+(i:Int))>0 then(sz:Int)-(0+(i:Int))else 0))) nm),Zj (Qr (Q0 rfl rfl (XJ z)) (ret (W8 rfl ?_ rfl))),⟨by simp;omega,?_,ia⟩⟩
  ·rw[Yh (g:=gS 0) (n:=1) (caps:=[6,4]) (λi:Nat=>D.int (0+(i:Int))) (List.range m) (λe=>∃v,e=[v,QP tx,Q1 sz]) (λ_=>true) (λi:Nat=>.str (V8 tx none (some (if(sz:Int)-(0+(i:Int))>0 then(sz:Int)-(0+(i:Int))else 0)))) (by show D.rng (.int mn)=_;rw[em];exact Ms m (by omega)) (lB (by simp;omega)) ⟨none,rfl⟩ (by rintro i hi e⟨v,rfl⟩;exact⟨[Q1 (0+(i:Int)),QP tx,Q1 sz],rfl,⟨_,rfl⟩,rfl,λ_=>SE rfl rfl (Rp (Q0 rfl (Q0 rfl rfl rfl) rfl)) (ND hS _ _)⟩)];rw[XM];unfold QM;rw[W5];rfl
  ·intro r hr;obtain⟨i,_,rfl⟩:=q_20.mp hr;exact ZP (Ew _ _ _) (by omega)
 refine Yu (QN (Q0 rfl rfl (XH z)) rfl) ?_;by_cases z:kd=3;·obtain⟨p,ep,p0,p1⟩:=Qim c n n0;exact⟨.bk (.plates p nm),Zj (Qr (Q0 rfl rfl (XJ z)) (ret (W8 rfl (Z0 rfl rfl ep) rfl))),⟨⟨p0,p1⟩,ia⟩⟩
 refine Yu (QN (Q0 rfl rfl (XH z)) rfl) ?_;by_cases z:kd=4;·exact⟨.brk,Zj (Qr (Q0 rfl rfl (XJ z)) (ret rfl)),trivial⟩
 refine Yu (QN (Q0 rfl rfl (XH z)) rfl) ?_;by_cases z:kd<7;·exact⟨.it (.mark (Ze k)),Zj (Qr (Q0 rfl rfl (HM z)) (ret rfl)),rfl⟩
 refine Yu (QN (Q0 rfl rfl (HL z)) rfl) ?_;by_cases z:kd=7
 ·have q0:0<=n/97%80/\n/97%80<80:=by omega
  have mw:D.mulA (.str wd) (.int 9)=QP (YC wd 9):=HR ⟨by decide,by decide,lB (by show wd.length*9<=_;omega)⟩;have ml:(YC wd 9).length=9*wd.length:=HS wd 9;have ch:=Eu (YC wd 9) (1+n/97%80) (by omega);have mc:=ND (x:=YC wd 9) (lB (by omega)) none (some (1+n/97%80));exact⟨.it (.key (V8 (YC wd 9) none (some (1+n/97%80)))),Zj (Qr (Q0 rfl rfl (XJ z)) (ret (Ov rfl (SE (Q0 rfl rfl mw) rfl (Rp (Q0 rfl (Q0 (Q0 rfl rfl (Vw n (by decide))) rfl (Zg _ (by decide))) rfl)) mc)))),⟨by omega,by omega⟩⟩
 refine Yu (QN (Q0 rfl rfl (XH z)) rfl) ?_;by_cases z:kd<12
 ·obtain⟨m,em,lm⟩:=QdV (n/291) (show(0:Int)<3 by decide);obtain⟨w2,e2,l2⟩:∃tx,UC [.int (n/23),.int m,.int 0]=QP tx/\tx.length=m:=⟨_,GW (n/23) 0 m (by omega) (.inl rfl) (by omega),Mx _ _ _⟩;have q0:0<=n/97%3/\n/97%3<3:=by omega
  have ch:=Eu wd (n/97%3) (by omega);have mc:=ND hW none (some (n/97%3));exact⟨.it (.ref "" (V8 wd none (some (n/97%3))) w2),Zj (Qr (Q0 rfl rfl (HM z)) (ret (Ra rfl rfl (SE rfl rfl (Rp (Q0 (Q0 rfl rfl (Vw n (by decide))) rfl (Zg _ (by decide)))) mc) (Zk (Q0 rfl rfl (Vw n (by decide))) (Q0 (Q0 rfl rfl (Vw n (by decide))) rfl ((Zg _ (by decide)).trans (by rw[em]))) rfl e2)))),⟨rfl,by omega,by omega⟩⟩
 refine Yu (QN (Q0 rfl rfl (HL z)) rfl) ?_;by_cases z:kd=12
 ·refine⟨.it (.word wd ((List.range m).map λi:Nat=>V8 tx (some (0+(i:Int))) none)),Zj (Qr (Q0 rfl rfl (XJ z)) (ret (W8 rfl rfl ?_))),⟨by omega,by simp;omega,?_⟩⟩
  ·rw[Yh (g:=gS 0) (n:=1) (caps:=[6]) (λi:Nat=>D.int (0+(i:Int))) (List.range m) (λe=>∃v,e=[v,QP tx]) (λ_=>true) (λi:Nat=>.str (V8 tx (some (0+(i:Int))) none)) (by show D.rng (.int mn)=_;rw[em];exact Ms m (by omega)) (lB (by simp;omega)) ⟨none,rfl⟩ (by rintro i hi e⟨v,rfl⟩;exact⟨[Q1 (0+(i:Int)),QP tx],rfl,⟨_,rfl⟩,rfl,λ_=>SE rfl (Rp rfl) rfl (ND hS _ _)⟩)];rw[XM];unfold QM;rw[W5];rfl
  ·intro r hr;obtain⟨i,_,rfl⟩:=q_20.mp hr;exact ZP (Ew _ _ _) (by omega)
 refine Yu (QN (Q0 rfl rfl (XH z)) rfl) ?_;exact⟨.it (.word wd []),ret rfl,⟨by omega,by simp,λr hr=>by cases hr⟩⟩
theorem UZ{α:Type}{f:α->D}{n:Nat}(h:∀a,(f a).dep<=n):∀xs:List α,D.depL (xs.map f)<=n|[]=>by rw[map_nil,Vd];exact WV _|x::xs=>by rw[ZQ,Yq];exact Nat.max_le.mpr ⟨h x,UZ h xs⟩
def DA(xs:List Str):(QM xs).dep<=1:=by unfold QM;rw[VA];exact succ_le_succ (UZ (λa=>by rw[Zu];exact WV _) xs)
def D9(i:It):i.d.dep<=2:=by cases i with|word w ns=>have:=DA ns;simp only[It.d,Vv,Yq,Vd,Zu];omega|_=>simp[Vv,Yq,Vd,Zu]
def QdB(is:List It):(D.lst (is.map It.d)).dep<=3:=by rw[VA];exact succ_le_succ (UZ D9 is)
def D7(b:Bk):b.d.dep<=4:=by cases b with|para is=>have:=QdB is;simp only[Bk.d,Vv,Yq,Vd,Zu];omega|table rs l=>have:=DA rs;simp only[Bk.d,Vv,Yq,Vd,Zu];omega|_=>simp[Vv,Yq,Vd,Zu,Z5]
def D8(bs:List Bk):(Q7 bs).dep<=5:=by unfold Q7;rw[VA];exact succ_le_succ (UZ D7 bs)
def DW(x:D)(xs:List D):D.eqL (x::xs) []=some false:=by rw[D.eqL];all_goals simp
def QdY{α:Type}{f:α->D}{n:Nat}(h:∀a,(f a).dep<=n)(hn:n<=39)(xs:List α):D.eqO (.lst (xs.map f)) (.lst [])=QL xs.isEmpty:=by unfold D.eqO;rw[if_pos (by rw[VA];have:=UZ h xs;omega),Ws];cases xs with|nil=>rw[map_nil,WJ];rfl|cons x xs=>rw[ZQ,DW];rfl
def BB{α:Type}{f:α->D}{n:Nat}(h:∀a,(f a).dep<=n)(hn:n<=39)(xs:List α):D.neO (.lst (xs.map f)) (.lst [])=QL (!xs.isEmpty):=by unfold D.neO;rw[if_pos (by rw[VA];have:=UZ h xs;omega),Ws];cases xs with|nil=>rw[map_nil,WJ];rfl|cons x xs=>rw[ZQ,DW];rfl
def WA{α:Type}{f:α->D}{xs:List α}(x:α)(h:xs.length<lI):D.app (.lst (xs.map f)) (f x)=QB ((xs++[x]).map f):=by show(if(xs.map f).length<lI then some (D.lst (xs.map f++[f x]))else none)=_;rw[if_pos (by rw[Qm];exact h),Zr];rfl
def QeT(l:List D)(x:D):D.ix (.lst (l++[x])) (.int (-1))=some x:=by
 show(Jh (l++[x]).length (-1)).bind (λk=>(l++[x])[k]?)=_;have:Jh (l++[x]).length (-1)=some l.length:=by
  unfold Jh;rw[if_neg (by decide),if_pos (by simp only[Qg,JM,WU];omega),Qg];congr 1;show((-1:Int)+((l.length+1:Nat):Int)).toNat=_;omega
 rw[this];show(l++[x])[l.length]?=_;simp
theorem PF{α:Type}(f:α->D):∀(xs:List α)(n:Nat),WI n (xs.map f)=(xs.zipIdx n).map λp=>D.tup [.int p.2,f p.1]|[],n=>rfl|x::xs,n=>by show D.tup [.int n,f x]::WI (n+1) (xs.map f)=_;rw[PF f xs (n+1),List.zipIdx_cons,ZQ]
def Zx{a:Nat}(h:a<=1000000):a<lI:=lt_of_le_of_lt h (by decide)
noncomputable def ZN:At->List Str|.it (.mark l)=>[l]|.bk (.chapter _ l)=>if l=""then[]else[l]|.bk (.heading _ _ l)=>if l=""then[]else[l]|.bk (.table _ l)=>if l=""then[]else[l]|.bk (.plates _ l)=>if l=""then[]else[l]|_=>[]
def Qfg(a:At):(ZN a).length<=1:=by unfold ZN;split<;>first|(split<;>simp)|simp
def YA(as:List At):List Str:=as.flatMap ZN
def Cj(as:List At):(YA as).length<=as.length:=by induction as with|nil=>exact Qx _|cons a as ih=>show((a::as).flatMap ZN).length<=_;rw[Zi,Qg,JM];have:=Qfg a;have:(as.flatMap ZN).length<=as.length:=ih;omega
def Qfj(as:List At)(i:Nat)(hi:i<as.length):YA (as.take (i+1))=YA (as.take i)++ZN as[i]:=by unfold YA;rw[Xv hi,YI];simp
def pt(ls:List Str)(cs:List Int)(i:Nat):At->At|.it (.ref l a b)=>if ls=[]then .it (.word "lost" [])else .it (.ref (ls.getD (ZU (cs.getD i 0) (i+90)%ls.length).toNat "") a b)|a=>a
def ZV(cs:List Int)(as:List At):List At:=as.mapIdx λi a=>pt (YA as) cs i a
noncomputable def XW:At->Prop|.bk (.para _)=>False|.fin=>False|_=>True
def WO{α:Type}{f:α->D}(xs:List α)(i:Int)(d:α)(h:0<=i)(h':i<xs.length):D.ix (.lst (xs.map f)) (.int i)=some (f (xs.getD i.toNat d)):=by show(Jh (xs.map f).length i).bind (λk=>(xs.map f)[k]?)=_;unfold Jh;rw[if_pos h,if_pos (by rw[Qm];exact h')];show(xs.map f)[i.toNat]?=_;rw[Yb,YU,Qk (by omega)];rfl
def Qbx{xs:List Str}(x:Str)(h:xs.length<lI):D.app (QM xs) (.str x)=some (QM (xs++[x])):=WA (f:=D.str) x h
def Um(xs:List Str):D.len (QM xs)=Q1 xs.length:=by show some (D.int (xs.map D.str).length)=_;rw[Qm]
def QdZ(xs:List Str):D.eqO (QM xs) (.lst [])=QL xs.isEmpty:=QdY (f:=D.str) (n:=0) (λa=>by rw[Zu];exact Qx _) (by decide) xs
def QeW(xs:List Str)(i:Int)(h:0<=i)(h':i<xs.length):D.ix (QM xs) (.int i)=QP (xs.getD i.toNat ""):=WO (f:=D.str) xs i "" h h'
def Qip(as:List At)(cs:List Int)(hl:as.length=cs.length)(h58:as.length<=100)(hs:∀a∈as,XW a):NU [.lst (as.map At.d),.lst (cs.map .int)]=QB ((ZV cs as).map At.d):=by
 unfold NU KL;refine Qy rfl ?_;refine st (e1:=[QB (as.map At.d),QB (cs.map .int),some (QM []),none,none,none,none]) (by simp[sD,sQ,QC,QQ,QA,QK,gS,eV,eC,Q4,QE,Zw,JV,J8,QT,QS,eK,lN,lC,D.lt,D.sub,D.eqO,D.cmp,Jr,X4,UT,Z5,Zu,ZC,YS,Xq,QM]) ?_;refine Vn At.d as (λi e=>∃v,e=[QB (as.map At.d),QB (cs.map .int),some (QM (YA (as.take i))),v,none,none,none]) rfl ⟨none,rfl⟩ ?_ ?_
 ·rintro i hi e⟨v,rfl⟩;have hb:(YA (as.take i)).length<lI:=Zx (ZP (Cj _) (by rw[YG];omega));have ha:=hs as[i] (ZY hi);rw[Qfj as i hi];have ap:=λx=>Qbx x hb;generalize as[i]=a at*;generalize YA (as.take i)=ls at*;refine⟨_,.inl ?_,some a.d,rfl⟩;refine J6 rfl ?_;have neS:∀x y:Str,D.neO (.str x) (.str y)=QL (decide (x≠y)):=λx y=>by by_cases h:x=y<;>simp[D.neO,Zu,YS,D.cmpN,h]
  have iG:∀(d:D)(t l:Str),D.ix d (.int 0)=QP t->D.ix d (.int (-1))=QP l->t≠"mark"->D.notInO (.str t) (.lst [.str "break",.str "word",.str "key",.str "ref"])=QL true->QC (QG (Q2 3 0) (Q6 "mark")) (sP 2 (Q2 3 1)) (QC (JV (Q4 D.notInO (Q2 3 0) (QS (Z3 (Q6 "break") (Q6 "word") (Q6 "key") (Q6 "ref")))) (Yc (J7 (eV 3) (QE D.neg (Q5 1))) (Q6 ""))) (sP 2 (J7 (eV 3) (QE D.neg (Q5 1)))) (QK)) [QB (as.map At.d),QB (cs.map .int),some (QM ls),some d,none,none,none]=some (.nx [QB (as.map At.d),QB (cs.map .int),some (QM (ls++if l=""then[]else[l])),some d,none,none,none]):=by
   intro d t l h0 h1 hm h4;refine QN (Q0 (Q0 rfl rfl h0) rfl (by rw[QO,JF hm])) ?_;by_cases z:l="";·rw[if_pos z,Zp];exact QN (Za (Q0 (Q0 rfl rfl h0) rfl h4) (Q0 (Q0 rfl (JO rfl rfl) h1) rfl (by rw[neS,JF (λq=>q z)]))) rfl
   ·rw[if_neg z];exact Qr (Za (Q0 (Q0 rfl rfl h0) rfl h4) (Q0 (Q0 rfl (JO rfl rfl) h1) rfl (by rw[neS,Jf z]))) (Zt rfl (Q0 rfl (JO rfl rfl) h1) (ap l))
  have gW:∀(d:D)(t:Str),D.ix d (.int 0)=QP t->t≠"mark"->D.notInO (.str t) (.lst [.str "break",.str "word",.str "key",.str "ref"])=QL false->QC (QG (Q2 3 0) (Q6 "mark")) (sP 2 (Q2 3 1)) (QC (JV (Q4 D.notInO (Q2 3 0) (QS (Z3 (Q6 "break") (Q6 "word") (Q6 "key") (Q6 "ref")))) (Yc (J7 (eV 3) (QE D.neg (Q5 1))) (Q6 ""))) (sP 2 (J7 (eV 3) (QE D.neg (Q5 1)))) (QK)) [QB (as.map At.d),QB (cs.map .int),some (QM ls),some d,none,none,none]=some (.nx [QB (as.map At.d),QB (cs.map .int),some (QM (ls++[])),some d,none,none,none]):=by intro d t h0 hm h4;rw[Zp];exact QN (Q0 (Q0 rfl rfl h0) rfl (by rw[QO,JF hm])) (QN (Y6 (Q0 (Q0 rfl rfl h0) rfl h4)) rfl)
  cases a with
  |bk b=>cases b with
   |para is=>exact ha.elim|chapter t l=>exact iG _ "chapter" l rfl rfl (by simp) (by rfl)|heading t n l=>exact iG _ "heading" l rfl rfl (by simp) (by rfl)|table rs l=>exact iG _ "table" l rfl rfl (by simp) (by rfl)|plates n l=>exact iG _ "plates" l rfl rfl (by simp) (by rfl)
  |it x=>cases x with
   |mark l=>exact Qr (Q0 (Q0 (x:=(It.mark l).d) rfl rfl rfl) rfl (by rw[QO];simp)) (Zt rfl (Q0 (x:=(It.mark l).d) rfl rfl rfl) (ap l))|word w ns=>exact gW _ "word" rfl (by simp) (by rfl)|key w=>exact gW _ "key" rfl (by simp) (by rfl)|ref l a b=>exact gW _ "ref" rfl (by simp) (by rfl)
  |brk=>exact gW _ "break" rfl (by simp) (by rfl)|fin=>exact ha.elim
 ·rintro e⟨v,rfl⟩;rw[ZX];have hb:(YA as).length<=as.length:=Cj as;have jx:∀i(hi:i<as.length)(hp:i<(ZV cs as).length),(ZV cs as)[i]=pt (YA as) cs i as[i]:=by intro i hi hp;simp only[ZV,List.getElem_mapIdx]
  have jw:(ZV cs as).length=as.length:=by unfold ZV;simp
  generalize ZV cs as=ps at*;generalize YA as=ls at*;refine st (e1:=[QB (as.map At.d),QB (cs.map .int),some (QM ls),v,some (.lst []),none,none]) (by simp[sD,sQ,QC,QQ,QA,QK,gS,eV,eC,Q4,QE,Zw,JV,J8,QT,QS,eK,lN,lC,D.lt,D.sub,D.eqO,D.cmp,Jr,X4,UT,Z5,Zu,ZC,YS,Xq]) ?_;refine Vn (λp:At×Nat=>D.tup [.int p.2,p.1.d]) as.zipIdx (λi e=>∃v w x,e=[QB (as.map At.d),QB (cs.map .int),some (QM ls),v,QB ((ps.take i).map At.d),w,x]) (by show some (WI 0 (as.map At.d))=_;rw[PF]) ⟨v,none,none,rfl⟩ ?_ ?_
  ·rintro i hi e⟨v,w,x,rfl⟩;have hi':i<as.length:=by simpa using hi
   have kh:i<ps.length:=by omega
   have ei:as.zipIdx[i]=(as[i],i):=by simp
   rw[ei,Xv kh,jx i hi' kh];have ap:∀x:At,D.app (.lst ((ps.take i).map At.d)) x.d=QB ((ps.take i++[x]).map At.d):=λx=>WA x (Zx (by rw[YG];omega));have mx:∃m:Int,ZU (cs.getD i 0) ((i:Int)+90)=m/\WK [.int (cs.getD i 0),.int ((i:Int)+90)]=Q1 m/\0<=m:=⟨_,rfl,Tf _ _ (by omega) (by omega),B3 _ _⟩;have cx:D.ix (.lst (cs.map .int)) (.int i)=Q1 (cs.getD i 0):=WO (f:=D.int) cs i 0 (by omega) (by omega);have ha:=hs as[i] (ZY hi');obtain⟨m,em,mm,m0⟩:=mx;have hp:∀l a b,pt ls cs i (.it (.ref l a b))=if ls=[]then .it (.word "lost" [])else .it (.ref (ls.getD (m%ls.length).toNat "") a b):=by intro l a b;rw[<-em];rfl
   have i90:(i:Int)+90=(i:Int)+90:=rfl;generalize hq:pt ls cs i as[i]=q;generalize as[i]=a at*;generalize cs.getD i 0=c at*;generalize ps.take i=qs at*;obtain⟨j,ej⟩:∃j:Int,(i:Int)=j:=⟨_,rfl⟩;rw[ej]at mm cx;simp only[];rw[ej];have oth:∀(d z:D)(t:Str),D.ix d (.int 0)=QP t->t≠"ref"->D.app (.lst (qs.map At.d)) d=some z->QC (JV (QG (Q2 3 0) (Q6 "ref")) (QG (eV 2) (QS (lN)))) (sP 4 (QT (Qu (Q6 "word") (Q6 "lost") (QS (lN))))) (QC (QG (Q2 3 0) (Q6 "ref")) (sQ (QA (J7 (eV 2) (Js (eK WK (Qc (J7 (eV 1) (eV 5)) (QJ (eV 5) (Q5 90)))) (QE D.len (eV 2)))) (gS 6)) (sP 4 (QT (Z3 (Q6 "ref") (eV 6) (Q2 3 2) (Q2 3 3))))) (sP 4 (eV 3))) [QB (as.map At.d),QB (cs.map .int),some (QM ls),some d,QB (qs.map At.d),Q1 j,x]=some (.nx [QB (as.map At.d),QB (cs.map .int),some (QM ls),some d,some z,Q1 j,x]):=by
    intro d z t h0 hm hz;exact QN (Y6 (Q0 (Q0 rfl rfl h0) rfl (by rw[QO,JF hm]))) (QN (Q0 (Q0 rfl rfl h0) rfl (by rw[QO,JF hm])) (Zt rfl rfl hz))
   cases a with
   |it y=>cases y with
    |ref l a b=>
     have es:D.eqO (.str (Str.ofString "ref")) (.str (Str.ofString "ref"))=QL true:=by rw[QO];simp
     have t0:D.ix (It.ref l a b).d (.int 0)=QP "ref":=rfl;have eq:=QdZ ls;rw[hp]at hq;cases ls with
     |nil=>rw[if_pos rfl]at hq;subst hq;exact⟨_,.inl (J6 rfl (Qr (Za (Q0 (Q0 rfl rfl t0) rfl es) (Q0 rfl rfl eq)) (Zt rfl rfl (ap (.it (.word "lost" [])))))),some (It.ref l a b).d,Q1 j,x,rfl⟩|cons l0 ls=>
      rw[if_neg (by simp)]at hq;subst hq;have hn:(0:Int)<((l0::ls).length:Int):=by simp only[JM];omega
      have md:D.mod (.int m) (.int ((l0::ls).length:Int))=Q1 (m%((l0::ls).length:Int)):=Xp hn;have iP:=QeW (l0::ls) (m%((l0::ls).length:Int)) (XR _ (by omega)) (Xu _ hn);have ln:=Um (l0::ls);have ni:=ap (.it (.ref ((l0::ls).getD (m%((l0::ls).length:Int)).toNat "") a b));generalize(l0::ls).getD (m%((l0::ls).length:Int)).toNat ""=lx at*;generalize m%((l0::ls).length:Int)=mi at*;generalize((l0::ls).length:Int)=ll at*;have ie:(l0::ls).isEmpty=false:=rfl;rw[ie]at eq;generalize QM (l0::ls)=LS at*;refine⟨_,.inl ?_,some (It.ref l a b).d,Q1 j,QP lx,rfl⟩;refine J6 rfl ?_;refine QN (Za (Q0 (Q0 rfl rfl t0) rfl es) (Q0 rfl rfl eq)) (Qr (Q0 (Q0 rfl rfl t0) rfl es) ?_);refine st (e1:=[QB (as.map At.d),QB (cs.map .int),some LS,some (It.ref l a b).d,QB (qs.map At.d),Q1 j,QP lx]) (Qf (Q0 rfl (Q0 (Z0 (Q0 rfl rfl cx) (Q0 rfl rfl rfl) mm) (JO rfl ln) md) iP) rfl) ?_;exact Zt rfl (Ra rfl rfl (Q0 (x:=(It.ref l a b).d) rfl rfl rfl) (Q0 (x:=(It.ref l a b).d) rfl rfl rfl)) ni
    |word w ns=>subst hq;exact⟨_,.inl (J6 rfl (oth _ _ "word" rfl (by simp) (ap (.it (.word w ns))))),some (It.word w ns).d,Q1 j,x,rfl⟩|mark l=>subst hq;exact⟨_,.inl (J6 rfl (oth _ _ "mark" rfl (by simp) (ap (.it (.mark l))))),some (It.mark l).d,Q1 j,x,rfl⟩|key l=>subst hq;exact⟨_,.inl (J6 rfl (oth _ _ "key" rfl (by simp) (ap (.it (.key l))))),some (It.key l).d,Q1 j,x,rfl⟩
   |bk b=>have iX:q=.bk b:=hq.symm;subst iX;refine⟨_,.inl (J6 rfl ?_),some b.d,Q1 j,x,rfl⟩;cases b with|para is=>exact ha.elim|chapter t l=>exact oth _ _ "chapter" rfl (by simp) (ap (.bk (.chapter t l)))|heading t k l=>exact oth _ _ "heading" rfl (by simp) (ap (.bk (.heading t k l)))|table t l=>exact oth _ _ "table" rfl (by simp) (ap (.bk (.table t l)))|plates t l=>exact oth _ _ "plates" rfl (by simp) (ap (.bk (.plates t l)))
   |brk=>have iX:q=.brk:=hq.symm;subst iX;exact⟨_,.inl (J6 rfl (oth _ _ "break" rfl (by simp) (ap .brk))),some At.brk.d,Q1 j,x,rfl⟩|fin=>exact ha.elim
  ·rintro e⟨v,w,x,rfl⟩;have:as.zipIdx.length=ps.length:=by simp[jw]
   rw[this,ZX];exact ret rfl
noncomputable def isMK:It->Bool|.mark _=>true|.key _=>true|_=>false
def Qw(row:List It):List It:=match row.getLast? with|some x=>if isMK x then row++[.word "end" []]else row|none=>row
def Z6:List Bk×List It->At->List Bk×List It|(bs,row),.it i=>(bs,row++[i])|(bs,row),.bk b=>((if Qw row=[]then bs else bs++[.para (Qw row)])++[b],[])|(bs,row),.brk=>(bs++[.para (Qw row)],[])|(bs,row),.fin=>(if Qw row=[]then bs else bs++[.para (Qw row)],[])
def VM(as:List At):List Bk×List It:=as.foldl Z6 ([],[])
def QbZ(row:List It):(Qw row).length<=row.length+1:=by
 unfold Qw;split
 ·split;·simp
  ·omega
 ·omega
def CC(as:List At):∀s:List Bk×List It,(as.foldl Z6 s).1.length<=s.1.length+2*as.length/\(as.foldl Z6 s).2.length<=s.2.length+as.length:=by induction as with|nil=>intro s;simp|cons a as ih=>
  intro s;obtain⟨h1,h2⟩:=ih (Z6 s a);rw[Zq,JM];have:(Z6 s a).1.length<=s.1.length+2/\(Z6 s a).2.length<=s.2.length+1:=by
   obtain⟨bs,row⟩:=s;cases a with
   |it i=>simp[Z6]|bk b=>simp only[Z6];split<;>simp|brk=>simp[Z6]|fin=>simp only[Z6];split<;>simp
  omega
def Qeq(as:List At)(i:Nat)(hi:i<as.length):VM (as.take (i+1))=Z6 (VM (as.take i)) as[i]:=by unfold VM;rw[Xv hi,Ts];rfl
def A6(row:List It):row=[]\/∃r x,row=r++[x]:=by
 rcases List.eq_nil_or_concat row with h|⟨r,x,h⟩;·exact .inl h
 ·exact .inr ⟨r,x,by rw[h,List.concat_eq_append]⟩
def BA(is:List It):D.neO (.lst (is.map It.d)) (.lst [])=QL (!is.isEmpty):=BB D9 (by decide) is
def K1{is:List It}(x:It)(h:is.length<lI):D.app (.lst (is.map It.d)) x.d=QB ((is++[x]).map It.d):=WA x h
def K0{is:List Bk}(x:Bk)(h:is.length<lI):D.app (Q7 is) x.d=some (Q7 (is++[x])):=WA (f:=Bk.d) x h
theorem HC(x:Str):∀ys:List Str,inD (.str x) (ys.map .str)=ys.any λy=>some (decide (y=x))==some true|[]=>rfl|y::ys=>by show(D.eq (.str y) (.str x)==some true||inD (.str x) (ys.map .str))=_;rw[HC x ys,YS];rfl
theorem Ir:∀ys:List Str,(ys.map D.str).all Y9=true|[]=>rfl|y::ys=>Ir ys
def Pt(x:Str)(ys:List Str)(b:Bool)(h:ys.any λy=>some (decide (y=x))==some true=b):D.inO (.str x) (.lst (ys.map .str))=QL b:=by show(if Y9 (.str x)=true/\(ys.map D.str).all Y9=true then some (D.bl (inD (.str x) (ys.map .str)))else none)=_;rw[if_pos ⟨rfl,Ir ys⟩,HC,h]
def HZ(x:Str)(ys:List Str)(b:Bool)(h:(!ys.any λy=>(some (decide (y=x))==some true))=b):D.notInO (.str x) (.lst (ys.map .str))=QL b:=by show(if Y9 (.str x)=true/\(ys.map D.str).all Y9=true then some (D.bl (!inD (.str x) (ys.map .str)))else none)=_;rw[if_pos ⟨rfl,Ir ys⟩,HC,h]
noncomputable abbrev L4:List Str:=[Str.ofString "mark",Str.ofString "key",Str.ofString "ref",Str.ofString "word"]
noncomputable abbrev Ld:List Str:=[Str.ofString "break",Str.ofString "end"]
def IV(A:Option D)(bs:Option D)(row:List It)(h:row.length<lI)(d:D):(QC (JV (Yc (eV 2) (QS lN)) (Q4 D.inO (ZZ (J7 (eV 2) (QE D.neg (Q5 1))) 0) (QS (Qc (Q6 "mark") (Q6 "key"))))) (sP 2 (QT (Qu (Q6 "word") (Q6 "end") (QS lN)))) QK) [A,bs,QB (row.map It.d),some d]=some (.nx [A,bs,QB ((Qw row).map It.d),some d]):=by
 have ne:=BA row;have ap:=K1 (.word "end" []) h;simp only[It.d,QM,map_nil]at ap;rcases A6 row with z|⟨r,x,z⟩
 ·subst z;simp only[map_nil]at ne;exact QN (Y6 (Q0 rfl rfl ne)) rfl
 ·have il:D.ix (.lst (row.map It.d)) (.int (-1))=some x.d:=by rw[z,Zr];exact QeT _ _
  have ie:row.isEmpty=false:=by rw[z];simp
  have cl:Qw row=if isMK x then row++[.word "end" []]else row:=by unfold Qw;rw[z];simp
  rw[ie]at ne;rw[cl];have i0:∃t:Str,D.ix x.d (.int 0)=QP t/\D.inO (.str t) (.lst [.str (Str.ofString "mark"),.str (Str.ofString "key")])=QL (isMK x):=by cases x<;>exact⟨_,rfl,Pt _ [Str.ofString "mark",Str.ofString "key"] _ rfl⟩
  obtain⟨t,i0,i1⟩:=i0;generalize row++[It.word "end" []]=jt at*;generalize It.d x=X at*;cases q:isMK x with
  |true=>
   rw[q]at i1;rw[if_pos rfl];generalize jt.map It.d=R2 at*;generalize row.map It.d=R at*;exact Qr (Za (Q0 rfl rfl ne) (Q0 (Q0 (Q0 rfl rfl il) rfl i0) rfl i1)) (Zt rfl rfl ap)|false=>rw[q]at i1;rw[if_neg (by decide)];generalize row.map It.d=R at*;exact QN (Za (Q0 rfl rfl ne) (Q0 (Q0 (Q0 rfl rfl il) rfl i0) rfl i1)) rfl
def Hj(A:D)(bs:List Bk)(row:List It)(h:bs.length<lI)(d:D)(t:Str)(ht:D.ix d (.int 0)=QP t):(QC (J8 (Yc (eV 2) (QS lN)) (QG (Q2 3 0) (Q6 "break"))) (sP 1 (QT (Qc (Q6 "para") (eV 2)))) QK) [some A,some (Q7 bs),QB (row.map It.d),some d]=some (.nx [some A,some (Q7 (if row=[]/\t≠"break"then bs else bs++[.para row])),QB (row.map It.d),some d]):=by
 have ne:=BA row;have ap:=K0 (.para row) h;simp only[Bk.d]at ap;have eb:D.eqO (.str t) (.str (Str.ofString "break"))=QL (decide (t=Str.ofString "break")):=by simp[D.eqO,Zu,YS,D.cmp]
 cases q:row.isEmpty with
 |true=>
  have z:row=[]:=List.isEmpty_iff.mp q;rw[q]at ne;subst z;simp only[map_nil]at ne ap;by_cases w:t=Str.ofString "break"
  ·rw[if_neg (by simp[w])];rw[w]at eb ht;generalize Q7 bs=B at*;generalize Q7 (bs++_)=B2 at*;exact Qr (VV (Q0 rfl rfl ne) (Q0 (Q0 rfl rfl ht) rfl (by rw[eb];simp))) (Zt rfl rfl ap)
  ·rw[if_pos ⟨rfl,w⟩];exact QN (VV (Q0 rfl rfl ne) (Q0 (Q0 rfl rfl ht) rfl (by rw[eb,JF w]))) rfl|false=>
  have z:row≠[]:=λz=>by rw[z]at q;cases q
  rw[q]at ne;rw[if_neg (by simp[z])];generalize Q7 bs=B at*;generalize Q7 (bs++_)=B2 at*;generalize row.map It.d=R at*;exact Qr (R1 (Q0 rfl rfl ne)) (Zt rfl rfl ap)
def Qeo(as:List At)(nB:as.length<=100)(hs:∀a∈as,XW a):TY [.lst (as.map At.d)]=some (Q7 (VM (as++[.fin])).1):=by
 have key:∀xs:List At,xs.length<=101->(∀a∈xs,XW a\/a=.fin)->D.add (.lst (as.map At.d)) (.lst [At.fin.d])=some (.lst (xs.map At.d))->TY [.lst (as.map At.d)]=some (Q7 (VM xs).1):=by
  intro xs hx ha gF;unfold TY KC;refine Qy rfl ?_;refine st (e1:=[some (.lst (as.map At.d)),some (Q7 []),none,none]) rfl ?_;refine st (e1:=[some (.lst (as.map At.d)),some (Q7 []),some (.lst []),none]) rfl ?_;refine Vn At.d xs (λi e=>∃v,e=[some (.lst (as.map At.d)),some (Q7 (VM (xs.take i)).1),some (.lst ((VM (xs.take i)).2.map It.d)),v]) ?_ ⟨none,rfl⟩ ?_ ?_
  ·simp only[At.d]at gF;simp[Ql,Q4,eV,QS,QT,lC,lN,eC,gF,D.its]
  ·rintro i hi e⟨v,rfl⟩;rw[Qeq xs i hi];have hl:=CC (xs.take i) ([],[]);have hb:(VM (xs.take i)).1.length<lI:=Zx (by have:=hl.1;unfold VM;simp at this;omega);have hr:(VM (xs.take i)).2.length<lI:=Zx (by have:=hl.2;unfold VM;simp at this;omega);have hJ:(VM (xs.take i)).1.length+1<lI:=Zx (by have:=hl.1;unfold VM;simp at this;omega);have hAt:=ha xs[i] (ZY hi);generalize xs[i]=a at*;generalize VM (xs.take i)=s at*;obtain⟨bs,row⟩:=s;generalize D.lst (as.map At.d)=AS at*;simp only[]at hb hr hJ⊢;cases a with
   |it x=>
    have ap:=K1 x hr;refine⟨[some AS,some (Q7 bs),some (.lst ((row++[x]).map It.d)),some x.d],.inr ?_,some x.d,rfl⟩;refine J6 (e1:=[some AS,some (Q7 bs),some (.lst (row.map It.d)),some x.d]) rfl ?_;have i0:∃t:Str,D.ix x.d (.int 0)=some (.str t)/\D.inO (.str t) (.lst [.str (Str.ofString "mark"),.str (Str.ofString "key"),.str (Str.ofString "ref"),.str (Str.ofString "word")])=some (.bl true):=by cases x<;>exact⟨_,rfl,Pt _ L4 _ rfl⟩
    obtain⟨t,i0,i1⟩:=i0;refine stC ?_;generalize It.d x=X at*;generalize(row++[x]).map It.d=R2 at*;generalize row.map It.d=R at*;exact Qr (Q0 (Q0 rfl rfl i0) rfl i1) (st (Zt rfl rfl ap) rfl)|bk b=>
    have i0:∃t:Str,D.ix b.d (.int 0)=some (.str t)/\D.inO (.str t) (.lst [.str (Str.ofString "mark"),.str (Str.ofString "key"),.str (Str.ofString "ref"),.str (Str.ofString "word")])=some (.bl false)/\D.notInO (.str t) (.lst [.str (Str.ofString "break"),.str (Str.ofString "end")])=some (.bl true)/\t≠Str.ofString "break":=by cases b<;>exact⟨_,rfl,Pt _ L4 _ rfl,HZ _ Ld _ rfl,by simp⟩
    obtain⟨t,i0,i1,i2,i3⟩:=i0;have pa:=Hj AS bs (Qw row) hb b.d t i0;have gs:Z6 (bs,row) (.bk b)=((if Qw row=[]/\t≠Str.ofString "break"then bs else bs++[.para (Qw row)])++[b],[]):=by
     show((if Qw row=[]then bs else bs++[.para (Qw row)])++[b],[])=_;by_cases w:Qw row=[];·rw[if_pos w,if_pos ⟨w,i3⟩]
     ·rw[if_neg w,if_neg (by simp[w])]
    rw[gs];have dm:(if Qw row=[]/\t≠Str.ofString "break"then bs else bs++[.para (Qw row)]).length<lI:=by
     split;·exact hb
     ·rw[Qg];exact hJ
    generalize(if Qw row=[]/\t≠Str.ofString "break"then bs else bs++[.para (Qw row)])=fj at*;have ap:=K0 b dm;refine⟨[some AS,some (Q7 (fj++[b])),some (.lst []),some b.d],.inl ?_,some b.d,rfl⟩;refine J6 (e1:=[some AS,some (Q7 bs),some (.lst (row.map It.d)),some b.d]) rfl ?_;refine st (e1:=[some AS,some (Q7 bs),some (.lst (row.map It.d)),some b.d]) ?_ ?_;·generalize Bk.d b=X at*;exact QN (Q0 (Q0 rfl rfl i0) rfl i1) rfl
    refine st (IV (some AS) (some (Q7 bs)) row hr b.d) ?_;refine st pa ?_;refine st (e1:=[some AS,some (Q7 fj),some (.lst []),some b.d]) rfl ?_;generalize Bk.d b=X at*;generalize Q7 fj=B at*;generalize Q7 (fj++_)=B2 at*;exact Qr (Q0 (Q0 rfl rfl i0) rfl i2) (Zt rfl rfl ap)|brk=>have pa:=Hj AS bs (Qw row) hb At.brk.d (Str.ofString "break") rfl;rw[if_neg (by simp)]at pa;refine⟨[some AS,some (Q7 (bs++[.para (Qw row)])),some (.lst []),some At.brk.d],.inl ?_,some At.brk.d,rfl⟩;refine J6 (e1:=[some AS,some (Q7 bs),some (.lst (row.map It.d)),some At.brk.d]) rfl ?_;refine st (e1:=[some AS,some (Q7 bs),some (.lst (row.map It.d)),some At.brk.d]) (QN (Q0 (Q0 rfl rfl rfl) rfl (Pt _ L4 false rfl)) rfl) ?_;refine st (IV (some AS) (some (Q7 bs)) row hr At.brk.d) ?_;refine st pa ?_;refine st (e1:=[some AS,some (Q7 (bs++[.para (Qw row)])),some (.lst []),some At.brk.d]) rfl ?_;exact QN (Q0 (Q0 rfl rfl rfl) rfl (HZ _ Ld false rfl)) rfl|fin=>
    have pa:=Hj AS bs (Qw row) hb At.fin.d (Str.ofString "end") rfl;have gs:Z6 (bs,row) .fin=((if Qw row=[]/\Str.ofString "end"≠Str.ofString "break"then bs else bs++[.para (Qw row)]),[]):=by
     show(if Qw row=[]then bs else bs++[.para (Qw row)],[])=_;by_cases w:Qw row=[];·rw[if_pos w,if_pos ⟨w,by simp⟩]
     ·rw[if_neg w,if_neg (by simp[w])]
    rw[gs];generalize(if Qw row=[]/\Str.ofString "end"≠Str.ofString "break"then bs else bs++[.para (Qw row)])=fj at*;refine⟨[some AS,some (Q7 fj),some (.lst []),some At.fin.d],.inl ?_,some At.fin.d,rfl⟩;refine J6 (e1:=[some AS,some (Q7 bs),some (.lst (row.map It.d)),some At.fin.d]) rfl ?_;refine st (e1:=[some AS,some (Q7 bs),some (.lst (row.map It.d)),some At.fin.d]) (QN (Q0 (Q0 rfl rfl rfl) rfl (Pt _ L4 false rfl)) rfl) ?_;refine st (IV (some AS) (some (Q7 bs)) row hr At.fin.d) ?_;refine st pa ?_;refine st (e1:=[some AS,some (Q7 fj),some (.lst []),some At.fin.d]) rfl ?_;exact QN (Q0 (Q0 rfl rfl rfl) rfl (HZ _ Ld false rfl)) rfl
  ·rintro e⟨v,rfl⟩;rw[ZX];exact ret rfl
 refine key (as++[.fin]) (by simp;omega) (λa h=>?_) ?_
 ·rcases q_7.mp h with z|z;·exact .inl (hs a z)
  ·exact .inr (by simpa using z)
 ·show(if(as.map At.d).length+1<=lI then _ else _)=_;rw[if_pos (ZP (by rw[Qm];omega) (show 101<=lI by decide)),Zr];rfl
noncomputable def ZT:It->Bool|.ref _ _ _=>true|_=>false
noncomputable def Y2:It->Bool|.word _ _=>true|_=>false
noncomputable def VD:Bk->Bool|.para _=>true|_=>false
noncomputable def Ot:It->Str|.word _ _=>"word"|.ref _ _ _=>"ref"|.mark _=>"mark"|.key _=>"key"
noncomputable def VH:Bk->Str|.chapter _ _=>"chapter"|.heading _ _ _=>"heading"|.para _=>"para"|.table _ _=>"table"|.plates _ _=>"plates"
def Uj(i:It):D.ix i.d (.int 0)=QP (Ot i):=by cases i<;>rfl
def Ui(i:Bk):D.ix i.d (.int 0)=QP (VH i):=by cases i<;>rfl
def L7(i:It):decide (Ot i=Str.ofString "ref")=ZT i:=by cases i<;>simp[Ot,ZT]
def L8(i:It):decide (Ot i=Str.ofString "word")=Y2 i:=by cases i<;>simp[Ot,Y2]
def Gi(i:Bk):decide (VH i=Str.ofString "para")=VD i:=by cases i<;>simp[VH,VD]
noncomputable def Cf:It->Str|.ref l _ _=>l|_=>""
def Qt(is:List It):List Str:=(is.filter ZT).map Cf
noncomputable def iO:Bk->List It|.para is=>is|_=>[]
def rO(bs:List Bk):List Str:=bs.flatMap λb=>Qt (iO b)
def Nt(b:Bk):WM [b.d]=QB ((iO b).map It.d):=by unfold WM Km;refine Qy rfl (ret ?_);unfold Vg;rw[show QG (Q2 0 0) (Q6 "para") (sD 1 [b.d])=QL (VD b)from Q0 (Q0 (x:=b.d) rfl rfl (Ui b)) rfl (by rw[QO,Gi])];cases b<;>rfl
def QiT{it:ZH}{e:QD}(is:List It)(hit:it e=some (is.map It.d))(hl:is.length<=lI):JB 1 [] it (gS 0) (QG (Q2 0 0) (Q6 "ref")) (Q2 0 1) e=some (QM (Qt is)):=by
 have:=Yh (g:=gS 0) (n:=1) (caps:=[]) (c:=QG (Q2 0 0) (Q6 "ref")) (el:=Q2 0 1) It.d is (λe=>∃v,e=[v]) ZT (λi=>.str (Cf i)) hit hl ⟨none,rfl⟩ (by
  rintro i _ e⟨v,rfl⟩;refine⟨[some i.d],rfl,⟨_,rfl⟩,?_,λh=>?_⟩
  ·have h1:=Uj i;have h2:=L7 i;generalize It.d i=X at*;simp[Q4,eV,eC,h1,QO,h2]
  ·cases i with
   |ref l a b=>rfl|_=>cases h);rw[this];unfold QM Qt;rw[W5];rfl
def fT{α β:Type}(f:α->List β)(xs:List α)(i:Nat)(hi:i<xs.length):(xs.take (i+1)).flatMap f=(xs.take i).flatMap f++f xs[i]:=by rw[Xv hi,YI];simp
def Sj{α β:Type}(f:α->List β)(xs:List α)(i:Nat):((xs.take i).flatMap f).length<=(xs.flatMap f).length:=by
 conv=>rhs;rw[<-RE i xs,YI,Qg]
 omega
def Qd4{α:Type}{f:α->D}{xs ys:List α}(h:xs.length+ys.length<=lI):D.ext (.lst (xs.map f)) (.lst (ys.map f))=QB ((xs++ys).map f):=by show(if(xs.map f).length+(ys.map f).length<=lI then some (D.lst (xs.map f++ys.map f))else none)=_;rw[if_pos (by rw[Qm,Qm];exact h),Zr]
def S3{α:Type}{f:α->D}{xs ys:List α}(h:xs.length+ys.length<=lI):D.add (.lst (xs.map f)) (.lst (ys.map f))=QB ((xs++ys).map f):=by show(if(xs.map f).length+(ys.map f).length<=lI then some (D.lst (xs.map f++ys.map f))else none)=_;rw[if_pos (by rw[Qm,Qm];exact h),Zr]
def YM(bs:List Bk):Prop:=bs.length<=100000/\(bs.flatMap iO).length<=100000
def QiU(is:List It):(Qt is).length<=is.length:=by unfold Qt;rw[Qm];exact Ut _ _
def G3(bs:List Bk):(rO bs).length<=(bs.flatMap iO).length:=by induction bs with|nil=>exact Qx _|cons b bs ih=>have:=QiU (iO b);have ih':(bs.flatMap λb=>Qt (iO b)).length<=(bs.flatMap iO).length:=ih;show((b::bs).flatMap λb=>Qt (iO b)).length<=_;rw[Zi,Zi,Qg,Qg];omega
def Wv{bs:List Bk}(h:YM bs)(b:Bk)(hb:b∈bs):(iO b).length<=100000:=by refine ZP ?_ h.2;obtain⟨s,t,rfl⟩:=List.append_of_mem hb;rw[YI,Zi];simp only[Qg];omega
def Mr(bs:List Bk)(h:YM bs):VL [Q7 bs]=some (QM (rO bs)):=by
 have hr:=G3 bs;unfold VL IE;refine Qy rfl ?_;refine st (e1:=[some (Q7 bs),some (QM []),none]) rfl ?_;refine Vn Bk.d bs (λi e=>∃v,e=[some (Q7 bs),some (QM (rO (bs.take i))),v]) rfl ⟨none,rfl⟩ ?_ ?_
 ·rintro i hi e⟨v,rfl⟩;have t1:rO (bs.take (i+1))=rO (bs.take i)++Qt (iO bs[i]):=fT _ bs i hi;have t2:=Sj (λb=>Qt (iO b)) bs (i+1);have t3:(rO (bs.take (i+1))).length<=(rO bs).length:=t2;rw[t1,Qg]at t3;rw[t1];refine⟨[some (Q7 bs),some (QM (rO (bs.take i)++Qt (iO bs[i]))),some bs[i].d],.inl ?_,_,rfl⟩;refine J6 (e1:=[some (Q7 bs),some (QM (rO (bs.take i))),some bs[i].d]) rfl ?_;have hc:=QiT (it:=Ql (eK WM (QZ (eV 2)))) (e:=[some (Q7 bs),some (QM (rO (bs.take i))),some bs[i].d]) (iO bs[i]) (by show((WM [bs[i].d]).bind λd=>D.its d)=_;rw[Nt];rfl) (lB (ZP (Wv h bs[i] (ZY hi)) (by decide)));have hx:D.ext (QM (rO (bs.take i))) (QM (Qt (iO bs[i])))=some (QM (rO (bs.take i)++Qt (iO bs[i]))):=Qd4 (f:=D.str) (lB (by have:=h.2;omega));generalize QM (rO (bs.take i)++Qt (iO bs[i]))=Z at*;generalize QM (Qt (iO bs[i]))=Y at*;generalize QM (rO (bs.take i))=X at*;simp only[G6,hc];simp[eV,hx]
 ·rintro e⟨v,rfl⟩;rw[ZX];exact ret rfl
def Cs(xs:List Str):D.listOf (QM xs)=some (QM xs):=rfl
def Qb7(bs:Option D)(fo:Option D)(b:D)(is:List It)(hit:D.ix b (.int 1)=QB (is.map It.d))(hl:is.length<=100000)(v:Option D):∃v',Qz (Ql (Q2 2 1)) (gS 4) (QC (QG (Q2 4 0) (Q6 "word")) (sP 3 (QT (Qu (Q6 "word") (Q2 4 1) (QE D.listOf (Q2 4 2))))) (sP 3 (eV 4))) [bs,fo,some b,some (.lst []),v]=some (.nx [bs,fo,some b,QB (is.map It.d),v']):=by
 obtain⟨e',h1,v',h2⟩:=Xn (g:=gS 4) (b:=QC (QG (Q2 4 0) (Q6 "word")) (sP 3 (QT (Qu (Q6 "word") (Q2 4 1) (QE D.listOf (Q2 4 2))))) (sP 3 (eV 4))) It.d is (λi e=>∃v,e=[bs,fo,some b,QB ((is.take i).map It.d),v]) (by
  rintro i hi e⟨v,rfl⟩;have ap:D.app (.lst ((is.take i).map It.d)) is[i].d=QB ((is.take (i+1)).map It.d):=by rw[Xv hi];exact K1 _ (Zx (by rw[YG];omega))
  generalize is[i]=x at*;generalize(is.take (i+1)).map It.d=Z at*;generalize(is.take i).map It.d=Y at*;refine⟨[bs,fo,some b,QB Z,some x.d],.inl ?_,_,rfl⟩;refine J6 rfl ?_;cases x with|word w ns=>have ls:=Cs ns;simp only[It.d]at ap⊢;generalize QM ns=N at*;simp[QC,Q4,eV,eC,D.ix,Jh,QO,Jr,sP,QT,lC,lN,QE,ls,ap]|_=>simp only[It.d]at ap;simp[QC,Q4,eV,eC,D.ix,Jh,QO,Jr,sP,ap]) [bs,fo,some b,some (.lst []),v] ⟨v,rfl⟩;subst h2;rw[ZX]at h1;refine⟨v',?_⟩;simp only[Qz,Ql,Q4,eV,eC,X1,W4,X2,ZA,hit,D.its];exact h1
def Qb8(bs:List Bk)(h:YM bs):PJ [Q7 bs]=some (Q7 bs):=by
 unfold PJ K8;refine Qy rfl ?_;refine st (e1:=[some (Q7 bs),some (Q7 []),none,none,none]) rfl ?_;refine Vn Bk.d bs (λi e=>∃u v w,e=[some (Q7 bs),some (Q7 (bs.take i)),u,v,w]) rfl ⟨none,none,none,rfl⟩ ?_ ?_
 ·rintro i hi e⟨u,v,w,rfl⟩;have ap:D.app (Q7 (bs.take i)) bs[i].d=some (Q7 (bs.take (i+1))):=by rw[Xv hi];exact K0 _ (Zx (by rw[YG];have:=h.1;omega))
  have hl:=Wv h bs[i] (ZY hi);generalize bs[i]=x at*;generalize Q7 (bs.take (i+1))=Z at*;generalize Q7 (bs.take i)=Y at*;generalize Q7 bs=B at*;cases x with
  |para is=>
   obtain⟨w',hc⟩:=Qb7 (some B) (some Y) (Bk.para is).d is rfl hl w;refine⟨[some B,some Z,some (Bk.para is).d,QB (is.map It.d),w'],.inl ?_,_,_,_,rfl⟩;refine J6 (e1:=[some B,some Y,some (Bk.para is).d,v,w]) rfl ?_;have c:QG (Q2 2 0) (Q6 "para") [some B,some Y,some (Bk.para is).d,v,w]=QL true:=by simp[Q4,eV,eC,D.ix,Jh,QO]
   unfold QC;rw[c,Jr,if_pos rfl];refine st (e1:=[some B,some Y,some (Bk.para is).d,some (.lst []),w]) rfl ?_;refine st hc ?_;simp only[Bk.d]at ap;simp[sP,eV,QT,lC,lN,eC,ap]|table rs l=>refine⟨[some B,some Z,some (Bk.table rs l).d,v,w],.inl ?_,_,_,_,rfl⟩;refine J6 (e1:=[some B,some Y,some (Bk.table rs l).d,v,w]) rfl ?_;have ls:=Cs rs;simp only[Bk.d]at ap⊢;generalize QM rs=N at*;simp[QC,Q4,eV,eC,D.ix,Jh,QO,Jr,sP,QT,lC,lN,QE,ls,ap]|chapter t l=>refine⟨[some B,some Z,some (Bk.chapter t l).d,v,w],.inl ?_,_,_,_,rfl⟩;simp only[Bk.d]at ap;simp[gS,QC,Q4,eV,eC,D.ix,Jh,QO,Jr,sP,ap]|heading t n l=>refine⟨[some B,some Z,some (Bk.heading t n l).d,v,w],.inl ?_,_,_,_,rfl⟩;simp only[Bk.d]at ap;simp[gS,QC,Q4,eV,eC,D.ix,Jh,QO,Jr,sP,ap]|plates n l=>refine⟨[some B,some Z,some (Bk.plates n l).d,v,w],.inl ?_,_,_,_,rfl⟩;simp only[Bk.d]at ap;simp[gS,QC,Q4,eV,eC,D.ix,Jh,QO,Jr,sP,ap]
 ·rintro e⟨u,v,w,rfl⟩;rw[ZX];exact ret rfl
noncomputable def Vt:It->Prop|.word w ns=>(1<=w.length/\w.length<=40)/\ns.length<=30/\∀r∈ns,r.length<=40|.ref _ a b=>a.length<=2/\b.length<=2|.mark _=>True|.key w=>1<=w.length/\w.length<=80
def V6:Bk->Prop|.chapter t _=>1<=t.length/\t.length<=41|.heading t n _=>(1<=t.length/\t.length<=41)/\0<=n/\n<=29|.table rs _=>(1<=rs.length/\rs.length<=30)/\∀r∈rs,r.length<=40|.plates n _=>1<=n/\n<=10^39|.para is=>∀i∈is,Vt i
def Yw{x:Str}(h:x.length<=1000000):D.len (.str x)=Q1 x.length:=if_pos (lB h)
theorem HE:∀xs:List Int,intsOf (xs.map .int)=some xs|[]=>rfl|x::xs=>by show(intsOf (xs.map .int)).map (x::·)=_;rw[HE xs];rfl
def QfH(w:Int)(xs:List Int):D.maxL (.lst ((w::xs).map .int))=Q1 (Jp w xs):=by show(match intsOf ((w::xs).map .int)with|some (m::ns)=>some (D.int (Jp m ns))|_=>none)=_;rw[HE]
noncomputable def Vj(rs:List Str):List Int:=rs.map λr=>(r.length:Int)
def Cq{it:ZH}{e:QD}(rs:List Str)(hit:it e=some (rs.map .str))(hl:rs.length<=1000000)(hr:∀r∈rs,r.length<=1000000):JB 1 [] it (gS 0) (JS true) (QE D.len (eV 0)) e=QB ((Vj rs).map .int):=by rw[Yh (g:=gS 0) (n:=1) (caps:=[]) (c:=JS true) (el:=QE D.len (eV 0)) D.str rs (λe=>∃v,e=[v]) (λ_=>true) (λr=>.int r.length) hit (lB hl) ⟨none,rfl⟩ (by rintro r ke e⟨v,rfl⟩;refine⟨[QP r],rfl,⟨_,rfl⟩,rfl,λ_=>?_⟩;simp[QE,eV,Yw (hr r ke)])];rw[XM];unfold Vj;rw[W5];rfl
def O4{a:Q8}{e:QD}{i:Nat}{w:Int}(xs:List Int)(hv:eV i e=Q1 w)(ha:a e=QB (xs.map .int))(hl:xs.length<=1000000):QE D.maxL (QJ (QS (QZ (eV i))) a) e=Q1 (Jp w xs):=by have h1:D.add (.lst [.int w]) (.lst (xs.map .int))=QB ((w::xs).map .int):=S3 (f:=D.int) (xs:=[w]) (ys:=xs) (Cr hl);have h2:=QfH w xs;generalize(w::xs).map D.int=Z at*;simp only[QE,Q4,QS,lC,lN,hv,ha,ZA,WX,h1,h2]
noncomputable def T3:It->Int|.word w _=>w.length|_=>0
noncomputable def Uu(af:Int):It->Int|.ref _ a b=>a.length+af+b.length|_=>0
noncomputable def BP:It->List Str|.word _ ns=>ns|_=>[]
def VT(is:List It):List (List Str):=(is.filter Y2).map BP
def YE(af w:Int):Bk->Int|.chapter t _=>if(t.length:Int)+2+af>w then(t.length:Int)+2+af else w|.heading t _ _=>if(t.length:Int)+2+af>w then(t.length:Int)+2+af else w|.table rs _=>Jp w (Vj rs)|.plates _ _=>w|.para is=>(VT is).foldl (λw ns=>Jp w (Vj ns)) (Jp (Jp w ((is.filter ZT).map (Uu af))) ((is.filter Y2).map T3))
def YD(h:Int):Bk->Int|.heading _ k _=>if k+1>h then k+1 else h|.table rs _=>if(rs.length:Int)>h then(rs.length:Int)else h|.para is=>Jp h ((VT is).map λns=>1+(ns.length:Int))|_=>h
def Qkk{it:ZH}{e:QD}(is:List It)(hit:it e=some (is.map It.d))(hl:is.length<=1000000)(hi:∀i∈is,Vt i):JB 1 [] it (gS 0) (QG (Q2 0 0) (Q6 "word")) (QE D.len (Q2 0 1)) e=QB (((is.filter Y2).map T3).map .int):=by
 rw[Yh (g:=gS 0) (n:=1) (caps:=[]) (c:=QG (Q2 0 0) (Q6 "word")) (el:=QE D.len (Q2 0 1)) It.d is (λe=>∃v,e=[v]) Y2 (λi=>.int (T3 i)) hit (lB hl) ⟨none,rfl⟩ (by
  rintro i hm e⟨v,rfl⟩;refine⟨[some i.d],rfl,⟨_,rfl⟩,?_,λh=>?_⟩
  ·have h1:=Uj i;have h2:=L8 i;generalize It.d i=X at*;simp[Q4,eV,eC,h1,QO,h2]
  ·cases i with
   |word w ns=>have hb:=(hi _ hm).1.2;have ln:=Yw (x:=w) (by omega);simp[QE,Q4,eV,eC,D.ix,Jh,ln,T3]|_=>cases h)];rw[W5];rfl
def QiS{it:ZH}{e:QD}(af:Int)(is:List It)(hc:Xa 1 [1] e=[none,Q1 af])(hit:it e=some (is.map It.d))(hl:is.length<=1000000)(hi:∀i∈is,Vt i):JB 1 [1] it (gS 0) (QG (Q2 0 0) (Q6 "ref")) (QJ (QJ (QE D.len (Q2 0 2)) (eV 1)) (QE D.len (Q2 0 3))) e=QB (((is.filter ZT).map (Uu af)).map .int):=by
 rw[Yh (g:=gS 0) (n:=1) (caps:=[1]) (c:=QG (Q2 0 0) (Q6 "ref")) (el:=QJ (QJ (QE D.len (Q2 0 2)) (eV 1)) (QE D.len (Q2 0 3))) It.d is (λe=>∃v,e=[v,Q1 af]) ZT (λi=>.int (Uu af i)) hit (lB hl) ⟨none,hc⟩ (by
  rintro i hm e⟨v,rfl⟩;refine⟨[some i.d,Q1 af],rfl,⟨_,rfl⟩,?_,λh=>?_⟩;·have h1:=Uj i;have h2:=L7 i;generalize It.d i=X at*;simp[Q4,eV,eC,h1,QO,h2]
  ·cases i with
   |ref l a b=>have hb:=hi _ hm;have l1:=Yw (x:=a) (by have:=hb.1;omega);have l2:=Yw (x:=b) (by have:=hb.2;omega);simp[QE,Q4,eV,eC,D.ix,Jh,l1,l2,Uu,add_int]|_=>cases h)];rw[W5];rfl
def Qga{it:ZH}{e:QD}(is:List It)(hit:it e=some (is.map It.d))(hl:is.length<=1000000):JB 1 [] it (gS 0) (QG (Q2 0 0) (Q6 "word")) (Q2 0 2) e=QB ((VT is).map QM):=by
 rw[Yh (g:=gS 0) (n:=1) (caps:=[]) (c:=QG (Q2 0 0) (Q6 "word")) (el:=Q2 0 2) It.d is (λe=>∃v,e=[v]) Y2 (λi=>QM (BP i)) hit (lB hl) ⟨none,rfl⟩ (by
  rintro i hm e⟨v,rfl⟩;refine⟨[some i.d],rfl,⟨_,rfl⟩,?_,λh=>?_⟩
  ·have h1:=Uj i;have h2:=L8 i;generalize It.d i=X at*;simp[Q4,eV,eC,h1,QO,h2]
  ·cases i with|word w ns=>rfl|_=>cases h)];unfold VT;rw[W5];rfl
def Qhs{it:ZH}{e:QD}(b5:List (List Str))(hit:it e=some (b5.map QM))(hl:b5.length<=1000000):JB 1 [] it (gS 0) (JS true) (QJ (Q5 1) (QE D.len (eV 0))) e=QB ((b5.map λns=>1+(ns.length:Int)).map .int):=by rw[Yh (g:=gS 0) (n:=1) (caps:=[]) (c:=JS true) (el:=QJ (Q5 1) (QE D.len (eV 0))) QM b5 (λe=>∃v,e=[v]) (λ_=>true) (λns=>.int (1+(ns.length:Int))) hit (lB hl) ⟨none,rfl⟩ (by rintro r ke e⟨v,rfl⟩;refine⟨[some (QM r)],rfl,⟨_,rfl⟩,rfl,λ_=>?_⟩;have ln:=Um r;generalize QM r=N at*;simp[QE,eV,Q4,eC,ln,add_int])];rw[XM,W5];rfl
def He{is:List It}(hi:∀i∈is,Vt i):∀ns∈VT is,ns.length<=30/\∀r∈ns,r.length<=40:=by intro ns h;unfold VT at h;obtain⟨i,h1,rfl⟩:=q_20.mp h;obtain⟨h2,h3⟩:=q_45.mp h1;cases i with|word w ns=>exact⟨(hi _ h2).2.1,(hi _ h2).2.2⟩|_=>cases h3
def Qgb(B R H b nt:Option D)(b5:List (List Str))(hn:∀ns∈b5,ns.length<=30/\∀r∈ns,r.length<=40)(w:Int)(v:Option D)(hl:nt=QB (b5.map QM)):∃v',Qz (Ql (eV 5)) (gS 6) (QA (QE D.maxL (QJ (QS (QZ (eV 2))) (JB 1 [] (Ql (eV 6)) (gS 0) (JS true) (QE D.len (eV 0))))) (gS 2)) [B,R,Q1 w,H,b,nt,v]=some (.nx [B,R,Q1 (b5.foldl (λw ns=>Jp w (Vj ns)) w),H,b,nt,v']):=by obtain⟨e',h1,v',h2⟩:=Dm (it:=Ql (eV 5)) (g:=gS 6) (b:=QA (QE D.maxL (QJ (QS (QZ (eV 2))) (JB 1 [] (Ql (eV 6)) (gS 0) (JS true) (QE D.len (eV 0))))) (gS 2)) (e:=[B,R,Q1 w,H,b,nt,v]) QM b5 (λ(w:Int)e=>∃v,e=[B,R,Q1 w,H,b,nt,v]) (λw ns=>Jp w (Vj ns)) w (by rw[hl];rfl) ⟨v,rfl⟩ (by rintro ns hm w e⟨v,rfl⟩;refine⟨[B,R,Q1 (Jp w (Vj ns)),H,b,nt,some (QM ns)],.inl ?_,_,rfl⟩;refine J6 (e1:=[B,R,Q1 w,H,b,nt,some (QM ns)]) rfl ?_;have hc:=Cq (it:=Ql (eV 6)) (e:=[B,R,Q1 w,H,b,nt,some (QM ns)]) ns rfl (by have:=(hn ns hm).1;omega) (λr hr=>by have:=(hn ns hm).2 r hr;omega);have hx:=O4 (i:=2) (e:=[B,R,Q1 w,H,b,nt,some (QM ns)]) (Vj ns) rfl hc (by unfold Vj;rw[Qm];have:=(hn ns hm).1;omega);unfold QA;rw[hx];rfl);exact⟨v',h2▸h1⟩
def Qgc(is:List It):(VT is).length<=is.length:=by unfold VT;rw[Qm];exact Ut _ _
def HU:QF:=sQ (QC (J8 (QG (Q2 4 0) (Q6 "chapter")) (QG (Q2 4 0) (Q6 "heading"))) (QA (Q4 D.max2 (eV 2) (QJ (QJ (QE D.len (Q2 4 1)) (Q5 2)) (eV 1))) (gS 2)) QK) (sQ (QC (QG (Q2 4 0) (Q6 "heading")) (QA (Q4 D.max2 (eV 3) (QJ (Q2 4 2) (Q5 1))) (gS 3)) QK) (sQ (QC (QG (Q2 4 0) (Q6 "table")) (sQ (QA (Q4 D.max2 (eV 3) (QE D.len (Q2 4 1))) (gS 3)) (QA (QE D.maxL (QJ (QS (QZ (eV 2))) (JB 1 [] (Ql (Q2 4 1)) (gS 0) (JS true) (QE D.len (eV 0))))) (gS 2))) QK) (QC (QG (Q2 4 0) (Q6 "para")) (sQ (QA (QE D.maxL (QJ (QS (QZ (eV 2))) (JB 1 [1] (Ql (Q2 4 1)) (gS 0) (QG (Q2 0 0) (Q6 "ref")) (QJ (QJ (QE D.len (Q2 0 2)) (eV 1)) (QE D.len (Q2 0 3)))))) (gS 2)) (sQ (QA (QE D.maxL (QJ (QS (QZ (eV 2))) (JB 1 [] (Ql (Q2 4 1)) (gS 0) (QG (Q2 0 0) (Q6 "word")) (QE D.len (Q2 0 1))))) (gS 2)) (sQ (QA (JB 1 [] (Ql (Q2 4 1)) (gS 0) (QG (Q2 0 0) (Q6 "word")) (Q2 0 2)) (gS 5)) (sQ (QA (QE D.maxL (QJ (QS (QZ (eV 3))) (JB 1 [] (Ql (eV 5)) (gS 0) (JS true) (QJ (Q5 1) (QE D.len (eV 0)))))) (gS 3)) (Qz (Ql (eV 5)) (gS 6) (QA (QE D.maxL (QJ (QS (QZ (eV 2))) (JB 1 [] (Ql (eV 6)) (gS 0) (JS true) (QE D.len (eV 0))))) (gS 2))))))) QK)))
def QfU(B:D)(af w h:Int)(b:Bk)(hb:V6 b)(hl:(iO b).length<=100000)(u v:Option D):∃u' v',HU [some B,Q1 af,Q1 w,Q1 h,some b.d,u,v]=some (.nx [some B,Q1 af,Q1 (YE af w b),Q1 (YD h b),some b.d,u',v']):=by
 have tg:∀(e:QD),eV 4 e=some b.d->∀t:Str,QG (Q2 4 0) (eC (.str t)) e=QL (decide (VH b=t)):=by
  intro e he t;have i0:=Ui b;generalize Bk.d b=X at*;simp only[Q4,eC,he,ZA,i0,QO]
 unfold HU;cases b with
 |chapter t l=>have ln:=Yw (x:=t) (by have:=hb.2;omega);refine⟨u,v,?_⟩;refine st (e1:=[some B,Q1 af,Q1 (YE af w (.chapter t l)),Q1 h,some (Bk.chapter t l).d,u,v]) (by simp[QC,J8,Q4,eV,eC,D.ix,Jh,QO,Jr,QA,gS,QE,ln,add_int,D.max2,YE]) ?_;simp[sQ,X4,QC,J8,Q4,eV,eC,D.ix,Jh,QO,Jr,QK,YD]|heading t k l=>
  have ln:=Yw (x:=t) (by have:=hb.1.2;omega);refine⟨u,v,?_⟩;refine st (e1:=[some B,Q1 af,Q1 (YE af w (.heading t k l)),Q1 h,some (Bk.heading t k l).d,u,v]) (by simp[QC,J8,Q4,eV,eC,D.ix,Jh,QO,Jr,QA,gS,QE,ln,add_int,D.max2,YE]) ?_;simp[sQ,X4,QC,J8,Q4,eV,eC,D.ix,Jh,QO,Jr,QK,QA,gS,D.max2,add_int,YD]|plates n l=>
  refine⟨u,v,?_⟩;simp[sQ,X4,QC,J8,Q4,eV,eC,D.ix,Jh,QO,Jr,QK,YD,YE]|table rs l=>
  refine⟨u,v,?_⟩;refine st (e1:=[some B,Q1 af,Q1 w,Q1 h,some (Bk.table rs l).d,u,v]) (by simp[QC,J8,Q4,eV,eC,D.ix,Jh,QO,Jr,QK]) ?_;refine st (e1:=[some B,Q1 af,Q1 w,Q1 h,some (Bk.table rs l).d,u,v]) (by simp[QC,J8,Q4,eV,eC,D.ix,Jh,QO,Jr,QK]) ?_;refine st (e1:=[some B,Q1 af,Q1 (YE af w (.table rs l)),Q1 (YD h (.table rs l)),some (Bk.table rs l).d,u,v]) ?_ (by simp[QC,Q4,eV,eC,D.ix,Jh,QO,Jr,QK]);refine Qr (by rw[tg _ rfl];simp[VH]) ?_;refine st (e1:=[some B,Q1 af,Q1 w,Q1 (YD h (.table rs l)),some (Bk.table rs l).d,u,v]) ?_ ?_
  ·have ln:=Um rs;simp only[Bk.d];generalize QM rs=N at*;simp[QA,Q4,eV,eC,QE,D.ix,Jh,ln,D.max2,gS,YD]
  ·refine Qf (O4 (Vj rs) rfl (Cq rs rfl (by have:=hb.1.2;omega) (λr hr=>by have:=hb.2 r hr;omega)) (by unfold Vj;rw[Qm];have:=hb.1.2;omega)) rfl|para is=>
  have dU:is.length<=100000:=hl;have hi:∀i∈is,Vt i:=hb;obtain⟨W1,e1⟩:∃W1,Jp w ((is.filter ZT).map (Uu af))=W1:=⟨_,rfl⟩;obtain⟨W2,e2⟩:∃W2,Jp W1 ((is.filter Y2).map T3)=W2:=⟨_,rfl⟩;obtain⟨v',hv⟩:=Qgb (some B) (Q1 af) (Q1 (YD h (.para is))) (some (Bk.para is).d) (QB ((VT is).map QM)) (VT is) (He hi) W2 v rfl;have l1:((is.filter ZT).map (Uu af)).length<=1000000:=by rw[Qm];have:=Ut ZT is;omega
  have l2:((is.filter Y2).map T3).length<=1000000:=by rw[Qm];have:=Ut Y2 is;omega
  have l3:=Qgc is;refine⟨QB ((VT is).map QM),v',?_⟩;refine st (e1:=[some B,Q1 af,Q1 w,Q1 h,some (Bk.para is).d,u,v]) (by simp[QC,J8,Q4,eV,eC,D.ix,Jh,QO,Jr,QK]) ?_;refine st (e1:=[some B,Q1 af,Q1 w,Q1 h,some (Bk.para is).d,u,v]) (by simp[QC,J8,Q4,eV,eC,D.ix,Jh,QO,Jr,QK]) ?_;refine st (e1:=[some B,Q1 af,Q1 w,Q1 h,some (Bk.para is).d,u,v]) (by simp[QC,J8,Q4,eV,eC,D.ix,Jh,QO,Jr,QK]) ?_;refine Qr (by rw[tg _ rfl];simp[VH]) ?_;refine st (e1:=[some B,Q1 af,Q1 W1,Q1 h,some (Bk.para is).d,u,v]) (by rw[<-e1];exact Qf (O4 _ rfl (QiS af is rfl rfl (by omega) hi) l1) rfl) ?_;refine st (e1:=[some B,Q1 af,Q1 W2,Q1 h,some (Bk.para is).d,u,v]) (by rw[<-e2];exact Qf (O4 _ rfl (Qkk is rfl (by omega) hi) l2) rfl) ?_;refine st (e1:=[some B,Q1 af,Q1 W2,Q1 h,some (Bk.para is).d,QB ((VT is).map QM),v]) (Qf (Qga is rfl (by omega)) rfl) ?_;refine st (e1:=[some B,Q1 af,Q1 W2,Q1 (YD h (.para is)),some (Bk.para is).d,QB ((VT is).map QM),v]) (Qf (O4 _ rfl (Qhs (VT is) rfl (by omega)) (by rw[Qm];omega)) rfl) ?_;have fin:YE af w (.para is)=(VT is).foldl (λw ns=>Jp w (Vj ns)) W2:=by rw[<-e2,<-e1];rfl
  rw[fin];exact hv
def HV(af:Int)(bs:List Bk):Int×Int:=bs.foldl (λs b=>(YE af s.1 b,YD s.2 b)) (4,2)
def Qf5(bs:List Bk)(af:Int)(hf:YM bs)(hb:∀b∈bs,V6 b):PM [Q7 bs,.int af]=some (.tup [.int (HV af bs).1,.int (HV af bs).2]):=by
 unfold PM KI;refine Qy rfl ?_;refine st rfl ?_;refine st rfl ?_;refine Qaq (b:=HU) Bk.d bs (λ(s:Int×Int)e=>∃a u v,e=[some (Q7 bs),Q1 af,Q1 s.1,Q1 s.2,a,u,v]) (λs b=>(YE af s.1 b,YD s.2 b)) (4,2) rfl ⟨none,none,none,rfl⟩ ?_ ?_
 ·rintro b hm s e⟨a,u,v,rfl⟩;obtain⟨u',v',h⟩:=QfU (Q7 bs) af s.1 s.2 b (hb b hm) (Wv hf b hm) u v;exact⟨_,.inl (J6 rfl h),_,_,_,rfl⟩
 ·rintro e⟨a,u,v,rfl⟩;exact ret rfl
def Qgh(s:String):(Str.ofString s).length=s.toList.length:=by show(cpsOfBytes 0 0 s.toByteArray.data.toList).toArray.size=_;rw[cpsOfBytes_string];simp
noncomputable def Jw(n:Nat):Nat:=(Nat.toDigits 10 n).length
def Ge(n:Nat):(Str.ofString (toString (n:Int))).length=Jw n:=by rw[Qgh];show(Nat.repr n).toList.length=_;rw[Nat.toList_repr];rfl
def SO(n:Nat):1<=Jw n:=Nat.length_toDigits_pos
def DD(n:Nat):n<10^Jw n:=(Oj (by decide) (SO n)).mp (Qx _)
def DE(n:Nat)(h:n<10^60):Jw n<=60:=(Oj (by decide) (by decide)).mpr h
def Qs(i:It):Bool:=Y2 i||ZT i
def ZI(li:Bool):Bk->Int|.chapter _ _=>2+if li then 2 else 0|.heading _ _ _=>2+if li then 2 else 0|.table _ _=>2|.plates n _=>2+n|.para is=>2+2*((is.filter Qs).length:Int)
def most(li:Bool)(bs:List Bk):Int:=bs.foldl (λs b=>s+ZI li b) 3
def Qam{it:ZH}{e:QD}(is:List It)(hit:it e=some (is.map It.d))(hl:is.length<=1000000):JB 1 [] it (gS 0) (J8 (QG (Q2 0 0) (Q6 "word")) (QG (Q2 0 0) (Q6 "ref"))) (eV 0) e=QB ((is.filter Qs).map It.d):=by rw[Yh (g:=gS 0) (n:=1) (caps:=[]) (c:=J8 (QG (Q2 0 0) (Q6 "word")) (QG (Q2 0 0) (Q6 "ref"))) (el:=eV 0) It.d is (λe=>∃v,e=[v]) Qs It.d hit (lB hl) ⟨none,rfl⟩ (by rintro i hm e⟨v,rfl⟩;refine⟨[some i.d],rfl,⟨_,rfl⟩,?_,λh=>rfl⟩;have h1:=Uj i;have h2:=L8 i;have h3:=L7 i;unfold Qs;generalize It.d i=X at*;cases q:Y2 i<;>rw[q]at h2<;>simp[J8,Q4,eV,eC,h1,QO,h2,h3,Jr])]
def B5(m:Int):D.mulA (.int 2) (.int m)=Q1 (2*m):=(Xq 2 m).trans (Sx (by decide))
def QfO(bs:List Bk)(li:Bool)(hf:YM bs):PL [Q7 bs,.bl li]=Q1 (most li bs):=by
 unfold PL KH;refine Qy rfl ?_;refine st (e1:=[some (Q7 bs),QL li,Q1 3,none]) rfl ?_;refine Qaq Bk.d bs (λ(s:Int)e=>∃a,e=[some (Q7 bs),QL li,Q1 s,a]) (λs b=>s+ZI li b) 3 rfl ⟨none,rfl⟩ ?_ ?_
 ·rintro b hm s e⟨a,rfl⟩;refine⟨[some (Q7 bs),QL li,Q1 (s+ZI li b),some b.d],.inl (J6 rfl ?_),_,rfl⟩;have hl:=Wv hf b hm;generalize Q7 bs=B at*;refine st (e1:=[some B,QL li,Q1 (s+2),some b.d]) rfl ?_;have cd:∀(d:D)(t:Str),D.ix d (.int 0)=QP t->JV (eV 1) (J8 (QG (Q2 3 0) (Q6 "chapter")) (QG (Q2 3 0) (Q6 "heading"))) [some B,QL li,Q1 (s+2),some d]=QL (li&&(decide (t="chapter")||decide (t="heading"))):=by intro d t h;cases li with|false=>exact Y6 rfl|true=>
    refine Za rfl ?_;by_cases z:t=Str.ofString "chapter"
    ·rw[Jf z];exact R1 (Q0 (Q0 rfl rfl h) rfl (by rw[QO,Jf z]))
    ·rw[JF z,Bool.false_or,Bool.true_and];exact VV (Q0 (Q0 rfl rfl h) rfl (by rw[QO,JF z])) (Q0 (Q0 rfl rfl h) rfl (QO _ _))
  have tit:∀(d:D)(t:Str)(m:Int),D.ix d (.int 0)=QP t->(decide (t="chapter")||decide (t="heading"))=true->t≠"plates"->t≠"para"->s+m=s+2+(if li then 2 else 0)->sQ (QC (JV (eV 1) (J8 (QG (Q2 3 0) (Q6 "chapter")) (QG (Q2 3 0) (Q6 "heading")))) (QA (QJ (eV 2) (Q5 2)) (gS 2)) (QK)) (sQ (QC (QG (Q2 3 0) (Q6 "plates")) (QA (QJ (eV 2) (Q2 3 1)) (gS 2)) (QK)) (QC (QG (Q2 3 0) (Q6 "para")) (QA (QJ (eV 2) (YV (Q5 2) (QE D.len (JB 1 [] (Ql (Q2 3 1)) (gS 0) (J8 (QG (Q2 0 0) (Q6 "word")) (QG (Q2 0 0) (Q6 "ref"))) (eV 0))))) (gS 2)) (QK))) [some B,QL li,Q1 (s+2),some d]=some (.nx [some B,QL li,Q1 (s+m),some d]):=by intro d t m h ht h1 h2 hm;have c:=cd d t h;rw[ht,Bool.and_true]at c;rw[hm];refine st (e1:=[some B,QL li,Q1 (s+2+(if li then 2 else 0)),some d]) ?_ (st (QN (Q0 (Q0 rfl rfl h) rfl (by rw[QO,JF h1])) rfl) (QN (Q0 (Q0 rfl rfl h) rfl (by rw[QO,JF h2])) rfl));cases li with|true=>exact Qr c rfl|false=>
    refine(QN c rfl).trans ?_;rw[if_neg (by decide),add_zero];rfl
  have non:∀(d:D)(t:Str),D.ix d (.int 0)=QP t->(decide (t="chapter")||decide (t="heading"))=false->JV (eV 1) (J8 (QG (Q2 3 0) (Q6 "chapter")) (QG (Q2 3 0) (Q6 "heading"))) [some B,QL li,Q1 (s+2),some d]=QL false:=by intro d t h ht;have c:=cd d t h;rw[ht,Bool.and_false]at c;exact c
  cases b with
  |para is=>
   have dU:is.length<=1000000:=ZP (show is.length<=100000 from hl) (by decide);refine st (QN (non _ "para" rfl (by simp)) rfl) ?_;refine st (QN (Q0 (x:=.str "para") (Q0 (x:=(Bk.para is).d) rfl rfl rfl) rfl (by rw[QO];simp)) rfl) ?_;refine Qr (Q0 (x:=.str "para") (Q0 (x:=(Bk.para is).d) rfl rfl rfl) rfl (by rw[QO];simp)) ?_;have hc:=Qam (it:=Ql (Q2 3 1)) (e:=[some B,QL li,Q1 (s+2),some (Bk.para is).d]) is rfl dU;have ln:D.len (.lst ((is.filter Qs).map It.d))=some (.int (is.filter Qs).length):=by show some (D.int ((is.filter Qs).map It.d).length)=_;rw[Qm]
   have fin:s+ZI li (.para is)=s+2+2*((is.filter Qs).length:Int):=by show s+(2+2*((is.filter Qs).length:Int))=_;omega
   rw[fin];generalize((is.filter Qs).length:Int)=m at*;refine Qf ?_ rfl;simp only[Q4,QE,hc,ZA,ln,eC,B5,eV,X1,W4,X2,add_int]|chapter t l=>exact tit _ "chapter" _ rfl (by simp) (by simp) (by simp) (by show s+(2+(if li then 2 else 0))=_;omega)|heading t k l=>exact tit _ "heading" _ rfl (by simp) (by simp) (by simp) (by show s+(2+(if li then 2 else 0))=_;omega)|table rs l=>exact st (QN (non _ "table" rfl (by simp)) rfl) (st (QN (Q0 (x:=.str "table") (Q0 (x:=(Bk.table rs l).d) rfl rfl rfl) rfl (by rw[QO];simp)) rfl) (QN (Q0 (x:=.str "table") (Q0 (x:=(Bk.table rs l).d) rfl rfl rfl) rfl (by rw[QO];simp)) rfl))|plates n l=>
   have fin:s+ZI li (.plates n l)=s+2+n:=by show s+(2+n)=_;omega
   rw[fin];exact st (QN (non _ "plates" rfl (by simp)) rfl) (st (e1:=[some B,QL li,Q1 (s+2+n),some (Bk.plates n l).d]) (Qr (Q0 (x:=.str "plates") (Q0 (x:=(Bk.plates n l).d) rfl rfl rfl) rfl (by rw[QO];simp)) (Qf (Q0 rfl (Q0 (x:=(Bk.plates n l).d) rfl rfl rfl) rfl) rfl)) (QN (Q0 (x:=.str "plates") (Q0 (x:=(Bk.plates n l).d) rfl rfl rfl) rfl (by rw[QO];simp)) rfl))
 ·rintro e⟨a,rfl⟩;exact ret rfl
def Wq(ns:List Int):Int:=1+ZU (cell ns 4) 19%6
def Zn(ns:List Int)(w h:Int)(li:Bool):List Bk:=if li=true\/cell ns 4%3≠1 then[]else[.plates (10^(Wq ns).toNat-2) "",.table (List.replicate (h-1).toNat "") "",.para [.word (YC "w" (if w-1-Wq ns>1 then w-1-Wq ns else 1)) [],.mark "z",.ref "z" "" ""]]
def SR(ns:List Int):1<=Wq ns/\Wq ns<=6:=by unfold Wq;omega
def DN{a b c:Q8}{e:QD}{x y z:D}(ha:a e=some x)(hb:b e=some y)(hc:c e=some z):QS (lC a (lC b (lC c lN))) e=some (.lst [x,y,z]):=by unfold QS lC lN;rw[ha,hb,hc];rfl
def DO(ns:List Int)(w h:Int)(o li:Bool)(hw:4<=w/\w<=1000)(hh:2<=h/\h<=1000):PK [.scr ns,.tup [.int w,.int h,.bl o,.bl li]]=some (Q7 (Zn ns w h li)):=by
 have c4:Yv [.scr ns,.int 4]=Q1 (cell ns 4):=SD ns 4;have k9:=Tf (cell ns 4) 19 (by decide) (by decide);unfold PK KA Zn;by_cases z:li=true\/cell ns 4%3≠1
 ·rw[if_pos z];refine Qy rfl ?_;refine Zj ?_;cases li with|true=>exact Qr (R1 rfl) (ret rfl)|false=>exact Qr (VV rfl (Q0 (Q0 (Z0 rfl rfl c4) rfl (Zg _ (by decide))) rfl (by rw[D.neO,Z5,ZC,JF (z.resolve_left (by decide))];rfl))) (ret rfl)
 ·rw[if_neg z];have z1:li=false:=by cases li<;>simp_all
  have z2:cell ns 4%3=1:=by simp_all
  subst z1;obtain⟨eb0,eb1⟩:=SR ns;have en:1+ZU (cell ns 4) 19%6=Wq ns:=rfl;generalize Wq ns=N at*;refine Qy rfl ?_;refine st (QN (VV rfl (Q0 (Q0 (Z0 rfl rfl c4) rfl (Zg _ (by decide))) rfl (by rw[D.neO,Z5,ZC,Jf z2];rfl))) rfl) ?_;refine st (e1:=[some (.scr ns),some (.tup [.int w,.int h,.bl o,.bl false]),Q1 N,none,none,none]) (Qf (Q0 rfl (Q0 (Z0 (Z0 rfl rfl c4) rfl k9) rfl (Zg _ (by decide))) (by rw[<-en];rfl)) rfl) ?_;refine st (e1:=[some (.scr ns),some (.tup [.int w,.int h,.bl o,.bl false]),Q1 N,Q1 1,none,none]) rfl ?_;obtain⟨v,el⟩:=QjU 1 (some (.scr ns)) (some (.tup [.int w,.int h,.bl o,.bl false])) (Q1 N) none none (rD 0 N.toNat);rw[A5,Int.one_mul]at el;have jY:(10:Int)^N.toNat<=10^6:=by
   have:N=1\/N=2\/N=3\/N=4\/N=5\/N=6:=by omega
   rcases this with q|q|q|q|q|q<;>subst q<;>decide
  refine st (e1:=[some (.scr ns),some (.tup [.int w,.int h,.bl o,.bl false]),Q1 N,Q1 (10^N.toNat),v,none]) (by unfold Qz ZM;simp only[eV,X1,W4,X2,ZA,QiZ N (by omega)];exact el) ?_;generalize(10:Int)^N.toNat=T at*;have mx:D.max2 (.int 1) (.int (w-1-N))=Q1 (if w-1-N>1 then w-1-N else 1):=rfl;obtain⟨M,eM,M0,M1⟩:∃M:Int,(if w-1-N>1 then w-1-N else 1)=M/\1<=M/\M<=1000:=⟨_,rfl,by split<;>omega,by split<;>omega⟩;rw[eM]at mx⊢;have wl:(Str.ofString "w").length=1:=by decide+kernel
  have mw:D.mulA (.str (Str.ofString "w")) (.int M)=QP (YC (Str.ofString "w") M):=HR ⟨by omega,by omega,lB (by rw[wl];omega)⟩;generalize YC (Str.ofString "w") M=WW at*;refine st (e1:=[some (.scr ns),some (.tup [.int w,.int h,.bl o,.bl false]),Q1 N,Q1 T,v,QB ([It.word WW [],.mark "z",.ref "z" "" ""].map It.d)]) (Qf (DN (W8 rfl (Q0 (x:=.str (Str.ofString "w")) rfl (Q0 rfl (Q0 (Q0 (Q0 rfl rfl rfl) rfl rfl) rfl rfl) mx) mw) rfl) (Ov rfl rfl) (Ra rfl rfl rfl rfl)) rfl) ?_;have hc:JB 1 [] (ZM (Vl (Q2 1 1) (Q5 1))) (gS 0) (JS true) (Q6 "") [some (.scr ns),some (.tup [.int w,.int h,.bl o,.bl false]),Q1 N,Q1 T,v,QB ([It.word WW [],.mark "z",.ref "z" "" ""].map It.d)]=some (QM (List.replicate (h-1).toNat "")):=by
   obtain⟨m,em⟩:∃m:Nat,h-1=m:=⟨(h-1).toNat,by omega⟩;rw[Yh (λi:Nat=>D.int (0+(i:Int))) (List.range m) (λe=>∃v,e=[v]) (λ_=>true) (λ_=>.str "") (by show D.rng (.int (h-1))=_;rw[em];exact Ms m (by omega)) (lB (by simp;omega)) ⟨none,rfl⟩ (by rintro i hi e⟨v,rfl⟩;exact⟨[Q1 (0+(i:Int))],rfl,⟨_,rfl⟩,rfl,λ_=>rfl⟩)];rw[XM,em];unfold QM;simp[List.map_const']
  have ds:D.sub (.int T) (.int 2)=Q1 (T-2):=rfl;exact ret (DN (W8 rfl (Q0 rfl rfl ds) rfl) (W8 rfl hc rfl) (Ov rfl rfl))
noncomputable def We(c:Int)(k:Nat):At:=if h:k<58 then Classical.choose (ET c k h)else .brk
def K4(c:Int)(k:Nat)(h:k<58):Uc [.int c,.int k]=some (We c k).d/\LG k (We c k):=by unfold We;rw[dif_pos h];exact Classical.choose_spec (ET c k h)
def Y8(ns:List Int):List Int:=Zc ns none (some 63)++[7]
def Qb9(ns:List Int):(Zc ns none (some 63)).length<=63:=by unfold Zc YL;rw[YG];simp only[];rw[if_neg (by decide)];omega
def XG:Nat:=35
def Y1(ns:List Int):List Int:=(List.range (ZU (cell ns 5) 29%XG).toNat).map λk:Nat=>(Y8 ns).getD ((k:Int)%((Y8 ns).length:Int)).toNat 0
def Qcg(ns:List Int):(Y1 ns).length<XG:=by unfold Y1;rw[Qm,length_range];have h1:=Xu (ZU (cell ns 5) 29) (show(0:Int)<XG by decide);have h2:=XR (ZU (cell ns 5) 29) (show(XG:Int)≠0 by decide);omega
def DK:XG<=58:=by decide
noncomputable def ZJ(cs:List Int):List At:=cs.zipIdx.map λp=>We p.1 p.2
def NI(cs:List Int):(ZJ cs).length=cs.length:=by unfold ZJ;simp
noncomputable def U8(cs:List Int):List Bk:=(VM (ZV cs (ZJ cs)++[.fin])).1
def XU:At->Prop|.bk (.para _)=>False|.bk b=>V6 b|.it i=>Vt i|.brk=>True|.fin=>False
def QbA{k:Nat}:∀{a:At},LG k a->XU a|.brk,h=>trivial|.bk (.chapter t l),h=>h.1|.bk (.heading t n l),h=>⟨h.1,h.2.1⟩|.bk (.table rs l),h=>⟨h.1,h.2.1⟩|.bk (.plates n l),h=>h.1|.it (.mark l),h=>trivial|.it (.key w),h=>h|.it (.ref l a b),h=>h.2|.it (.word w ns),h=>h|.bk (.para _),h=>h.elim|.fin,h=>h.elim
def S6:∀{a:At},XU a->XW a|.brk,h=>trivial|.bk (.chapter t l),h=>trivial|.bk (.heading t n l),h=>trivial|.bk (.table rs l),h=>trivial|.bk (.plates n l),h=>trivial|.it _,h=>trivial|.bk (.para _),h=>h.elim|.fin,h=>h.elim
def QfD:Vt (.word (Str.ofString "lost") []):=⟨by decide+kernel,by simp,by simp⟩
def QdW:Vt (.word (Str.ofString "end") []):=⟨by decide+kernel,by simp,by simp⟩
def Qiw(ls:List Str)(cs:List Int)(i:Nat)(a:At)(h:XU a):XU (pt ls cs i a):=by
 unfold pt;split
 ·split;·exact QfD
  ·exact h
 ·exact h
def B1{α:Type}{xs:List α}{p:α×Nat}(h:p∈xs.zipIdx):p.2<xs.length:=by obtain⟨x,i⟩:=p;exact(List.mem_zipIdx' h).1
def Ic(cs:List Int)(h:cs.length<=58):∀a∈ZJ cs,XU a:=by intro a ha;obtain⟨p,hp,rfl⟩:=q_20.mp ha;exact QbA (K4 p.1 p.2 (by have:=B1 hp;omega)).2
def Bg(cs:List Int)(as:List At)(h:∀a∈as,XU a):∀a∈ZV cs as,XU a:=by intro a ha;unfold ZV at ha;obtain⟨i,hi,rfl⟩:=List.mem_mapIdx.mp ha;exact Qiw _ _ _ _ (h _ (ZY hi))
def Bh(cs:List Int)(as:List At):(ZV cs as).length=as.length:=by unfold ZV;simp
def QbY{row:List It}(h:∀i∈row,Vt i):∀i∈Qw row,Vt i:=by
 intro i hi;unfold Qw at hi;split at hi
 ·split at hi
  ·rcases q_7.mp hi with z|z;·exact h i z
   ·rw[q_1.mp z];exact QdW
  ·exact h i hi
 ·exact h i hi
def GB(s:List Bk×List It):Prop:=(∀b∈s.1,V6 b)/\(∀i∈s.2,Vt i)
def Qek{s:List Bk×List It}{a:At}(hs:GB s)(ha:XU a\/a=.fin):GB (Z6 s a):=by
 obtain⟨bs,row⟩:=s;have hp:V6 (.para (Qw row)):=QbY hs.2;have h1:∀b∈bs++[.para (Qw row)],V6 b:=by
  intro b hb;rcases q_7.mp hb with z|z;·exact hs.1 b z
  ·rw[q_1.mp z];exact hp
 have h2:∀b∈(if Qw row=[]then bs else bs++[.para (Qw row)]),V6 b:=by
  intro b hb;split at hb;·exact hs.1 b hb
  ·exact h1 b hb
 cases a with
 |it i=>
  refine⟨hs.1,λj hj=>?_⟩;rcases q_7.mp hj with z|z;·exact hs.2 j z
  ·rw[q_1.mp z];rcases ha with q|q;·exact q
   ·cases q|bk b=>
  refine⟨λj hj=>?_,λj hj=>by cases hj⟩;rcases q_7.mp hj with z|z;·exact h2 j z
  ·rw[q_1.mp z];rcases ha with q|q;·cases b<;>first|exact q|exact q.elim
   ·cases q|brk=>exact⟨h1,λj hj=>by cases hj⟩|fin=>exact⟨h2,λj hj=>by cases hj⟩
def Qeg(as:List At):∀s,GB s->(∀a∈as,XU a\/a=.fin)->GB (as.foldl Z6 s):=by induction as with|nil=>intro s h _;exact h|cons a as ih=>intro s h ha;exact ih _ (Qek h (ha a JN)) λx hx=>ha x (JH _ hx)
def tot(s:List Bk×List It):Nat:=(s.1.flatMap iO).length+s.2.length
def Qel(s:List Bk×List It)(a:At)(ha:XW a\/a=.fin):tot (Z6 s a)<=tot s+1:=by
 obtain⟨bs,row⟩:=s;have hc:=QbZ row;have h1:((bs++[Bk.para (Qw row)]).flatMap iO).length=(bs.flatMap iO).length+(Qw row).length:=by rw[YI,Qg];simp[iO]
 have h2:((if Qw row=[]then bs else bs++[Bk.para (Qw row)]).flatMap iO).length<=(bs.flatMap iO).length+(Qw row).length:=by
  split;·omega
  ·rw[h1];omega
 unfold tot;cases a with
 |it i=>simp only[Z6,Qg,JM,WU];omega|bk b=>
  have hb:iO b=[]:=by
   rcases ha with q|q;·cases b<;>first|rfl|exact q.elim
   ·cases q
  simp only[Z6,YI,Qg,WU,Zi,List.flatMap_nil,hb,Zp];omega|brk=>simp only[Z6,h1,WU];omega|fin=>simp only[Z6,WU];omega
def Qeh(as:List At):∀s,(∀a∈as,XW a\/a=.fin)->tot (as.foldl Z6 s)<=tot s+as.length:=by induction as with|nil=>intro s _;exact Qx _|cons a as ih=>intro s ha;have h1:=Qel s a (ha a JN);have h2:=ih (Z6 s a) λx hx=>ha x (JH _ hx);rw[Zq,JM];omega
def P2(cs:List Int)(h:cs.length<58):∀a∈ZV cs (ZJ cs)++[At.fin],XU a\/a=.fin:=by
 intro a ha;rcases q_7.mp ha with z|z;·exact .inl (Bg cs _ (Ic cs (by omega)) a z)
 ·exact .inr (q_1.mp z)
def Qcc(cs:List Int)(h:cs.length<58):∀b∈U8 cs,V6 b:=(Qeg _ ([],[]) (by simp[GB]) (P2 cs h)).1
def Qce(cs:List Int)(h:cs.length<58):(U8 cs).length<=116/\((U8 cs).flatMap iO).length<=58:=by
 have h1:=(CC (ZV cs (ZJ cs)++[At.fin]) ([],[])).1;have h2:=Qeh (ZV cs (ZJ cs)++[At.fin]) ([],[]) (λa ha=>by
  rcases P2 cs h a ha with z|z;·exact .inl (S6 z)
  ·exact .inr z);have hl:(ZV cs (ZJ cs)++[At.fin]).length<=58:=by rw[Qg,Bh,NI];simp;omega
 unfold tot at h2;unfold U8 VM;simp at h1 h2 hl⊢;omega
def Qcd(cs:List Int)(h:cs.length<58):TY [.lst ((ZV cs (ZJ cs)).map At.d)]=some (Q7 (U8 cs)):=Qeo _ (by rw[Bh,NI];omega) λa ha=>S6 (Bg cs _ (Ic cs (by omega)) a ha)
def O5{m M:Int}{xs:List Int}(h:m<=M)(hx:∀x∈xs,x<=M):Jp m xs<=M:=by
 rcases(O7 xs m).1 with z|z;·rw[z];exact h
 ·exact hx _ z
def Sw(m:Int)(xs:List Int):m<=Jp m xs:=(O7 xs m).2.1
def O6{m x:Int}{xs:List Int}(h:x∈xs):x<=Jp m xs:=(O7 xs m).2.2 x h
def Nk(b5:List (List Str)):∀w,w<=b5.foldl (λw ns=>Jp w (Vj ns)) w:=by induction b5 with|nil=>intro w;exact JW _|cons ns b5 ih=>intro w;exact ZW (Sw w _) (ih _)
def Qee{M:Int}(b5:List (List Str))(h:∀ns∈b5,∀r∈ns,(r.length:Int)<=M):∀w,w<=M->b5.foldl (λw ns=>Jp w (Vj ns)) w<=M:=by induction b5 with|nil=>intro w hw;exact hw|cons ns b5 ih=>intro w hw;refine ih (λx hx=>h x (JH _ hx)) _ (O5 hw λx hx=>?_);obtain⟨r,hr,rfl⟩:=q_20.mp hx;exact h ns JN r hr
def Qef(b5:List (List Str)):∀w,∀ns∈b5,∀r∈ns,(r.length:Int)<=b5.foldl (λw ns=>Jp w (Vj ns)) w:=by induction b5 with|nil=>intro w ns h;cases h|cons n0 b5 ih=>
  intro w ns h r hr;rcases q_5.mp h with z|z
  ·subst z;exact ZW (O6 (m:=w) (q_20.mpr ⟨r,hr,rfl⟩)) (Nk b5 _)
  ·exact ih _ ns z r hr
def Cy{is:List It}{w:Str}{ns:List Str}(h:It.word w ns∈is):ns∈VT is:=q_20.mpr ⟨_,q_45.mpr ⟨h,rfl⟩,rfl⟩
def Qf3{af w M:Int}{b:Bk}(hb:V6 b)(h0:0<=af)(hM:43+af<=M)(hw:w<=M):YE af w b<=M:=by cases b with|chapter t l=>have:=hb.2;simp only[YE];split<;>omega|heading t k l=>have:=hb.1.2;simp only[YE];split<;>omega|plates n l=>exact hw|table rs l=>refine O5 hw λx hx=>?_;obtain⟨r,hr,rfl⟩:=q_20.mp hx;have:=hb.2 r hr;omega|para is=>
  have hi:∀i∈is,Vt i:=hb;refine Qee _ (λns hn r hr=>?_) _ (O5 (O5 hw λx hx=>?_) λx hx=>?_);·have:=(He hi ns hn).2 r hr;omega
  ·obtain⟨i,hr,rfl⟩:=q_20.mp hx;have h1:=hi i (q_45.mp hr).1;cases i with
   |ref l a b=>have:=h1.1;have:=h1.2;simp only[Uu];omega|_=>simp only[Uu];omega
  ·obtain⟨i,hr,rfl⟩:=q_20.mp hx;have h1:=hi i (q_45.mp hr).1;cases i with|word w ns=>have:=h1.1.2;simp only[T3];omega|_=>simp only[T3];omega
def Qf1{h M:Int}{b:Bk}(hb:V6 b)(hM:31<=M)(hh:h<=M):YD h b<=M:=by cases b with|heading t k l=>have:=hb.2;simp only[YD];split<;>omega|table rs l=>have:=hb.1;simp only[YD];split<;>omega|para is=>refine O5 hh λx hx=>?_;obtain⟨ns,hn,rfl⟩:=q_20.mp hx;have:=(He (show∀i∈is,Vt i from hb) ns hn).1;omega|_=>exact hh
def Qf2(af w:Int)(b:Bk):w<=YE af w b:=by cases b with|chapter t l=>simp only[YE];split<;>omega|heading t k l=>simp only[YE];split<;>omega|plates n l=>exact JW _|table rs l=>exact Sw _ _|para is=>exact ZW (ZW (Sw _ _) (Sw _ _)) (Nk _ _)
def Qf0(h:Int)(b:Bk):h<=YD h b:=by cases b with|heading t k l=>simp only[YD];split<;>omega|table rs l=>simp only[YD];split<;>omega|para is=>exact Sw _ _|_=>exact JW _
noncomputable def U0(af w h:Int):It->Prop|.word x ns=>(x.length:Int)<=w/\1+(ns.length:Int)<=h/\∀r∈ns,(r.length:Int)<=w|.ref _ a b=>(a.length:Int)+af+b.length<=w|_=>True
def Vq(af w h:Int):Bk->Prop|.chapter t _=>(t.length:Int)+2+af<=w|.heading t k _=>(t.length:Int)+2+af<=w/\k+1<=h|.table rs _=>(rs.length:Int)<=h/\∀r∈rs,(r.length:Int)<=w|.para is=>∀i∈is,U0 af w h i|.plates _ _=>True
def Qec{af w h w' h':Int}{i:It}(hw:w<=w')(hh:h<=h')(f:U0 af w h i):U0 af w' h' i:=by cases i with|word x ns=>exact⟨ZW f.1 hw,ZW f.2.1 hh,λr hr=>ZW (f.2.2 r hr) hw⟩|ref l a b=>exact ZW f hw|_=>trivial
def Dw{af w h w' h':Int}{b:Bk}(hw:w<=w')(hh:h<=h')(f:Vq af w h b):Vq af w' h' b:=by cases b with|chapter t l=>exact ZW f hw|heading t k l=>exact⟨ZW f.1 hw,ZW f.2 hh⟩|table rs l=>exact⟨ZW f.1 hh,λr hr=>ZW (f.2 r hr) hw⟩|para is=>exact λi hi=>Qec hw hh (f i hi)|plates n l=>trivial
def Qf4(af w h:Int)(b:Bk):Vq af (YE af w b) (YD h b) b:=by cases b with
 |chapter t l=>show _<=YE _ _ _;simp only[YE];split<;>omega|heading t k l=>
  refine⟨?_,?_⟩;·simp only[YE];split<;>omega
  ·simp only[YD];split<;>omega|plates n l=>trivial|table rs l=>
  refine⟨?_,λr hr=>O6 (q_20.mpr ⟨r,hr,rfl⟩)⟩;simp only[YD];split<;>omega|para is=>
  intro i hi;cases i with
  |word x ns=>
   refine⟨ZW (O6 (q_20.mpr ⟨It.word x ns,q_45.mpr ⟨hi,rfl⟩,rfl⟩)) (Nk _ _),?_,λr hr=>?_⟩;·exact O6 (q_20.mpr ⟨ns,Cy hi,rfl⟩)
   ·exact Qef _ _ ns (Cy hi) r hr|ref l a b=>exact ZW (ZW (O6 (q_20.mpr ⟨It.ref l a b,q_45.mpr ⟨hi,rfl⟩,rfl⟩)) (Sw _ _)) (Nk _ _)|_=>trivial
theorem BD(af M H:Int)(h0:0<=af)(hM:43+af<=M)(hH:31<=H):∀(bs:List Bk)(s:Int×Int),(∀b∈bs,V6 b)->s.1<=M->s.2<=H->let r:=bs.foldl (λs b=>(YE af s.1 b,YD s.2 b)) s
  s.1<=r.1/\r.1<=M/\s.2<=r.2/\r.2<=H/\∀b∈bs,Vq af r.1 r.2 b
 |[],s,_,h1,h2=>⟨JW _,h1,JW _,h2,λ_ h=>by cases h⟩|b::bs,s,hb,h1,h2=>by
  obtain⟨a1,a2,a3,a4,a5⟩:=BD af M H h0 hM hH bs (YE af s.1 b,YD s.2 b) (λx hx=>hb x (JH _ hx)) (Qf3 (hb b JN) h0 hM h1) (Qf1 (hb b JN) hH h2);refine⟨ZW (Qf2 _ _ _) a1,a2,ZW (Qf0 _ _) a3,a4,λx hx=>?_⟩;rcases q_5.mp hx with z|z;·subst z;exact Dw a1 a3 (Qf4 af s.1 s.2 x)
  ·exact a5 x z
def QbF{li:Bool}{b:Bk}(hb:V6 b)(hl:(iO b).length<=1000):2<=ZI li b/\ZI li b<=10^39+3000:=by
 have:(3000:Int)<=10^39:=by decide
 cases b with
 |chapter t l=>simp only[ZI];split<;>omega|heading t k l=>simp only[ZI];split<;>omega|table rs l=>simp only[ZI];omega|plates n l=>have h1:=hb.1;have h2:=hb.2;simp only[ZI];omega|para is=>have h1:=Ut Qs is;have h2:is.length<=1000:=hl;simp only[ZI];omega
theorem B4(li:Bool):∀(bs:List Bk)(s:Int),(∀b∈bs,V6 b/\(iO b).length<=1000)->s<=bs.foldl (λs b=>s+ZI li b) s/\bs.foldl (λs b=>s+ZI li b) s<=s+bs.length*(10^39+3000)
 |[],s,_=>by simp|b::bs,s,h=>by
  have h1:=QbF (li:=li) (h b JN).1 (h b JN).2;have h2:=B4 li bs (s+ZI li b) (λx hx=>h x (JH _ hx));rw[Zq,JM];refine⟨by omega,ZW h2.2 ?_⟩;have:((bs.length+1:Nat):Int)*(10^39+3000)=bs.length*(10^39+3000)+(10^39+3000):=by rw[show((bs.length+1:Nat):Int)=(bs.length:Int)+1 from by omega,Int.add_mul,Int.one_mul]
  omega
def JI(ns:List Int):Bool:=decide (cell ns 3%2=1)
def dO(ns:List Int):Bool:=decide (cell ns 2%2=1)
def Jt(ns:List Int):List Bk:=Zn ns 4 2 (JI ns)
noncomputable def Jv(ns:List Int):List Bk:=U8 (Y1 ns)
noncomputable def Z1(ns:List Int):Int:=most (JI ns) (Jt ns++Jv ns)
noncomputable def dR(ns:List Int):Int:=Jw (Z1 ns).toNat
noncomputable def Jm(ns:List Int):Int×Int:=HV (dR ns) (Jv ns++Jt ns)
noncomputable def WB(ns:List Int):Int:=if(Jt ns).isEmpty then(Jm ns).1 else if dR ns+2>(Jm ns).1 then dR ns+2 else(Jm ns).1
noncomputable def dW(ns:List Int):Int:=if 4+ZU (cell ns 0) 1%30>WB ns then 4+ZU (cell ns 0) 1%30 else WB ns
noncomputable def dH(ns:List Int):Int:=if cell ns 1%5=1 then if 2+ZU (cell ns 1) 4%59>(Jm ns).2 then 2+ZU (cell ns 1) 4%59 else(Jm ns).2 else if 2+ZU (cell ns 1) 2%5>(Jm ns).2 then 2+ZU (cell ns 1) 2%5 else(Jm ns).2
noncomputable def QH(ns:List Int):List Bk:=Zn ns (dW ns) (dH ns) (JI ns)++Jv ns
def UB:(Str.ofString "").length=0:=by decide+kernel
def LD(n:Int):(YC (Str.ofString "w") n).length=n.toNat:=by rw[HS,show(Str.ofString "w").length=1 from by decide+kernel];omega
def TU(ns:List Int)(w h:Int)(li:Bool):(Zn ns w h li).length<=3/\((Zn ns w h li).flatMap iO).length<=3:=by
 unfold Zn;split;·simp
 ·simp[iO]
def QaA{n:Int}(h:1<=n/\n<=6):(10:Int)<=10^n.toNat/\(10:Int)^n.toNat<=10^6:=by
 have:n=1\/n=2\/n=3\/n=4\/n=5\/n=6:=by omega
 rcases this with q|q|q|q|q|q<;>subst q<;>decide
def Ie(ns:List Int):∀b∈Jt ns,V6 b:=by
 intro b hb;unfold Jt Zn at hb;have h6:=QaA (SR ns);have hN:=SR ns;split at hb;·cases hb
 ·simp only[q_5,Y4,or_false]at hb;rcases hb with z|z|z
  ·subst z;have:(10:Int)^6<=10^39:=by decide
   exact⟨by omega,by omega⟩
  ·subst z;refine⟨by simp,λr hr=>?_⟩;rw[List.eq_of_mem_replicate hr,UB];omega
  ·subst z;intro i hi;simp only[q_5,Y4,or_false]at hi;rcases hi with z|z|z<;>subst z
   ·refine⟨?_,by simp,by simp⟩;rw[LD];split<;>omega
   ·trivial
   ·exact⟨by rw[UB];omega,by rw[UB];omega⟩
def Io{xs ys:List Bk}{a b:Nat}(h1:xs.length<=a/\(xs.flatMap iO).length<=a)(h2:ys.length<=b/\(ys.flatMap iO).length<=b)(h:a+b<=100000):YM (xs++ys):=by
 refine⟨?_,?_⟩;·rw[Qg];omega
 ·rw[YI,Qg];omega
def TF(ns:List Int):(Y1 ns).length<58:=VE (Qcg ns) DK
def SG(ns:List Int):(Jv ns).length<=116/\((Jv ns).flatMap iO).length<=116:=by have:=Qce (Y1 ns) (TF ns);exact⟨this.1,by have:=this.2;unfold Jv;omega⟩
def Rz(ns:List Int):∀b∈Jv ns,V6 b:=Qcc _ (TF ns)
def P0(ns:List Int):3<=Z1 ns/\Z1 ns<10^42:=by
 have h:=B4 (JI ns) (Jt ns++Jv ns) 3 (λb hb=>by
  have h1:V6 b:=by
   rcases q_7.mp hb with z|z;·exact Ie ns b z
   ·exact Rz ns b z
  refine⟨h1,?_⟩;have hf:((Jt ns++Jv ns).flatMap iO).length<=119:=by
   rw[YI,Qg];have h1:=(TU ns 4 2 (JI ns)).2;have h2:=(SG ns).2;unfold Jt;omega
  obtain⟨s,t,e⟩:=List.append_of_mem hb;rw[e,YI,Zi]at hf;simp only[Qg]at hf;omega);have hl:((Jt ns++Jv ns).length:Int)<=119:=by
  rw[Qg];have h1:=(TU ns 4 2 (JI ns)).1;have h2:=(SG ns).1;unfold Jt;omega
 refine⟨h.1,?_⟩;have h2:Z1 ns<=3+((Jt ns++Jv ns).length:Int)*(10^39+3000):=h.2;have h3:((Jt ns++Jv ns).length:Int)*(10^39+3000)<=119*(10^39+3000):=Int.mul_le_mul_of_nonneg_right hl (by decide);have h4:(3:Int)+119*(10^39+3000)<10^42:=by decide
 omega
def TJ(ns:List Int):1<=dR ns/\dR ns<=42:=by
 have h:=P0 ns;have h1:=SO (Z1 ns).toNat;have h2:Jw (Z1 ns).toNat<=42:=(Oj (by decide) (by decide)).mpr (by
  have:((10^42:Nat):Int)=10^42:=by decide
  omega);unfold dR;omega
def P1(ns:List Int):4<=(Jm ns).1/\(Jm ns).1<=85/\2<=(Jm ns).2/\(Jm ns).2<=31/\∀b∈Jv ns++Jt ns,Vq (dR ns) (Jm ns).1 (Jm ns).2 b:=by
 have hr:=TJ ns;exact BD (dR ns) 85 31 (by omega) (by omega) (by decide) (Jv ns++Jt ns) (4,2) (λb hb=>by
  rcases q_7.mp hb with z|z;·exact Rz ns b z
  ·exact Ie ns b z) (by decide) (by decide)
def D2(ns:List Int):(Jm ns).1<=WB ns/\WB ns<=85:=by
 have h1:=P1 ns;have h2:=TJ ns;unfold WB;split;·omega
 ·split<;>omega
def UY(ns:List Int):WB ns<=dW ns/\4<=dW ns/\dW ns<=90:=by have h1:=P1 ns;have h2:=D2 ns;unfold dW;split<;>omega
def Wi(ns:List Int):(Jm ns).2<=dH ns/\2<=dH ns/\dH ns<=60:=by
 have h1:=P1 ns;unfold dH;split;·split<;>omega
 ·split<;>omega
def Ls{xs ys:List Bk}(h:xs.length+ys.length<=lI):D.add (Q7 xs) (Q7 ys)=some (Q7 (xs++ys)):=S3 (f:=Bk.d) h
def QfW(xs:List Bk):D.neO (Q7 xs) (.lst [])=QL (!xs.isEmpty):=BB D7 (by decide) xs
def QbW(ns:List Int)(e:QD)(hc:Xa 1 [1] e=[none,QB ((Y8 ns).map .int)])(a:Q8)(ha:a e=Q1 (ZU (cell ns 5) 29%XG)):JB 1 [1] (ZM a) (gS 0) (JS true) (J7 (eV 1) (Js (eV 0) (QE D.len (eV 1)))) e=QB ((Y1 ns).map .int):=by
 obtain⟨m,em⟩:∃m:Nat,ZU (cell ns 5) 29%XG=m:=⟨(ZU (cell ns 5) 29%XG).toNat,by have:=XR (ZU (cell ns 5) 29) (show(XG:Int)≠0 by decide);omega⟩;have hm:m<=58:=by
  have h1:=Xu (ZU (cell ns 5) 29) (show(0:Int)<XG by decide);have:=DK;omega
 rw[Yh (λi:Nat=>D.int (0+(i:Int))) (List.range m) (λe=>∃v,e=[v,QB ((Y8 ns).map .int)]) (λ_=>true) (λi:Nat=>.int ((Y8 ns).getD ((i:Int)%((Y8 ns).length:Int)).toNat 0)) (by unfold ZM;rw[ha,em];exact Ms m (by omega)) (lB (by simp;omega)) ⟨none,hc⟩ (by
  rintro i hi e⟨v,rfl⟩;refine⟨[Q1 (0+(i:Int)),QB ((Y8 ns).map .int)],rfl,⟨_,rfl⟩,rfl,λ_=>?_⟩;have hn:(0:Int)<((Y8 ns).length:Int):=by unfold Y8;simp only[Qg,JM,WU];omega
  have ln:D.len (.lst ((Y8 ns).map .int))=some (.int (Y8 ns).length):=by
   show some (D.int ((Y8 ns).map D.int).length)=_;rw[Qm]
  have md:D.mod (.int (i:Int)) (.int ((Y8 ns).length:Int))=Q1 ((i:Int)%((Y8 ns).length:Int)):=Xp hn;have iP:=WO (f:=D.int) (Y8 ns) ((i:Int)%((Y8 ns).length:Int)) 0 (XR _ (by omega)) (Xu _ hn);generalize(Y8 ns).map D.int=EV at*;simp[Q4,eV,QE,ln,md,iP])];rw[XM];unfold Y1;rw[em,W5];rfl
def QbC(cs:List Int)(A:Int×Nat->At)(hl:cs.length<=58)(e:QD)(h2:eV 2 e=QB (cs.map .int))(hA:∀p∈cs.zipIdx,∀j:Int,j=p.2->Uc [.int p.1,.int j]=some (A p).d):JB 2 [] (Xj (eV 2)) (Jb [gS 0,gS 1]) (JS true) (eK Uc (Qc (eV 1) (eV 0))) e=QB ((cs.zipIdx.map A).map At.d):=by rw[Yh (λp:Int×Nat=>D.tup [.int p.2,.int p.1]) cs.zipIdx (λe=>∃u v,e=[u,v]) (λ_=>true) (λp:Int×Nat=>(A p).d) (by unfold Xj;rw[h2];show some (WI 0 (cs.map .int))=_;rw[PF]) (lB (by simp;omega)) ⟨none,none,rfl⟩ (by rintro p hp e⟨u,v,rfl⟩;obtain⟨j,ej⟩:∃j:Int,(p.2:Int)=j:=⟨_,rfl⟩;have h:=hA p hp j ej.symm;rw[ej];refine⟨[Q1 j,Q1 p.1],rfl,⟨_,_,rfl⟩,rfl,λ_=>?_⟩;generalize(A p).d=X at*;simp only[eK,lC,lN,eV,X1,W4,X2,ZA,WX,h])];rw[XM,W5];rfl
def QbB(ns:List Int)(e:QD)(h2:eV 2 e=QB ((Y1 ns).map .int)):JB 2 [] (Xj (eV 2)) (Jb [gS 0,gS 1]) (JS true) (eK Uc (Qc (eV 1) (eV 0))) e=QB ((ZJ (Y1 ns)).map At.d):=by have hl:=TF ns;exact QbC (Y1 ns) (λp=>We p.1 p.2) (by omega) e h2 (λp hp j ej=>by rw[ej];exact(K4 p.1 p.2 (by have:=B1 hp;omega)).1)
def QdF(ns:List Int):SX [.scr ns]=some (.tup [Q7 (QH ns),.tup [.int (dW ns),.int (dH ns),.bl (dO ns),.bl (JI ns)],.int (dR ns)]):=by
 have cl:=TF ns;have hB:=SG ns;have hE:=TU ns 4 2 (JI ns);have hE2:=TU ns (dW ns) (dH ns) (JI ns);have hm:=P0 ns;have hn:=P1 ns;have hw:=UY ns;have hh:=Wi ns;have eE:Zn ns 4 2 (JI ns)=Jt ns:=rfl;rw[eE]at hE;have c0:Yv [.scr ns,.int 0]=Q1 (cell ns 0):=SD ns 0;have c1:Yv [.scr ns,.int 1]=Q1 (cell ns 1):=SD ns 1;have c2:Yv [.scr ns,.int 2]=Q1 (cell ns 2):=SD ns 2;have c3:Yv [.scr ns,.int 3]=Q1 (cell ns 3):=SD ns 3;have c5:Yv [.scr ns,.int 5]=Q1 (cell ns 5):=SD ns 5;have k8:=Tf (cell ns 5) 29 (by decide) (by decide);have m1:=Tf (cell ns 0) 1 (by decide) (by decide);have m2:=Tf (cell ns 1) 2 (by decide) (by decide);have m4:=Tf (cell ns 1) 4 (by decide) (by decide);have cu:Vb (.scr ns) none (some 63)=QB ((Zc ns none (some 63)).map .int):=rfl;have ev:D.add (.lst ((Zc ns none (some 63)).map .int)) (.lst [.int 7])=QB ((Y8 ns).map .int):=S3 (f:=D.int) (ys:=[7]) (lB (by have:=Qb9 ns;simp;omega));have pe:=Qip (ZJ (Y1 ns)) (Y1 ns) (NI _) (by rw[NI];omega) (λa ha=>S6 (Ic _ (by omega) a ha));have ge:=Qcd (Y1 ns) cl;have ee:=DO ns 4 2 false (JI ns) (by decide) (by decide);have mZ:=DO ns (dW ns) (dH ns) (dO ns) (JI ns) (by omega) (by omega);have fw:YM (Jt ns++Jv ns):=Io hE hB (by decide);have mY:YM (Jv ns++Jt ns):=Io hB hE (by decide);have a1:D.add (Q7 (Jt ns)) (Q7 (Jv ns))=some (Q7 (Jt ns++Jv ns)):=Ls (lB (by omega));have a2:D.add (Q7 (Jv ns)) (Q7 (Jt ns))=some (Q7 (Jv ns++Jt ns)):=Ls (lB (by omega));have a3:D.add (Q7 (Zn ns (dW ns) (dH ns) (JI ns))) (Q7 (Jv ns))=some (Q7 (QH ns)):=Ls (lB (by omega));have mo:PL [Q7 (Jt ns++Jv ns),.bl (JI ns)]=Q1 (Z1 ns):=QfO _ _ fw;have ne:PM [Q7 (Jv ns++Jt ns),.int (dR ns)]=some (.tup [.int (Jm ns).1,.int (Jm ns).2]):=Qf5 _ _ mY (λb hb=>by
  rcases q_7.mp hb with z|z;·exact Rz ns b z
  ·exact Ie ns b z);have nb:=QfW (Jt ns);have iK:D.strI (.int (Z1 ns))=QP (Str.ofString (toString (Z1 ns))):=if_pos (by
  have:(10:Nat)^42<2^1900:=by decide+kernel
  have:((10^42:Nat):Int)=10^42:=by decide
  omega);have ef:(Str.ofString (toString (Z1 ns))).length=Jw (Z1 ns).toNat:=by
  have:Z1 ns=((Z1 ns).toNat:Int):=by omega
  conv=>lhs;rw[this]
  exact Ge _
 have hr:=TJ ns;have eR:D.len (.str (Str.ofString (toString (Z1 ns))))=Q1 (dR ns):=by rw[Yw (by rw[ef];have:dR ns=Jw (Z1 ns).toNat:=rfl;omega),ef];rfl
 have m6:(if(!(Jt ns).isEmpty)=true then(if dR ns+2>(Jm ns).1 then dR ns+2 else(Jm ns).1)else(Jm ns).1)=WB ns:=by unfold WB;cases(Jt ns).isEmpty<;>rfl
 have ng:D.eqO (.int (cell ns 3%2)) (.int 1)=QL (JI ns):=by simp[D.eqO,Z5,ZC,D.cmp,JI]
 have m9:D.eqO (.int (cell ns 2%2)) (.int 1)=QL (dO ns):=by simp[D.eqO,Z5,ZC,D.cmp,dO]
 have jl:D.eqO (.int (cell ns 1%5)) (.int 1)=QL (decide (cell ns 1%5=1)):=by simp[D.eqO,Z5,ZC,D.cmp]
 unfold SX K9;refine Qy rfl ?_;refine st (e1:=[some (.scr ns),QB ((Y8 ns).map .int),none,none,none,none,none,none,none,none,none,none]) (Qf (by simp only[Q4,ZK,eV,sD,ZQ,map_nil,List.cons_append,nil_append,X1,X2,ZA,Zz,Z9,eC,cu,QS,lC,lN,WX,ev]) rfl) ?_;refine st (e1:=[some (.scr ns),QB ((Y8 ns).map .int),QB ((Y1 ns).map .int),none,none,none,none,none,none,none,none,none]) (Qf (QbW ns _ rfl _ (by simp[Q4,eK,lC,lN,eV,eC,c5,k8,Zg,XG])) rfl) ?_;have ac:=QbB ns [some (.scr ns),QB ((Y8 ns).map .int),QB ((Y1 ns).map .int),none,none,none,none,none,none,none,none,none] rfl;generalize hCE:(Y1 ns).map D.int=CE at*;generalize hEV:(Y8 ns).map D.int=EV at*;refine st (e1:=[some (.scr ns),QB EV,QB CE,some (Q7 (Jv ns)),none,none,none,none,none,none,none,none]) (Qf (by have mX:TY [.lst ((ZV (Y1 ns) (ZJ (Y1 ns))).map At.d)]=some (Q7 (Jv ns)):=ge;generalize(ZV (Y1 ns) (ZJ (Y1 ns))).map At.d=P at*;generalize(ZJ (Y1 ns)).map At.d=A at*;simp only[eK,lC,lN,ac,eV,X1,W4,X2,ZA,WX,pe,mX]) rfl) ?_;refine st (e1:=[some (.scr ns),QB EV,QB CE,some (Q7 (Jv ns)),QL (JI ns),none,none,none,none,none,none,none]) (Qf (by simp[Q4,eK,lC,lN,eV,eC,c3,Zg,ng]) rfl) ?_;rw[eE]at ee;generalize Str.ofString (toString (Z1 ns))=SM at*;generalize Q7 (QH ns)=ALL at*;generalize Q7 (Zn ns (dW ns) (dH ns) (JI ns))=ED at*;generalize Q7 (Jt ns++Jv ns)=EB at*;generalize Q7 (Jv ns++Jt ns)=BE at*;generalize Q7 (Jt ns)=E0 at*;generalize Q7 (Jv ns)=BK at*;refine st (e1:=[some (.scr ns),QB EV,QB CE,some BK,QL (JI ns),some E0,none,none,none,none,none,none]) (Qf (by simp[eK,QT,lC,lN,eV,eC,ee]) rfl) ?_;refine st (e1:=[some (.scr ns),QB EV,QB CE,some BK,QL (JI ns),some E0,Q1 (dR ns),none,none,none,none,none]) (Qf (by simp[QE,Q4,eK,lC,lN,eV,a1,mo,iK,eR]) rfl) ?_;refine st (e1:=[some (.scr ns),QB EV,QB CE,some BK,QL (JI ns),some E0,Q1 (dR ns),some (.int (Jm ns).1),some (.int (Jm ns).2),none,none,none]) (Qf (d:=.tup [.int (Jm ns).1,.int (Jm ns).2]) (by simp only[Q4,eK,lC,lN,eV,X1,W4,X2,ZA,WX,a2,ne]) rfl) ?_;refine st (e1:=[some (.scr ns),QB EV,QB CE,some BK,QL (JI ns),some E0,Q1 (dR ns),Q1 (WB ns),some (.int (Jm ns).2),none,none,none]) (by rw[<-m6];cases q:(Jt ns).isEmpty<;>rw[q]at nb<;>simp[QC,Q4,eV,QS,lN,nb,Jr,QA,gS,eC,add_int,D.max2,QK]) ?_;refine st (e1:=[some (.scr ns),QB EV,QB CE,some BK,QL (JI ns),some E0,Q1 (dR ns),Q1 (WB ns),some (.int (Jm ns).2),Q1 (dW ns),none,none]) (Qf (by unfold dW;simp[Q4,eV,eC,eK,lC,lN,c0,m1,Zg,add_int,D.max2]) rfl) ?_;obtain⟨H0,kF⟩:∃H0:Int,(if 2+ZU (cell ns 1) 2%5>(Jm ns).2 then 2+ZU (cell ns 1) 2%5 else(Jm ns).2)=H0:=⟨_,rfl⟩;refine st (e1:=[some (.scr ns),QB EV,QB CE,some BK,QL (JI ns),some E0,Q1 (dR ns),Q1 (WB ns),some (.int (Jm ns).2),Q1 (dW ns),Q1 H0,none]) (Qf (by rw[<-kF];simp[Q4,eV,eC,eK,lC,lN,c1,m2,Zg,add_int,D.max2]) rfl) ?_;refine st (e1:=[some (.scr ns),QB EV,QB CE,some BK,QL (JI ns),some E0,Q1 (dR ns),Q1 (WB ns),some (.int (Jm ns).2),Q1 (dW ns),Q1 (dH ns),none]) (by
  unfold dH;by_cases z:cell ns 1%5=1
  ·rw[if_pos z];rw[z]at jl;simp[QC,Q4,eV,eC,eK,lC,lN,c1,m4,Zg,jl,z,Jr,QA,gS,add_int,D.max2]
  ·rw[if_neg z,kF];simp[QC,Q4,eV,eC,eK,lC,lN,c1,Zg,jl,z,Jr,QK]) ?_;refine st (e1:=[some (.scr ns),QB EV,QB CE,some BK,QL (JI ns),some E0,Q1 (dR ns),Q1 (WB ns),some (.int (Jm ns).2),Q1 (dW ns),Q1 (dH ns),some (.tup [.int (dW ns),.int (dH ns),.bl (dO ns),.bl (JI ns)])]) (Qf (by simp[QT,Q4,eV,eC,eK,lC,lN,c2,Zg,m9]) rfl) ?_;refine ret ?_;simp[QT,Q4,eV,eK,lC,lN,mZ,a3]
theorem XI:∀xs:List D,(∀x∈xs,D.eq x x=some true)->D.eqL xs xs=some true|[],_=>WJ|x::xs,h=>by rw[Wr,h x JN,XI xs λy hy=>h y (JH _ hy)];rfl
def Xf(x:Str):D.eq (.str x) (.str x)=some true:=by rw[YS];simp
def Im(x:Int):D.eq (.int x) (.int x)=some true:=by rw[ZC];simp
def PH{α:Type}{f:α->D}(h:∀a,D.eq (f a) (f a)=some true)(xs:List α):D.eq (.lst (xs.map f)) (.lst (xs.map f))=some true:=by rw[Ws];refine XI _ λx hx=>?_;obtain⟨a,_,rfl⟩:=q_20.mp hx;exact h a
def Dg(xs:List Str):D.eq (QM xs) (QM xs)=some true:=PH Xf xs
def Qd1(i:It):D.eq i.d i.d=some true:=by cases i with
 |word w ns=>simp only[It.d];rw[VJ];refine XI _ λx hx=>?_;simp only[q_5,Y4,or_false]at hx;rcases hx with z|z|z<;>subst z<;>first|exact Xf _|exact Dg _
 |ref l a b=>simp only[It.d];rw[VJ];refine XI _ λx hx=>?_;simp only[q_5,Y4,or_false]at hx;rcases hx with z|z|z|z<;>subst z<;>exact Xf _|mark l=>simp only[It.d];rw[VJ];refine XI _ λx hx=>?_;simp only[q_5,Y4,or_false]at hx;rcases hx with z|z<;>subst z<;>exact Xf _|key l=>simp only[It.d];rw[VJ];refine XI _ λx hx=>?_;simp only[q_5,Y4,or_false]at hx;rcases hx with z|z<;>subst z<;>exact Xf _
def DY(b:Bk):D.eq b.d b.d=some true:=by cases b with
 |chapter t l=>simp only[Bk.d];rw[VJ];refine XI _ λx hx=>?_;simp only[q_5,Y4,or_false]at hx;rcases hx with z|z|z<;>subst z<;>exact Xf _|heading t k l=>simp only[Bk.d];rw[VJ];refine XI _ λx hx=>?_;simp only[q_5,Y4,or_false]at hx;rcases hx with z|z|z|z<;>subst z<;>first|exact Xf _|exact Im _
 |para is=>simp only[Bk.d];rw[VJ];refine XI _ λx hx=>?_;simp only[q_5,Y4,or_false]at hx;rcases hx with z|z<;>subst z<;>first|exact Xf _|exact PH Qd1 _
 |table rs l=>simp only[Bk.d];rw[VJ];refine XI _ λx hx=>?_;simp only[q_5,Y4,or_false]at hx;rcases hx with z|z|z<;>subst z<;>first|exact Xf _|exact Dg _
 |plates n l=>simp only[Bk.d];rw[VJ];refine XI _ λx hx=>?_;simp only[q_5,Y4,or_false]at hx;rcases hx with z|z|z<;>subst z<;>first|exact Xf _|exact Im _
def Qko(bs:List Bk):D.eqO (Q7 bs) (Q7 bs)=QL true:=by unfold D.eqO;rw[if_pos (by have:=D8 bs;omega),show D.eq (Q7 bs) (Q7 bs)=some true from PH DY bs];rfl
def QfX(bs:List Bk):D.neO (Q7 bs) (Q7 bs)=QL false:=by unfold D.neO;rw[if_pos (by have:=D8 bs;omega),show D.eq (Q7 bs) (Q7 bs)=some true from PH DY bs];rfl
def Xb(ns:List Int):YM (QH ns):=Io (TU ns _ _ _) (SG ns) (by decide)
structure Sta where
 p:Int
 l:Int
 u:Int
 f:Int
structure Plc where
 p:Int
 l:Int
 c:Int
noncomputable def Sta.d(s:Sta):D:=.tup [.int s.p,.int s.l,.int s.u,.int s.f]
noncomputable def Plc.d(s:Plc):D:=.tup [.int s.p,.int s.l,.int s.c]
noncomputable def QR(w h:Int)(o li:Bool):D:=.tup [.int w,.int h,.bl o,.bl li]
def ZF(x:Plc×Sta):D:=.tup [x.1.d,x.2.d]
def p0(x:Plc×Sta):D.ix (ZF x) (.int 0)=some x.1.d:=rfl
def p1(x:Plc×Sta):D.ix (ZF x) (.int 1)=some x.2.d:=rfl
noncomputable def JE(w h:Int)(s:Sta)(n r:Int):Plc×Sta:=if(s.u=0\/s.u+1+n<=w)/\s.l+s.f+(1+r)<=h then(⟨s.p,s.l,if s.u=0 then 0 else s.u+1⟩,⟨s.p,s.l,(if s.u=0 then 0 else s.u+1)+n,s.f+r⟩)else if 0<s.u/\s.l+s.f+(2+r)<=h then(⟨s.p,s.l+1,0⟩,⟨s.p,s.l+1,0+n,s.f+r⟩)else(⟨s.p+1,0,0⟩,⟨s.p+1,0,0+n,r⟩)
def Qez(w h:Int)(o li:Bool)(s:Sta)(n:Int):NY [QR w h o li,s.d,.int n]=QL (decide (s.u=0\/s.u+1+n<=w)):=by
 have i2:D.ix s.d (.int 2)=Q1 s.u:=rfl;unfold NY Kf;refine Qy rfl (ret ?_);by_cases h1:s.u=0;·rw[Jf (.inl h1)];exact R1 (Q0 (Q0 (x:=s.d) rfl rfl i2) rfl (XJ h1))
 ·refine VV (Q0 (Q0 (x:=s.d) rfl rfl i2) rfl (XH h1)) (Q0 (Q0 (Q0 (Q0 (x:=s.d) rfl rfl i2) rfl rfl) rfl rfl) (Q0 (x:=QR w h o li) rfl rfl rfl) ?_);show some (D.bl (decide (s.u+1+n<=w)))=_;congr 2;exact decide_eq_decide.mpr ⟨.inr,λz=>z.resolve_left h1⟩
def HA(w h:Int)(o li:Bool)(s:Sta)(n:Int):Sd [QR w h o li,s.d,.int n]=QL (decide (s.l+s.f+n<=h)):=by unfold Sd Ke QR Sta.d;simp[Xq,ZK,Vb,lI,Qj,sD,sQ,QC,QQ,RL,QA,W6,Wa,QK,RI,Uv,gS,Jb,VC,eV,eC,Q4,QE,Zw,JV,J8,Vg,Xe,QT,QS,eK,lN,lC,Vh,Zz,Z9,SQ,D.len,D.lt,D.le,D.gt,D.ge,D.add,D.sub,D.ix,D.eqO,D.neO,D.cmp,D.cmpN,D.inst,W9,D.isT,D.intB,D.min2,D.max2,D.neg,D.addI,Jr,Sy,Sk,Sz,X4,UT,RN,RO,RQ,RP,SV,SU,SS,S9,Sv,U2,TN,TM,Z5,Zu,Vv,VA,Vd,Yq,D.rng,D.its,D.itsT,ZC,SW,YS,VJ,Ws,WJ,Wr,Jh]
def Bq(w h:Int)(o li:Bool)(s:Sta)(n r:Int):Ph [QR w h o li,s.d,.int n,.int r]=some (ZF (JE w h s n r)):=by
 have a1:=Qez w h o li s n;have a2:=HA w h o li s (1+r);have a3:=HA w h o li s (2+r);have i0:D.ix s.d (.int 0)=Q1 s.p:=rfl;have i1:D.ix s.d (.int 1)=Q1 s.l:=rfl;have i2:D.ix s.d (.int 2)=Q1 s.u:=rfl;have i3:D.ix s.d (.int 3)=Q1 s.f:=rfl;have wa:∀a b c d e:Int,Si [.int a,.int b,.int c,.int d,.int e]=some (ZF (⟨a,b,c⟩,⟨a,b,c+d,e⟩)):=λa b c d e=>by
  unfold Si IP ZF Plc.d Sta.d;simp[Xq,ZK,Vb,lI,Qj,sD,sQ,QC,QQ,RL,QA,W6,Wa,QK,RI,Uv,gS,Jb,VC,eV,eC,Q4,QE,Zw,JV,J8,Vg,Xe,QT,QS,eK,lN,lC,Vh,Zz,Z9,SQ,D.len,D.lt,D.le,D.gt,D.ge,D.add,D.sub,D.ix,D.eqO,D.neO,D.cmp,D.cmpN,D.inst,W9,D.isT,D.intB,D.min2,D.max2,D.neg,D.addI,Jr,Sy,Sk,Sz,X4,UT,RN,RO,RQ,RP,SV,SU,SS,S9,Sv,U2,TN,TM,Z5,Zu,Vv,VA,Vd,Yq,D.rng,D.its,D.itsT,ZC,SW,YS,VJ,Ws,WJ,Wr]
 have eu:D.eqO (.int s.u) (.int 0)=QL (decide (s.u=0)):=by simp[D.eqO,Z5,ZC,D.cmp]
 have gu:D.gt (.int s.u) (.int 0)=QL (decide (0<s.u)):=rfl;unfold Ph ID JE;generalize Sta.d s=σ at*;generalize QR w h o li=S at*;refine Qy rfl ?_;refine st (e1:=[some S,some σ,Q1 n,Q1 r,Q1 s.p,none,none,none,none]) (Qf (Q0 rfl rfl i0) rfl) ?_;refine st (e1:=[some S,some σ,Q1 n,Q1 r,Q1 s.p,Q1 s.l,none,none,none]) (Qf (Q0 rfl rfl i1) rfl) ?_;refine st (e1:=[some S,some σ,Q1 n,Q1 r,Q1 s.p,Q1 s.l,Q1 s.u,none,none]) (Qf (Q0 rfl rfl i2) rfl) ?_;refine st (e1:=[some S,some σ,Q1 n,Q1 r,Q1 s.p,Q1 s.l,Q1 s.u,Q1 (s.f+r),none]) (Qf (Q0 (Q0 rfl rfl i3) rfl rfl) rfl) ?_;by_cases h1:(s.u=0\/s.u+1+n<=w)/\s.l+s.f+(1+r)<=h
 ·rw[if_pos h1];refine Zj (Qr (Za (Zk rfl rfl rfl (by rw[a1,Jf h1.1])) (Zk rfl rfl (Q0 rfl rfl rfl) (by rw[a2,Jf h1.2]))) ?_);refine st (e1:=[some S,some σ,Q1 n,Q1 r,Q1 s.p,Q1 s.l,Q1 s.u,Q1 (s.f+r),Q1 (if s.u=0 then 0 else s.u+1)]) ?_ ?_
  ·refine Qf ?_ rfl;unfold Vg;rw[show QG (eV 6) (Q5 0) [some S,some σ,Q1 n,Q1 r,Q1 s.p,Q1 s.l,Q1 s.u,Q1 (s.f+r),none]=QL (decide (s.u=0))from Q0 rfl rfl eu,Jr];by_cases z:s.u=0;·rw[Jf z,if_pos rfl,if_pos z];rfl
   ·rw[JF z,if_neg (by decide),if_neg z];rfl
  ·refine ret ?_;simp only[eK,lC,lN,eV,X1,W4,X2,ZA,WX,wa]
 ·rw[if_neg h1];refine st (e1:=[some S,some σ,Q1 n,Q1 r,Q1 s.p,Q1 s.l,Q1 s.u,Q1 (s.f+r),none]) ?_ ?_
  ·refine QN ?_ rfl;by_cases z:s.u=0\/s.u+1+n<=w;·exact Za (Zk rfl rfl rfl (by rw[a1,Jf z])) (Zk rfl rfl (Q0 rfl rfl rfl) (by rw[a2,JF λq=>h1 ⟨z,q⟩]))
   ·exact Y6 (Zk rfl rfl rfl (by rw[a1,JF z]))
  ·by_cases h2:0<s.u/\s.l+s.f+(2+r)<=h
   ·rw[if_pos h2];refine Zj (Qr (Za (Q0 rfl rfl (by rw[gu,Jf h2.1])) (Zk rfl rfl (Q0 rfl rfl rfl) (by rw[a3,Jf h2.2]))) (ret ?_));simp only[eK,Q4,eC,lC,lN,eV,X1,W4,X2,ZA,WX,add_int,wa]
   ·rw[if_neg h2];refine st (e1:=[some S,some σ,Q1 n,Q1 r,Q1 s.p,Q1 s.l,Q1 s.u,Q1 (s.f+r),none]) ?_ ?_
    ·refine QN ?_ rfl;by_cases z:0<s.u;·exact Za (Q0 rfl rfl (by rw[gu,Jf z])) (Zk rfl rfl (Q0 rfl rfl rfl) (by rw[a3,JF λq=>h2 ⟨z,q⟩]))
     ·exact Y6 (Q0 rfl rfl (by rw[gu,JF z]))
    ·refine ret ?_;simp only[eK,Q4,eC,lC,lN,eV,X1,W4,X2,ZA,WX,add_int,wa]
noncomputable def endLine(s:Sta):Sta:=if s.u=0 then s else⟨s.p,s.l+1,0,s.f⟩
def DP(s:Sta):PZ [s.d]=some (endLine s).d:=by
 unfold PZ KZ endLine;by_cases z:s.u=0;·rw[if_pos z];exact Qy rfl (Zj (Qr (Q0 (Q0 (x:=s.d) rfl rfl rfl) rfl (XJ z)) (ret rfl)))
 ·rw[if_neg z];exact Qy rfl (st (QN (Q0 (Q0 (x:=s.d) rfl rfl rfl) rfl (XH z)) rfl) (ret (Ra (Q0 (x:=s.d) rfl rfl rfl) (Q0 (Q0 (x:=s.d) rfl rfl rfl) rfl rfl) rfl (Q0 (x:=s.d) rfl rfl rfl))))
def Jl(p:Int):Sta:=⟨p,0,0,0⟩
def S8(p:Int):UD [.int p]=some (Jl p).d:=by unfold UD KW;simp[Xq,ZK,Vb,lI,Qj,sD,sQ,QC,QQ,RL,QA,W6,Wa,QK,RI,Uv,gS,Jb,VC,eV,eC,Q4,QE,Zw,JV,J8,Vg,Xe,QT,QS,eK,lN,lC,Vh,Zz,Z9,SQ,D.len,D.lt,D.le,D.gt,D.ge,D.add,D.sub,D.ix,D.eqO,D.neO,D.cmp,D.cmpN,D.inst,W9,D.isT,D.intB,D.min2,D.max2,D.neg,D.addI,Jr,Sy,Sk,Sz,X4,UT,RN,RO,RQ,RP,SV,SU,SS,S9,Sv,U2,TN,TM,Z5,Zu,Vv,VA,Vd,Yq,D.rng,D.its,D.itsT,ZC,SW,YS,VJ,Ws,WJ,Wr,Sta.d,Jl]
def Jc(h:Int)(s:Sta)(rows keep:Int):Plc×Sta:=let t:=if(endLine s).l+(endLine s).f+(rows+keep)<=h then endLine s else Jl ((endLine s).p+1)
 (⟨t.p,t.l,0⟩,⟨t.p,t.l+rows,0,t.f⟩)
def Mk(w h:Int)(o li:Bool)(s:Sta)(rows keep:Int):Tc [QR w h o li,s.d,.int rows,.int keep]=some (ZF (Jc h s rows keep)):=by
 have a1:=DP s;have a2:=HA w h o li (endLine s) (rows+keep);have a3:=S8 ((endLine s).p+1);unfold Tc IB Jc;generalize endLine s=t at*;generalize Sta.d s=σ at*;have i0:D.ix t.d (.int 0)=Q1 t.p:=rfl;generalize QR w h o li=S at*;refine Qy rfl ?_;refine st (e1:=[some S,some σ,Q1 rows,Q1 keep,some t.d,none]) (Qf (JA rfl a1) rfl) ?_;obtain⟨t2,e2⟩:∃t2,(if t.l+t.f+(rows+keep)<=h then t else Jl (t.p+1))=t2:=⟨_,rfl⟩;refine st (e1:=[some S,some σ,Q1 rows,Q1 keep,some t2.d,none]) ?_ ?_
 ·by_cases z:t.l+t.f+(rows+keep)<=h;·rw[if_pos z]at e2;subst e2;exact QN (WR (b:=true) (Zk rfl rfl (Q0 rfl rfl rfl) (by rw[a2,Jf z]))) rfl
  ·rw[if_neg z]at e2;subst e2;exact Qr (WR (b:=false) (Zk rfl rfl (Q0 rfl rfl rfl) (by rw[a2,JF z]))) (Qf (JA (Q0 (Q0 rfl rfl i0) rfl rfl) a3) rfl)
 ·simp only[e2];exact st (e1:=[some S,some σ,Q1 rows,Q1 keep,some t2.d,some (Plc.d ⟨t2.p,t2.l,0⟩)]) (Qf (W8 (Q0 (x:=t2.d) rfl rfl rfl) (Q0 (x:=t2.d) rfl rfl rfl) rfl) rfl) (ret (Ov rfl (Ra (Q0 (x:=t2.d) rfl rfl rfl) (Q0 (Q0 (x:=t2.d) rfl rfl rfl) rfl rfl) rfl (Q0 (x:=t2.d) rfl rfl rfl))))
noncomputable def JR(s:Sta):Sta:=if s.l=0/\s.u=0/\s.f=0 then s else Jl (s.p+1)
def BH(s:Sta):Pg [s.d]=some (JR s).d:=by
 have b0:=S8 s.p;have b1:=S8 (s.p+1);unfold Pg Kx JR;have i0:D.ix s.d (.int 0)=Q1 s.p:=rfl;have eq:D.eqO s.d (Jl s.p).d=QL (decide (s.l=0/\s.u=0/\s.f=0)):=by
  unfold Sta.d Jl;unfold D.eqO;rw[if_pos (by rw[Vv,Yq,Yq,Yq,Yq,Vd,Z5,Z5,Z5,Z5];decide),VJ,Wr,Wr,Wr,Wr,WJ,ZC,ZC,ZC,ZC,Jf (rfl:s.p=s.p)];show some (D.bl (true&&(decide (s.l=0)&&(decide (s.u=0)&&(decide (s.f=0)&&true)))))=_;congr 2;rw[Bool.true_and,Bool.and_true,<-Bool.decide_and,<-Bool.decide_and]
 refine Qy rfl ?_;by_cases z:s.l=0/\s.u=0/\s.f=0
 ·rw[if_pos z];exact Zj (Qr (Q0 (x:=s.d) rfl (JA (Q0 (x:=s.d) rfl rfl i0) b0) (by rw[eq,Jf z])) (ret rfl))
 ·rw[if_neg z];exact st (QN (Q0 (x:=s.d) rfl (JA (Q0 (x:=s.d) rfl rfl i0) b0) (by rw[eq,JF z])) rfl) (ret (JA (Q0 (Q0 (x:=s.d) rfl rfl i0) rfl rfl) b1))
def Z2(o:Bool)(s:Sta):Sta:=if o=true/\(JR s).p%2=0 then Jl ((JR s).p+1)else JR s
def BF(w h:Int)(o li:Bool)(s:Sta):Pf [QR w h o li,s.d]=some (Z2 o s).d:=by
 have a1:=BH s;have b1:=S8 ((JR s).p+1);unfold Pf Kw Z2;generalize JR s=t at*;have i0:D.ix t.d (.int 0)=Q1 t.p:=rfl;have io:D.ix (QR w h o li) (.int 2)=QL o:=rfl;have em:D.eqO (.int (t.p%2)) (.int 0)=QL (decide (t.p%2=0)):=by simp[D.eqO,Z5,ZC,D.cmp]
 generalize QR w h o li=S at*;refine Qy rfl ?_;refine st (Qf (JA rfl a1) rfl) ?_;by_cases z:o=true/\t.p%2=0;·rw[if_pos z];exact Zj (Qr (Za (Q0 rfl rfl (by rw[io,z.1])) (Q0 (Q0 (Q0 (x:=t.d) rfl rfl i0) rfl (Zg _ (by decide))) rfl (by rw[em,Jf z.2]))) (ret (JA (Q0 (Q0 (x:=t.d) rfl rfl i0) rfl rfl) b1)))
 ·rw[if_neg z];refine st (QN ?_ rfl) (ret rfl);cases o with|false=>exact Y6 (Q0 rfl rfl io)|true=>exact Za (Q0 rfl rfl io) (Q0 (Q0 (Q0 (x:=t.d) rfl rfl i0) rfl (Zg _ (by decide))) rfl (by rw[em,JF λq=>z ⟨rfl,q⟩]))
def Hs(s:Sta)(n:Int):Plc×Sta:=(⟨(JR s).p,0,0⟩,Jl ((JR s).p+n))
def QiE(s:Sta)(n:Int):Nf [s.d,.int n]=some (ZF (Hs s n)):=by have a1:=BH s;have b1:=S8 ((JR s).p+n);unfold Nf IC Hs;generalize JR s=t at*;have i0:D.ix t.d (.int 0)=Q1 t.p:=rfl;refine Qy rfl ?_;refine st (e1:=[some s.d,Q1 n,Q1 t.p]) (Qf (Q0 (JA rfl a1) rfl i0) rfl) (ret ?_);simp only[QT,lC,lN,eV,eC,eK,Q4,X1,W4,X2,ZA,WX,add_int,b1,ZF,Plc.d]
noncomputable def Vx:Bk->Bool|.chapter _ _=>true|.heading _ _ _=>true|_=>false
def CK(x a b:Str):D.inO (.str x) (.tup [.str a,.str b])=QL (some (decide (a=x))==some true||(some (decide (b=x))==some true||false)):=by show(if Y9 (.str x)=true/\[D.str a,D.str b].all Y9=true then some (D.bl (D.eq (.str a) (.str x)==some true||(D.eq (.str b) (.str x)==some true||false)))else none)=_;rw[if_pos ⟨rfl,rfl⟩,YS,YS]
def Nq(b:Bk):Xh [b.d]=QL (Vx b):=by unfold Xh Kk;exact Qy rfl (ret (Q0 (Q0 (x:=b.d) rfl rfl (Ui b)) rfl ((CK _ _ _).trans (by cases b<;>rfl))))
def Np(i:It):WL [i.d]=QL (Qs i):=by unfold WL Ki;exact Qy rfl (ret (Q0 (Q0 (x:=i.d) rfl rfl (Uj i)) rfl ((CK _ _ _).trans (by cases i<;>rfl))))
def QV(xs:List Plc):D:=.lst (xs.map Plc.d)
def ER{xs:List Plc}(x:Plc)(h:xs.length<lI):D.app (QV xs) x.d=some (QV (xs++[x])):=WA (f:=Plc.d) x h
def Jo(w h:Int)(ae:List Int)(s:List Plc×Nat×Sta):It->List Plc×Nat×Sta|.word x ns=>(s.1++[(JE w h s.2.2 x.length ns.length).1],s.2.1,(JE w h s.2.2 x.length ns.length).2)|.ref _ a b=>(s.1++[(JE w h s.2.2 ((a.length:Int)+ae.getD s.2.1 0+b.length) 0).1],s.2.1+1,(JE w h s.2.2 ((a.length:Int)+ae.getD s.2.1 0+b.length) 0).2)|_=>s
def V2(w h:Int)(s:Sta)(ae:List Int)(is:List It):List Plc×Nat×Sta:=is.foldl (Jo w h ae) ([],0,s)
def Po{α σ:Type}(f:σ->α->σ)(s:σ)(xs:List α)(i:Nat)(hi:i<xs.length):(xs.take (i+1)).foldl f s=f ((xs.take i).foldl f s) xs[i]:=by rw[Xv hi,Ts];rfl
def QiV(is:List It)(i:Nat)(hi:i<is.length):(Qt (is.take (i+1))).length=(Qt (is.take i)).length+if ZT is[i]then 1 else 0:=by unfold Qt;rw[Xv hi,List.filter_append,Zr,Qg];congr 1;cases q:ZT is[i]<;>simp[q]
def QiW(is:List It)(i:Nat):(Qt (is.take i)).length<=(Qt is).length:=by unfold Qt;rw[Qm,Qm];exact((take_sublist i is).filter _).length_le
theorem CO(w h:Int)(ae:List Int):∀(is:List It)(s:List Plc×Nat×Sta),(is.foldl (Jo w h ae) s).1.length<=s.1.length+is.length/\(is.foldl (Jo w h ae) s).2.1=s.2.1+(Qt is).length|[],s=>⟨Qx _,rfl⟩|i::is,s=>by obtain⟨h1,h2⟩:=CO w h ae is (Jo w h ae s i);rw[Zq,JM];unfold Qt at h2⊢;cases i<;>simp[Jo,filter_cons,ZT]at h1 h2⊢<;>omega
noncomputable def X9:It->Prop|.word x ns=>x.length<=1000/\ns.length<=1000/\∀r∈ns,r.length<=1000|.ref _ a b=>a.length<=1000/\b.length<=1000|_=>True
def Qji(w h:Int)(o li:Bool)(s:Sta)(ae:List Int)(is:List It)(hl:is.length<=100000)(hr:(Qt is).length<=ae.length)(ht:∀i∈is,X9 i):Pk [.lst (is.map It.d),QR w h o li,s.d,.lst (ae.map .int)]=some (.tup [QV (V2 w h s ae is).1,(endLine (V2 w h s ae is).2.2).d]):=by
 unfold Pk IJ;refine Qy rfl ?_;refine st (e1:=[some (.lst (is.map It.d)),some (QR w h o li),some s.d,some (.lst (ae.map .int)),some (QV []),none,none,none,none]) rfl ?_;refine st (e1:=[some (.lst (is.map It.d)),some (QR w h o li),some s.d,some (.lst (ae.map .int)),some (QV []),some (.int 0),none,none,none]) rfl ?_;refine Vn It.d is (λi e=>∃a b c,e=[some (.lst (is.map It.d)),some (QR w h o li),some ((is.take i).foldl (Jo w h ae) ([],0,s)).2.2.d,some (.lst (ae.map .int)),some (QV ((is.take i).foldl (Jo w h ae) ([],0,s)).1),some (.int ((is.take i).foldl (Jo w h ae) ([],0,s)).2.1),a,b,c]) rfl ⟨none,none,none,rfl⟩ ?_ ?_
 ·rintro i hi e⟨a,b,c,rfl⟩;rw[Po _ _ _ _ hi];have hb:=(CO w h ae (is.take i) ([],0,s));have bM:((is.take i).foldl (Jo w h ae) ([],0,s)).1.length<lI:=Zx (by have:=hb.1;rw[YG]at this;simp at this;omega);have h2:=hb.2;have h3:=QiV is i hi;have h4:=QiW is (i+1);have hT:=ht is[i] (ZY hi);have bJ:=Np is[i];generalize is[i]=x at*;generalize(is.take i).foldl (Jo w h ae) ([],0,s)=z at*;obtain⟨pl,k,t⟩:=z;simp only[]at bM h2⊢;simp at h2;have ap:=λy=>ER (xs:=pl) y bM;generalize D.lst (is.map It.d)=IS at*;cases x with
  |word wd ns=>
   refine⟨_,.inl ?_,some (It.word wd ns).d,b,some (ZF (JE w h t wd.length ns.length)),rfl⟩;refine J6 rfl ?_;refine Qr (JA rfl bJ) ?_;have l1:=Yw (x:=wd) (by have:=hT.1;omega);have l2:=Um ns;have pw:=Bq w h o li t wd.length ns.length;refine st (e1:=[some IS,some (QR w h o li),some t.d,some (.lst (ae.map .int)),some (QV pl),some (.int k),some (It.word wd ns).d,b,some (ZF (JE w h t wd.length ns.length))]) ?_ ?_
   ·refine QN (Q0 (x:=.str "word") (Q0 (x:=(It.word wd ns).d) rfl rfl rfl) rfl (by rw[QO];simp)) ?_;exact Qf (TB rfl rfl (JO (Q0 (x:=(It.word wd ns).d) rfl rfl rfl) l1) (JO (Q0 (x:=(It.word wd ns).d) rfl rfl rfl) l2) pw) rfl
   ·refine st (e1:=[some IS,some (QR w h o li),some t.d,some (.lst (ae.map .int)),some (QV (pl++[(JE w h t wd.length ns.length).1])),some (.int k),some (It.word wd ns).d,b,some (ZF (JE w h t wd.length ns.length))]) (Zt rfl (Q0 (x:=ZF (JE w h t wd.length ns.length)) rfl rfl (p0 _)) (ap _)) ?_;exact Qf (Q0 (x:=ZF (JE w h t wd.length ns.length)) rfl rfl (p1 _)) rfl|ref l x1 x2=>
   have hk:k<ae.length:=by
    have e1:ZT (It.ref l x1 x2)=true:=rfl;rw[e1,if_pos rfl]at h3;omega
   have rx:D.ix (.lst (ae.map .int)) (.int k)=some (.int (ae.getD k 0)):=WO (f:=D.int) ae k 0 (by omega) (by omega);obtain⟨sz,gj⟩:∃sz:Int,(x1.length:Int)+ae.getD k 0+x2.length=sz:=⟨_,rfl⟩;have pw:=Bq w h o li t sz 0;have e1:Jo w h ae (pl,k,t) (.ref l x1 x2)=(pl++[(JE w h t sz 0).1],k+1,(JE w h t sz 0).2):=by rw[<-gj];rfl
   rw[e1];refine⟨_,.inl ?_,some (It.ref l x1 x2).d,some (.int sz),some (ZF (JE w h t sz 0)),rfl⟩;refine J6 rfl ?_;refine Qr (JA rfl bJ) ?_;have l1:=Yw (x:=x1) (by have:=hT.1;omega);have l2:=Yw (x:=x2) (by have:=hT.2;omega);refine st (e1:=[some IS,some (QR w h o li),some t.d,some (.lst (ae.map .int)),some (QV pl),some (.int (k+1:Nat)),some (It.ref l x1 x2).d,some (.int sz),some (ZF (JE w h t sz 0))]) ?_ ?_
   ·refine Qr (Q0 (x:=.str "ref") (Q0 (x:=(It.ref l x1 x2).d) rfl rfl rfl) rfl (by rw[QO];simp)) ?_;refine st (e1:=[some IS,some (QR w h o li),some t.d,some (.lst (ae.map .int)),some (QV pl),some (.int k),some (It.ref l x1 x2).d,some (.int sz),c]) (Qf (Q0 (Q0 (JO (Q0 (x:=(It.ref l x1 x2).d) rfl rfl rfl) l1) (Q0 (x:=.lst (ae.map .int)) rfl rfl rx) rfl) (JO (Q0 (x:=(It.ref l x1 x2).d) rfl rfl rfl) l2) (by rw[add_int,gj])) rfl) ?_;refine st (e1:=[some IS,some (QR w h o li),some t.d,some (.lst (ae.map .int)),some (QV pl),some (.int k),some (It.ref l x1 x2).d,some (.int sz),some (ZF (JE w h t sz 0))]) (Qf (TB rfl rfl rfl rfl pw) rfl) ?_;rfl
   ·refine st (e1:=[some IS,some (QR w h o li),some t.d,some (.lst (ae.map .int)),some (QV (pl++[(JE w h t sz 0).1])),some (.int (k+1:Nat)),some (It.ref l x1 x2).d,some (.int sz),some (ZF (JE w h t sz 0))]) (Zt rfl (Q0 (x:=ZF (JE w h t sz 0)) rfl rfl (p0 _)) (ap _)) ?_;exact Qf (Q0 (x:=ZF (JE w h t sz 0)) rfl rfl (p1 _)) rfl|mark l=>exact⟨_,.inl (J6 rfl (QN (JA rfl bJ) rfl)),some (It.mark l).d,b,c,rfl⟩|key l=>exact⟨_,.inl (J6 rfl (QN (JA rfl bJ) rfl)),some (It.key l).d,b,c,rfl⟩
 ·rintro e⟨a,b,c,rfl⟩;rw[ZX];refine ret ?_;have:=DP (V2 w h s ae is).2.2;simp only[QT,lC,lN,eV,eK,X1,W4,X2,ZA,WX];rw[show(is.foldl (Jo w h ae) ([],0,s)).2.2=(V2 w h s ae is).2.2 from rfl,this];rfl
def Zb(h:Int)(s:List Plc×Sta)(b:Bk):List Plc×Sta:=if Vx b then(s.1++[(Jc h s.2 1 0).1],(Jc h s.2 1 0).2)else s
def Yi(h:Int)(bs:List Bk):List Plc×Sta:=bs.foldl (Zb h) ([],Jl 1)
def ZR(h:Int)(o li:Bool)(bs:List Bk):List Plc×Sta:=if li=true then((Yi h bs).1,if(Yi h bs).1.length>0 then Z2 o (Yi h bs).2 else(Yi h bs).2)else([],Jl 1)
theorem Er(h:Int):∀(bs:List Bk)(s:List Plc×Sta),(bs.foldl (Zb h) s).1.length<=s.1.length+bs.length
 |[],s=>Qx _|b::bs,s=>by
  have:=Er h bs (Zb h s b);rw[Zq,JM];have:(Zb h s b).1.length<=s.1.length+1:=by unfold Zb;split<;>simp
  omega
def Qft(xs:List Plc):D.len (QV xs)=Q1 xs.length:=by show some (D.int (xs.map Plc.d).length)=_;rw[Qm]
def Qjh(w h:Int)(o li:Bool)(bs:List Bk)(hl:bs.length<=100000):Nh [Q7 bs,QR w h o li]=some (.tup [QV (ZR h o li bs).1,(ZR h o li bs).2.d]):=by
 have b1:=S8 1;have io:D.ix (QR w h o li) (.int 3)=QL li:=rfl;unfold Nh II ZR;refine Qy rfl ?_;refine st (e1:=[some (Q7 bs),some (QR w h o li),some (QV []),none,none,none]) rfl ?_;refine st (e1:=[some (Q7 bs),some (QR w h o li),some (QV []),some (Jl 1).d,none,none]) (Qf (JA rfl b1) rfl) ?_;cases li with
 |false=>rw[if_neg (by decide)];exact Zj (Qr (WR (b:=false) (Q0 rfl rfl io)) (ret rfl))|true=>
  rw[if_pos rfl];refine st (QN (WR (b:=true) (Q0 rfl rfl io)) rfl) ?_;refine Vn Bk.d bs (λi e=>∃a b,e=[some (Q7 bs),some (QR w h o true),some (QV ((bs.take i).foldl (Zb h) ([],Jl 1)).1),some ((bs.take i).foldl (Zb h) ([],Jl 1)).2.d,a,b]) rfl ⟨none,none,rfl⟩ ?_ ?_
  ·rintro i hi e⟨a,b,rfl⟩;rw[Po _ _ _ _ hi];have hb:=Er h (bs.take i) ([],Jl 1);have bM:((bs.take i).foldl (Zb h) ([],Jl 1)).1.length<lI:=Zx (by rw[YG]at hb;simp at hb;omega);have it:=Nq bs[i];generalize bs[i]=x at*;generalize(bs.take i).foldl (Zb h) ([],Jl 1)=z at*;obtain⟨pl,t⟩:=z;simp only[]at bM⊢;have ap:=λy=>ER (xs:=pl) y bM;have pb:=Mk w h o true t 1 0;unfold Zb;cases q:Vx x with
   |true=>rw[if_pos rfl];rw[q]at it;refine⟨_,.inl ?_,some x.d,some (ZF (Jc h t 1 0)),rfl⟩;refine J6 rfl (Qr (JA rfl it) ?_);refine st (e1:=[some (Q7 bs),some (QR w h o true),some (QV pl),some t.d,some x.d,some (ZF (Jc h t 1 0))]) (Qf (TB rfl rfl rfl rfl pb) rfl) ?_;refine st (e1:=[some (Q7 bs),some (QR w h o true),some (QV (pl++[(Jc h t 1 0).1])),some t.d,some x.d,some (ZF (Jc h t 1 0))]) (Zt rfl (Q0 (x:=ZF (Jc h t 1 0)) rfl rfl (p0 _)) (ap _)) ?_;exact Qf (Q0 (x:=ZF (Jc h t 1 0)) rfl rfl (p1 _)) rfl|false=>
    rw[if_neg (by decide)];rw[q]at it;exact⟨_,.inl (J6 rfl (QN (JA rfl it) rfl)),some x.d,b,rfl⟩
  ·rintro e⟨a,b,rfl⟩;rw[ZX];have nc:=BF w h o true (Yi h bs).2;have ln:=Qft (Yi h bs).1;have cf:bs.foldl (Zb h) ([],Jl 1)=Yi h bs:=rfl;rw[cf];generalize Yi h bs=z at*;obtain⟨pl,t⟩:=z;simp only[]at nc ln⊢;refine st (e1:=[some (Q7 bs),some (QR w h o true),some (QV pl),some (if pl.length>0 then Z2 o t else t).d,a,b]) ?_ (ret rfl);by_cases z:pl.length>0
   ·rw[if_pos z];exact Qr (Q0 (JO (x:=QV pl) rfl ln) rfl (by show some (D.bl (decide ((0:Int)<pl.length)))=_;rw[Jf (by omega)])) (Qf (Z0 rfl rfl nc) rfl)
   ·rw[if_neg z];exact QN (Q0 (JO (x:=QV pl) rfl ln) rfl (by show some (D.bl (decide ((0:Int)<pl.length)))=_;rw[JF (by omega)])) rfl
def ZG(h:Int)(o:Bool)(s:Sta):Bk->Plc×Sta|.plates n _=>Hs s n|.table rs _=>Jc h s rs.length 0|.heading _ k _=>Jc h s 1 k|_=>Jc h (Z2 o s) 1 0
def Qje(w h:Int)(o li:Bool)(s:Sta)(b:Bk)(hb:VD b=false):Pj [b.d,QR w h o li,s.d]=some (ZF (ZG h o s b)):=by unfold Pj IG;cases b with|para is=>cases hb|plates n l=>have pp:=QiE s n;exact Qy rfl (Zj (Qr (Q0 (x:=.str "plates") (Q0 (x:=(Bk.plates n l).d) rfl rfl rfl) rfl (by rw[QO];simp)) (ret (Z0 rfl (Q0 (x:=(Bk.plates n l).d) rfl rfl rfl) pp))))|table rs l=>have pb:=Mk w h o li s rs.length 0;refine Qy rfl ?_;refine st (QN (Q0 (x:=.str "table") (Q0 (x:=(Bk.table rs l).d) rfl rfl rfl) rfl (by rw[QO];simp)) rfl) ?_;exact Zj (Qr (Q0 (x:=.str "table") (Q0 (x:=(Bk.table rs l).d) rfl rfl rfl) rfl (by rw[QO];simp)) (ret (TB rfl rfl (JO (Q0 (x:=(Bk.table rs l).d) rfl rfl rfl) (Um rs)) rfl pb)))|heading t k l=>have pb:=Mk w h o li s 1 k;refine Qy rfl ?_;refine st (QN (Q0 (x:=.str "heading") (Q0 (x:=(Bk.heading t k l).d) rfl rfl rfl) rfl (by rw[QO];simp)) rfl) ?_;refine st (QN (Q0 (x:=.str "heading") (Q0 (x:=(Bk.heading t k l).d) rfl rfl rfl) rfl (by rw[QO];simp)) rfl) ?_;exact Zj (Qr (Q0 (x:=.str "heading") (Q0 (x:=(Bk.heading t k l).d) rfl rfl rfl) rfl (by rw[QO];simp)) (ret (TB rfl rfl rfl (Q0 (x:=(Bk.heading t k l).d) rfl rfl rfl) pb)))|chapter t l=>have nc:=BF w h o li s;have pb:=Mk w h o li (Z2 o s) 1 0;refine Qy rfl ?_;refine st (QN (Q0 (x:=.str "chapter") (Q0 (x:=(Bk.chapter t l).d) rfl rfl rfl) rfl (by rw[QO];simp)) rfl) ?_;refine st (QN (Q0 (x:=.str "chapter") (Q0 (x:=(Bk.chapter t l).d) rfl rfl rfl) rfl (by rw[QO];simp)) rfl) ?_;refine st (QN (Q0 (x:=.str "chapter") (Q0 (x:=(Bk.chapter t l).d) rfl rfl rfl) rfl (by rw[QO];simp)) rfl) ?_;exact ret (TB rfl (Z0 rfl rfl nc) rfl rfl pb)
def JU(w h:Int)(o:Bool)(ae:List Int)(s:List (List Plc)×Sta×Nat)(b:Bk):List (List Plc)×Sta×Nat:=match b with|.para is=>(s.1++[(V2 w h s.2.1 (ae.drop s.2.2) is).1],endLine (V2 w h s.2.1 (ae.drop s.2.2) is).2.2,s.2.2+(Qt is).length)|b=>(s.1++[[(ZG h o s.2.1 b).1]],(ZG h o s.2.1 b).2,s.2.2)
def RR(w h:Int)(o li:Bool)(ae:List Int)(bs:List Bk):List (List Plc)×Sta×Nat:=bs.foldl (JU w h o ae) ([(ZR h o li bs).1],(ZR h o li bs).2,0)
theorem Ec(w h:Int)(o:Bool)(ae:List Int):∀(bs:List Bk)(s:List (List Plc)×Sta×Nat),(bs.foldl (JU w h o ae) s).1.length=s.1.length+bs.length/\(bs.foldl (JU w h o ae) s).2.2=s.2.2+(rO bs).length
 |[],s=>⟨rfl,rfl⟩|b::bs,s=>by
  obtain⟨h1,h2⟩:=Ec w h o ae bs (JU w h o ae s b);rw[Zq,JM,h1,h2];have e:(rO (b::bs)).length=(Qt (iO b)).length+(rO bs).length:=by unfold rO;rw[Zi,Qg]
  rw[e];cases b<;>simp[JU,iO,Qt]<;>omega
def J0(xs:List (List Plc)):D:=.lst (xs.map QV)
def Qbw{xs:List (List Plc)}(x:List Plc)(h:xs.length<lI):D.app (J0 xs) (QV x)=some (J0 (xs++[x])):=WA (f:=QV) x h
def Qcb(xs:List Int)(k:Nat)(h:k<=xs.length):Vb (.lst (xs.map .int)) (some (k:Int)) none=QB ((xs.drop k).map .int):=by show some (D.lst (Zc (xs.map D.int) (some (k:Int)) none))=_;congr 1;unfold Zc YL;simp only[];rw[if_neg (by omega),Qm,show min (k:Int).toNat xs.length=k from by omega,List.map_drop,List.take_of_length_le (by rw[length_drop,Qm];omega)]
def T4(b:Bk):Prop:=∀i∈iO b,X9 i
def Dp{bs:List Bk}(hf:YM bs)(b:Bk)(hb:b∈bs):YM [b]:=⟨by simp,by have:=Wv hf b hb;simpa using this⟩
def A2(b:Bk):rO [b]=Qt (iO b):=by unfold rO;simp
def Qal(w h:Int)(o li:Bool)(ae:List Int)(bs:List Bk)(hf:YM bs)(hr:(rO bs).length<=ae.length)(ht:∀b∈bs,T4 b):UG [Q7 bs,QR w h o li,.lst (ae.map .int)]=some (J0 (RR w h o li ae bs).1):=by
 have sc:=Qjh w h o li bs hf.1;unfold UG IH RR;generalize ZR h o li bs=c0 at*;obtain⟨pl0,s0⟩:=c0;simp only[]at sc⊢;refine Qy rfl ?_;refine st (e1:=[some (Q7 bs),some (QR w h o li),QB (ae.map .int),some (.tup [QV pl0,s0.d]),none,none,none,none]) (Qf (Z0 rfl rfl sc) rfl) ?_;refine st (e1:=[some (Q7 bs),some (QR w h o li),QB (ae.map .int),some (.tup [QV pl0,s0.d]),some (J0 [pl0]),none,none,none]) rfl ?_;refine st (e1:=[some (Q7 bs),some (QR w h o li),QB (ae.map .int),some (.tup [QV pl0,s0.d]),some (J0 [pl0]),some s0.d,none,none]) rfl ?_;refine st (e1:=[some (Q7 bs),some (QR w h o li),QB (ae.map .int),some (.tup [QV pl0,s0.d]),some (J0 [pl0]),some s0.d,Q1 0,none]) rfl ?_;refine Vn Bk.d bs (λi e=>∃a b,e=[some (Q7 bs),some (QR w h o li),QB (ae.map .int),a,some (J0 ((bs.take i).foldl (JU w h o ae) ([pl0],s0,0)).1),some ((bs.take i).foldl (JU w h o ae) ([pl0],s0,0)).2.1.d,some (.int ((bs.take i).foldl (JU w h o ae) ([pl0],s0,0)).2.2),b]) rfl ⟨_,none,rfl⟩ ?_ ?_
 ·rintro i hi e⟨a,b,rfl⟩;rw[Po _ _ _ _ hi];have hb:=Ec w h o ae (bs.take i) ([pl0],s0,0);have h1:=hb.1;have h2:=hb.2;rw[YG]at h1;simp at h1 h2;have bM:((bs.take i).foldl (JU w h o ae) ([pl0],s0,0)).1.length<lI:=Zx (by have:=hf.1;omega);have t1:rO (bs.take (i+1))=rO (bs.take i)++Qt (iO bs[i]):=fT _ bs i hi;have t3:(rO (bs.take (i+1))).length<=(rO bs).length:=Sj (λb=>Qt (iO b)) bs (i+1);rw[t1,Qg]at t3;have i7:=Wv hf bs[i] (ZY hi);have hT:=ht bs[i] (ZY hi);have f1:=Dp hf bs[i] (ZY hi);generalize bs[i]=x at*;generalize(bs.take i).foldl (JU w h o ae) ([pl0],s0,0)=z at*;obtain⟨tl,s,k⟩:=z;simp only[]at h1 h2 bM⊢;have ap:=λy=>Qbw (xs:=tl) y bM;generalize Q7 bs=BS at*;have J5:VD x=false->∃e',((gS 7 x.d [some BS,some (QR w h o li),QB (ae.map .int),a,some (J0 tl),some s.d,Q1 k,b]).bind (sQ (QC (QG (Q2 7 0) (Q6 "para")) (sQ (QA (eK Pk (Z3 (Q2 7 1) (eV 1) (eV 5) (ZK (eV 2) (Z9 (eV 6)) (Zz)))) (gS 3)) (sQ (sP 4 (Q2 3 0)) (W6 6 D.addI (QE D.len (eK VL (QZ (QS (QZ (eV 7))))))))) (sQ (QA (eK Pj (Qu (eV 7) (eV 1) (eV 5))) (gS 3)) (sP 4 (QS (QZ (Q2 3 0)))))) (QA (Q2 3 1) (gS 5)))=some (.nx e'))/\∃a b,e'=[some BS,some (QR w h o li),QB (ae.map .int),a,some (J0 (tl++[[(ZG h o s x).1]])),some (ZG h o s x).2.d,Q1 k,b]:=by
   intro hp;have sb:=Qje w h o li s x hp;have tg:=Gi x;rw[hp]at tg;refine⟨_,J6 rfl ?_,some (ZF (ZG h o s x)),some x.d,rfl⟩;refine st (e1:=[some BS,some (QR w h o li),QB (ae.map .int),some (ZF (ZG h o s x)),some (J0 (tl++[[(ZG h o s x).1]])),some s.d,Q1 k,some x.d]) ?_ (Qf (Q0 (x:=ZF (ZG h o s x)) rfl rfl (p1 _)) rfl);refine QN (Q0 (x:=.str (VH x)) (Q0 (x:=x.d) rfl rfl (Ui x)) rfl (by rw[QO,tg])) ?_;refine st (e1:=[some BS,some (QR w h o li),QB (ae.map .int),some (ZF (ZG h o s x)),some (J0 tl),some s.d,Q1 k,some x.d]) (Qf (Zk rfl rfl rfl sb) rfl) ?_;exact Zt rfl (d:=QV [(ZG h o s x).1]) rfl (ap _)
  cases x with
  |para is=>
   have hk:k<=ae.length:=by omega
   have lZ:(Qt is).length<=(ae.drop k).length:=by rw[length_drop];have:(Qt (iO (.para is))).length=(Qt is).length:=rfl;omega
   have si:=Qji w h o li s (ae.drop k) is i7 lZ hT;have rf:=Mr [.para is] f1;rw[A2]at rf;have cu:=Qcb ae k hk;generalize hz:V2 w h s (ae.drop k) is=z at*;have e1:JU w h o ae (tl,s,k) (.para is)=(tl++[z.1],endLine z.2.2,k+(Qt is).length):=by show(tl++[(V2 w h s (ae.drop k) is).1],_,_)=_;rw[hz]
   rw[e1];refine⟨_,.inl ?_,some (.tup [QV z.1,(endLine z.2.2).d]),some (Bk.para is).d,rfl⟩;refine J6 rfl ?_;refine st (e1:=[some BS,some (QR w h o li),QB (ae.map .int),some (.tup [QV z.1,(endLine z.2.2).d]),some (J0 (tl++[z.1])),some s.d,Q1 (k+(Qt is).length:Nat),some (Bk.para is).d]) ?_ rfl;refine Qr (Q0 (x:=.str "para") (Q0 (x:=(Bk.para is).d) rfl rfl rfl) rfl (by rw[QO];simp)) ?_;refine st (e1:=[some BS,some (QR w h o li),QB (ae.map .int),some (.tup [QV z.1,(endLine z.2.2).d]),some (J0 tl),some s.d,Q1 k,some (Bk.para is).d]) (Qf (TB (Q0 (x:=(Bk.para is).d) rfl rfl rfl) rfl rfl (by show Vb (.lst (ae.map .int)) (some (k:Int)) none=_;exact cu) si) rfl) ?_;refine st (e1:=[some BS,some (QR w h o li),QB (ae.map .int),some (.tup [QV z.1,(endLine z.2.2).d]),some (J0 (tl++[z.1])),some s.d,Q1 k,some (Bk.para is).d]) (Zt rfl (d:=QV z.1) rfl (ap _)) ?_;have ln:=Um (Qt is);have iM:VL [.lst [(Bk.para is).d]]=some (QM (Qt is)):=rf;have hA:QE D.len (eK VL (QZ (QS (QZ (eV 7))))) [some BS,some (QR w h o li),QB (ae.map .int),some (.tup [QV z.1,(endLine z.2.2).d]),some (J0 (tl++[z.1])),some s.d,Q1 k,some (Bk.para is).d]=some (.int (Qt is).length):=JO (JA (x:=.lst [(Bk.para is).d]) rfl iM) ln;unfold W6;rw[hA];rfl|chapter t l=>obtain⟨e',h5,h6⟩:=J5 rfl;exact⟨e',.inl h5,h6⟩|heading t n l=>obtain⟨e',h5,h6⟩:=J5 rfl;exact⟨e',.inl h5,h6⟩|table rs l=>obtain⟨e',h5,h6⟩:=J5 rfl;exact⟨e',.inl h5,h6⟩|plates n l=>obtain⟨e',h5,h6⟩:=J5 rfl;exact⟨e',.inl h5,h6⟩
 ·rintro e⟨a,b,rfl⟩;rw[ZX];exact ret rfl
def Hu(w h:Int)(s:Sta)(n r:Int):s.p<=(JE w h s n r).1.p/\(JE w h s n r).2.p=(JE w h s n r).1.p/\(JE w h s n r).1.p<=s.p+1:=by
 unfold JE;split;·exact⟨JW _,rfl,by show s.p<=s.p+1;omega⟩
 ·split;·exact⟨JW _,rfl,by show s.p<=s.p+1;omega⟩
  ·exact⟨by show s.p<=s.p+1;omega,rfl,JW _⟩
def DR(s:Sta):(endLine s).p=s.p:=by unfold endLine;split<;>rfl
def Mm(h:Int)(s:Sta)(a b:Int):s.p<=(Jc h s a b).1.p/\(Jc h s a b).2.p=(Jc h s a b).1.p/\(Jc h s a b).1.p<=s.p+1:=by
 have e:=DR s;unfold Jc;refine⟨?_,rfl,?_⟩
 ·show s.p<=(if _ then _ else _:Sta).p;split;·omega
  ·show s.p<=(endLine s).p+1;omega
 ·show(if _ then _ else _:Sta).p<=s.p+1;split;·omega
  ·show(endLine s).p+1<=s.p+1;omega
def BJ(s:Sta):s.p<=(JR s).p/\(JR s).p<=s.p+1/\(JR s).l=0/\(JR s).u=0/\(JR s).f=0:=by
 unfold JR;split;·rename_i z;exact⟨JW _,by omega,z⟩
 ·exact⟨by show s.p<=s.p+1;omega,JW _,rfl,rfl,rfl⟩
def HX(o:Bool)(s:Sta):s.p<=(Z2 o s).p/\(Z2 o s).p<=s.p+2/\(Z2 o s).l=0/\(Z2 o s).u=0/\(Z2 o s).f=0:=by
 obtain⟨h1,h2,h3⟩:=BJ s;unfold Z2;split;·exact⟨by show s.p<=(JR s).p+1;omega,by show(JR s).p+1<=s.p+2;omega,rfl,rfl,rfl⟩
 ·exact⟨h1,by omega,h3⟩
def QiB(h:Int)(s:Sta)(hh:1<=h)(z:s.l=0/\s.u=0/\s.f=0):(Jc h s 1 0).1.p=s.p:=by
 have e:endLine s=s:=by unfold endLine;rw[if_pos z.2.1]
 unfold Jc;rw[e];show(if s.l+s.f+(1+0)<=h then s else _:Sta).p=s.p;rw[if_pos (by rw[z.1,z.2.2];omega)]
def U7:Bk->Int|.plates n _=>2+n|.para is=>2+2*((is.filter Qs).length:Int)|_=>2
def Qjf(h:Int)(o:Bool)(s:Sta)(b:Bk)(hh:1<=h)(hp:VD b=false)(hn:∀n l,b=.plates n l->1<=n):s.p<=(ZG h o s b).1.p/\(ZG h o s b).1.p<=(ZG h o s b).2.p/\(ZG h o s b).2.p<=s.p+U7 b:=by cases b with
 |para is=>cases hp|plates n l=>
  have h1:=BJ s;have h2:=hn n l rfl;refine⟨h1.1,?_,?_⟩;·show(JR s).p<=(JR s).p+n;omega
  ·show(JR s).p+n<=s.p+(2+n);omega|table rs l=>obtain⟨a,b,c⟩:=Mm h s rs.length 0;exact⟨a,RF b.symm,by show(Jc h s rs.length 0).2.p<=s.p+2;omega⟩|heading t k l=>obtain⟨a,b,c⟩:=Mm h s 1 k;exact⟨a,RF b.symm,by show(Jc h s 1 k).2.p<=s.p+2;omega⟩|chapter t l=>
  have h1:=HX o s;have h2:=QiB h (Z2 o s) hh h1.2.2;obtain⟨a,b,c⟩:=Mm h (Z2 o s) 1 0;refine⟨?_,RF b.symm,?_⟩;·show s.p<=(Jc h (Z2 o s) 1 0).1.p;omega
  ·show(Jc h (Z2 o s) 1 0).2.p<=s.p+2;omega
def JZ(is:List It):Nat:=(is.filter Qs).length
def Uo(i:It)(is:List It):JZ (i::is)=(if Qs i then 1 else 0)+JZ is:=by unfold JZ;rw[filter_cons];split<;>simp<;>omega
theorem CT(w h:Int)(ae:List Int)(lo:Int):∀(is:List It)(s:List Plc×Nat×Sta),(∀x∈s.1,lo<=x.p/\x.p<=s.2.2.p)->lo<=s.2.2.p->let r:=is.foldl (Jo w h ae) s
  (∀x∈r.1,lo<=x.p/\x.p<=r.2.2.p)/\s.2.2.p<=r.2.2.p/\r.2.2.p<=s.2.2.p+JZ is/\r.1.length=s.1.length+JZ is
 |[],s,h1,h2=>⟨h1,JW _,by simp[JZ],by simp[JZ]⟩|i::is,s,h1,h2=>by
  have key:(∀x∈(Jo w h ae s i).1,lo<=x.p/\x.p<=(Jo w h ae s i).2.2.p)/\s.2.2.p<=(Jo w h ae s i).2.2.p/\(Jo w h ae s i).2.2.p<=s.2.2.p+(if Qs i then 1 else 0:Nat)/\(Jo w h ae s i).1.length=s.1.length+(if Qs i then 1 else 0:Nat):=by
   have wd:∀n r,(∀x∈s.1++[(JE w h s.2.2 n r).1],lo<=x.p/\x.p<=(JE w h s.2.2 n r).2.p):=λn r x hx=>by
    obtain⟨a,b,c⟩:=Hu w h s.2.2 n r;rcases q_7.mp hx with z|z;·have:=h1 x z;omega
    ·rw[q_1.mp z];omega
   cases i with
   |word x ns=>
    obtain⟨a,b,c⟩:=Hu w h s.2.2 x.length ns.length;refine⟨wd _ _,?_,?_,by simp[Jo,Qs,Y2]⟩;·show s.2.2.p<=(JE w h s.2.2 x.length ns.length).2.p;omega
    ·show(JE w h s.2.2 x.length ns.length).2.p<=s.2.2.p+1;omega|ref l x y=>
    obtain⟨a,b,c⟩:=Hu w h s.2.2 ((x.length:Int)+ae.getD s.2.1 0+y.length) 0;refine⟨wd _ _,?_,?_,by simp[Jo,Qs,Y2,ZT]⟩;·show s.2.2.p<=(JE w h s.2.2 _ 0).2.p;omega
    ·show(JE w h s.2.2 _ 0).2.p<=s.2.2.p+1;omega|mark l=>exact⟨h1,JW _,by show s.2.2.p<=s.2.2.p+0;omega,by simp[Jo,Qs,Y2,ZT]⟩|key l=>exact⟨h1,JW _,by show s.2.2.p<=s.2.2.p+0;omega,by simp[Jo,Qs,Y2,ZT]⟩
  obtain⟨k1,k2,k3,k4⟩:=key;obtain⟨r1,r2,r3,r4⟩:=CT w h ae lo is (Jo w h ae s i) k1 (by omega);refine⟨r1,ZW k2 r2,?_,?_⟩
  ·have:=Uo i is;show(is.foldl (Jo w h ae) (Jo w h ae s i)).2.2.p<=_;rw[this];omega
  ·have:=Uo i is;show(is.foldl (Jo w h ae) (Jo w h ae s i)).1.length=_;rw[this,r4,k4];omega
def VR:Bk->Nat|.para is=>JZ is|_=>1
def Rn(b:Bk):Prop:=∀n l,b=.plates n l->1<=n
theorem Ee(w h:Int)(o:Bool)(ae:List Int)(hh:1<=h):∀(bs:List Bk)(s:List (List Plc)×Sta×Nat),(∀b∈bs,Rn b)->let r:=bs.foldl (JU w h o ae) s
  s.2.1.p<=r.2.1.p/\r.2.1.p<=s.2.1.p+(bs.map U7).sum/\∃rows,r.1=s.1++rows/\rows.length=bs.length/\∀q∈bs.zip rows,q.2.length=VR q.1/\∀x∈q.2,s.2.1.p<=x.p/\x.p<=r.2.1.p
 |[],s,_=>⟨JW _,by simp,[],by simp,rfl,by simp⟩|b::bs,s,hb=>by
  have mN:=hb b JN;have key:∃row,(JU w h o ae s b).1=s.1++[row]/\row.length=VR b/\(∀x∈row,s.2.1.p<=x.p/\x.p<=(JU w h o ae s b).2.1.p)/\s.2.1.p<=(JU w h o ae s b).2.1.p/\(JU w h o ae s b).2.1.p<=s.2.1.p+U7 b:=by
   have other:VD b=false->JU w h o ae s b=(s.1++[[(ZG h o s.2.1 b).1]],(ZG h o s.2.1 b).2,s.2.2)->VR b=1->∃row,(JU w h o ae s b).1=s.1++[row]/\row.length=VR b/\(∀x∈row,s.2.1.p<=x.p/\x.p<=(JU w h o ae s b).2.1.p)/\s.2.1.p<=(JU w h o ae s b).2.1.p/\(JU w h o ae s b).2.1.p<=s.2.1.p+U7 b:=by
    intro hp e hn;obtain⟨a1,a2,a3⟩:=Qjf h o s.2.1 b hh hp mN;rw[e];refine⟨[(ZG h o s.2.1 b).1],rfl,by rw[hn];rfl,λx hx=>?_,?_,a3⟩;·rw[q_1.mp hx];exact⟨a1,a2⟩
    ·show s.2.1.p<=(ZG h o s.2.1 b).2.p;omega
   cases b with
   |para is=>
    obtain⟨a1,a2,a3,a4⟩:=CT w h (ae.drop s.2.2) s.2.1.p is ([],0,s.2.1) (by simp) (JW _);have e:=DR (V2 w h s.2.1 (ae.drop s.2.2) is).2.2;refine⟨(V2 w h s.2.1 (ae.drop s.2.2) is).1,rfl,by unfold VR V2;simpa using a4,λx hx=>?_,?_,?_⟩
    ·show _/\x.p<=(endLine (V2 w h s.2.1 (ae.drop s.2.2) is).2.2).p;rw[e];exact a1 x hx
    ·show _<=(endLine (V2 w h s.2.1 (ae.drop s.2.2) is).2.2).p;rw[e];exact a2
    ·show(endLine (V2 w h s.2.1 (ae.drop s.2.2) is).2.2).p<=s.2.1.p+(2+2*((is.filter Qs).length:Int));rw[e];have a3':(V2 w h s.2.1 (ae.drop s.2.2) is).2.2.p<=s.2.1.p+(JZ is:Int):=a3;have:JZ is=(is.filter Qs).length:=rfl;omega|chapter t l=>exact other rfl rfl rfl|heading t k l=>exact other rfl rfl rfl|table rs l=>exact other rfl rfl rfl|plates n l=>exact other rfl rfl rfl
  obtain⟨row,k1,k2,k3,k4,k5⟩:=key;obtain⟨r1,r2,rows,r3,r4,r5⟩:=Ee w h o ae hh bs (JU w h o ae s b) (λx hx=>hb x (JH _ hx));refine⟨ZW k4 r1,?_,row::rows,?_,by simp[r4],?_⟩
  ·rw[ZQ,sum_cons];show(bs.foldl (JU w h o ae) (JU w h o ae s b)).2.1.p<=_;omega
  ·show(bs.foldl (JU w h o ae) (JU w h o ae s b)).1=_;rw[r3,k1];simp
  ·intro q hq;rw[Ur]at hq;rcases q_5.mp hq with z|z
   ·rw[z];refine⟨k2,λx hx=>?_⟩;have:=k3 x hx;exact⟨this.1,ZW this.2 r1⟩
   ·obtain⟨a,b'⟩:=r5 q z;exact⟨a,λx hx=>⟨ZW k4 (b' x hx).1,(b' x hx).2⟩⟩
def Wg(li:Bool)(b:Bk):Int:=if li=true/\Vx b=true then 2 else 0
theorem Es(h:Int):∀(bs:List Bk)(s:List Plc×Sta),s.2.p<=(bs.foldl (Zb h) s).2.p/\(bs.foldl (Zb h) s).2.p+((bs.foldl (Zb h) s).1.length:Int)<=s.2.p+(s.1.length:Int)+(bs.map (Wg true)).sum
 |[],s=>⟨JW _,by simp⟩|b::bs,s=>by
  obtain⟨h1,h2⟩:=Es h bs (Zb h s b);rw[Zq,ZQ,sum_cons];have key:s.2.p<=(Zb h s b).2.p/\(Zb h s b).2.p+((Zb h s b).1.length:Int)<=s.2.p+(s.1.length:Int)+Wg true b:=by
   unfold Zb Wg;cases q:Vx b with
   |true=>
    obtain⟨a,b',c⟩:=Mm h s.2 1 0;simp;omega|false=>simp
  omega
def Qb5(h:Int)(o li:Bool)(bs:List Bk):1<=(ZR h o li bs).2.p/\(ZR h o li bs).2.p<=3+(bs.map (Wg li)).sum:=by
 have nn:0<=(bs.map (Wg li)).sum:=by induction bs with|nil=>simp|cons b bs ih=>
   rw[ZQ,sum_cons];have:0<=Wg li b:=by unfold Wg;split<;>omega
   omega
 unfold ZR;cases li with
 |false=>rw[if_neg (by decide)];exact⟨by decide,by show(1:Int)<=_;omega⟩|true=>
  rw[if_pos rfl];obtain⟨h1,h2⟩:=Es h bs ([],Jl 1);have fg:(1:Int)<=(Yi h bs).2.p:=h1;have jd:(Yi h bs).2.p+((Yi h bs).1.length:Int)<=1+0+(bs.map (Wg true)).sum:=h2;show 1<=(if _ then _ else _:Sta).p/\(if _ then _ else _:Sta).p<=_;split
  ·have:=HX o (Yi h bs).2;omega
  ·omega
theorem Pp{f:Bk->Int}:∀(bs:List Bk)(s:Int),bs.foldl (λs b=>s+f b) s=s+(bs.map f).sum|[],s=>by simp|b::bs,s=>by rw[Zq,Pp bs,ZQ,sum_cons];omega
def QfP(li:Bool)(bs:List Bk):most li bs=3+(bs.map (Wg li)).sum+(bs.map U7).sum:=by
 unfold most;rw[Pp];have:(bs.map (ZI li)).sum=(bs.map (Wg li)).sum+(bs.map U7).sum:=by induction bs with
  |nil=>rfl|cons b bs ih=>
   simp only[ZQ,sum_cons,ih];have:ZI li b=Wg li b+U7 b:=by cases b<;>cases li<;>simp[ZI,Wg,U7,Vx]
   omega
 omega
def GS(w h:Int)(o li:Bool)(ae:List Int)(bs:List Bk)(hh:1<=h)(hp:∀b∈bs,Rn b):∃c rows,(RR w h o li ae bs).1=c::rows/\rows.length=bs.length/\∀q∈bs.zip rows,q.2.length=VR q.1/\∀x∈q.2,1<=x.p/\x.p<=most li bs:=by obtain⟨c1,c2⟩:=Qb5 h o li bs;obtain⟨r1,r2,rows,r3,r4,r5⟩:=Ee w h o ae hh bs ([(ZR h o li bs).1],(ZR h o li bs).2,0) hp;have me:=QfP li bs;refine⟨(ZR h o li bs).1,rows,r3,r4,λq hq=>?_⟩;obtain⟨a,b⟩:=r5 q hq;refine⟨a,λx hx=>?_⟩;obtain⟨b1,b2⟩:=b x hx;have gT:(bs.foldl (JU w h o ae) ([(ZR h o li bs).1],(ZR h o li bs).2,0)).2.1.p<=(ZR h o li bs).2.p+(bs.map U7).sum:=r2;have b1':(ZR h o li bs).2.p<=x.p:=b1;omega
noncomputable def Je:Bk->Str|.chapter _ l=>l|.heading _ _ l=>l|.para _=>""|.table _ l=>l|.plates _ l=>l
def Ce(b:Bk):Ue [b.d]=QP (Je b):=by unfold Ue Kn;refine Qy rfl (ret ?_);unfold Vg;rw[show QG (Q2 0 0) (Q6 "para") (sD 1 [b.d])=QL (VD b)from Q0 (Q0 (x:=b.d) rfl rfl (Ui b)) rfl (by rw[QO,Gi])];cases b<;>rfl
noncomputable def Jj(x:Str×Int):D:=.tup [.str x.1,.int x.2]
noncomputable def ZO(pls:List Plc)(s:List (Str×Int)×Nat)(i:It):List (Str×Int)×Nat:=match i with|.mark l=>(s.1++[(l,(pls.getD s.2 ⟨0,0,0⟩).p)],s.2)|.key _=>s|_=>(s.1,s.2+1)
def Xo(pls:List Plc)(is:List It):List (Str×Int):=(is.foldl (ZO pls) ([],0)).1
theorem HN(pls:List Plc):∀(is:List It)(s:List (Str×Int)×Nat),(is.foldl (ZO pls) s).1.length<=s.1.length+is.length/\(is.foldl (ZO pls) s).2=s.2+JZ is|[],s=>⟨Qx _,rfl⟩|i::is,s=>by obtain⟨h1,h2⟩:=HN pls is (ZO pls s i);rw[Zq,JM,h2,Uo];cases i<;>simp[ZO,Qs,Y2,ZT]at h1⊢<;>omega
def V7(is:List It):Prop:=∀i(hi:i<is.length),Qs is[i]=false->JZ (is.take i)<JZ is
def QhR(is:List It)(pls:List Plc)(hl:is.length<=100000)(hp:JZ is<=pls.length)(ht:V7 is):Sg [.lst (is.map It.d),QV pls,.str "mark"]=some (.lst ((Xo pls is).map Jj)):=by
 unfold Sg IA Xo;refine Qy rfl ?_;refine st (e1:=[some (.lst (is.map It.d)),some (QV pls),some (.str "mark"),some (.lst (([]:List (Str×Int)).map Jj)),none,none]) rfl ?_;refine st (e1:=[some (.lst (is.map It.d)),some (QV pls),some (.str "mark"),some (.lst (([]:List (Str×Int)).map Jj)),some (.int 0),none]) rfl ?_;refine Vn It.d is (λi e=>∃a,e=[some (.lst (is.map It.d)),some (QV pls),some (.str "mark"),some (.lst (((is.take i).foldl (ZO pls) ([],0)).1.map Jj)),some (.int ((is.take i).foldl (ZO pls) ([],0)).2),a]) rfl ⟨none,rfl⟩ ?_ ?_
 ·rintro i hi e⟨a,rfl⟩;rw[Po _ _ _ _ hi];obtain⟨h1,h2⟩:=HN pls (is.take i) ([],0);rw[YG]at h1;simp at h1 h2;have hT:=ht i hi;have bJ:=Np is[i];generalize is[i]=x at*;generalize(is.take i).foldl (ZO pls) ([],0)=z at*;obtain⟨kv,k⟩:=z;simp only[]at h1 h2⊢;have bM:kv.length<lI:=Zx (by omega);have ap:=λy=>WA (f:=Jj) (xs:=kv) y bM;generalize D.lst (is.map It.d)=IS at*;cases x with
  |mark l=>
   have hk:k<pls.length:=by have:=hT rfl;omega
   have px:D.ix (QV pls) (.int k)=some (pls.getD k ⟨0,0,0⟩).d:=WO (f:=Plc.d) pls k ⟨0,0,0⟩ (by omega) (by omega);obtain⟨q,eq⟩:∃q,pls.getD k ⟨0,0,0⟩=q:=⟨_,rfl⟩;have e1:ZO pls (kv,k) (.mark l)=(kv++[(l,q.p)],k):=by rw[<-eq];rfl
   rw[eq]at px;rw[e1];refine⟨[some IS,some (QV pls),some (.str "mark"),some (.lst ((kv++[(l,q.p)]).map Jj)),some (.int k),some (It.mark l).d],.inl ?_,some (It.mark l).d,rfl⟩
   ·refine J6 (e1:=[some IS,some (QV pls),some (.str "mark"),some (.lst (kv.map Jj)),some (.int k),some (It.mark l).d]) rfl ?_;refine QN (JA rfl bJ) ?_;refine Qr (Q0 (x:=.str "mark") (Q0 (x:=(It.mark l).d) rfl rfl rfl) rfl (by rw[QO];simp)) ?_;refine Zt (d:=Jj (l,q.p)) rfl ?_ (ap _);have hq:D.ix q.d (.int 0)=some (.int q.p):=rfl;have hA:Q4 D.ix (Q4 D.ix (eV 1) (eV 4)) (eC (.int 0)) [some IS,some (QV pls),some (.str "mark"),some (.lst (kv.map Jj)),some (.int k),some (It.mark l).d]=some (.int q.p):=Q0 (Q0 rfl rfl px) rfl hq;simp only[QT,lC,lN,hA];rfl|key l=>refine⟨_,.inl (J6 (e1:=[some IS,some (QV pls),some (.str "mark"),some (.lst (kv.map Jj)),some (.int k),some (It.key l).d]) rfl (QN (JA rfl bJ) (QN (Q0 (x:=.str "key") (Q0 (x:=(It.key l).d) rfl rfl rfl) rfl (by rw[QO];simp)) rfl))),some (It.key l).d,rfl⟩|word x ns=>exact⟨_,.inl (J6 (e1:=[some IS,some (QV pls),some (.str "mark"),some (.lst (kv.map Jj)),some (.int k),some (It.word x ns).d]) rfl (Qr (JA rfl bJ) rfl)),some (It.word x ns).d,rfl⟩|ref l x y=>exact⟨_,.inl (J6 (e1:=[some IS,some (QV pls),some (.str "mark"),some (.lst (kv.map Jj)),some (.int k),some (It.ref l x y).d]) rfl (Qr (JA rfl bJ) rfl)),some (It.ref l x y).d,rfl⟩
 ·rintro e⟨a,rfl⟩;rw[ZX];exact ret rfl
noncomputable def JK(kv:List (Str×Int)):D:=.dic (kv.map λx=>Sum.inr x.1) (kv.map λx=>.int x.2)
def Qer{β:Type}(l:Str)(kv:List (Str×β)):hasK (.inr l) (kv.map λx=>Sum.inr x.1)=true↔l∈kv.map (·.1):=by
 unfold hasK;rw[any_eq_true];constructor
 ·rintro⟨c,hc,e⟩;obtain⟨x,hx,rfl⟩:=q_20.mp hc;have:x.1=l:=by simpa using e
  exact q_20.mpr ⟨x,hx,this⟩
 ·intro h;obtain⟨x,hx,rfl⟩:=q_20.mp h;exact⟨.inr x.1,q_20.mpr ⟨x,hx,rfl⟩,by simp⟩
def Hv{kv:List (Str×Int)}{l:Str}{p:Int}(h:l∉kv.map (·.1))(hl:kv.length<lI):D.put (JK kv) (.str l) (.int p)=some (JK (kv++[(l,p)])):=by show(if(kv.map λx=>(Sum.inr x.1:Kd)).length<lI then some (Wj _ _ (.inr l) (.int p))else none)=_;rw[if_pos (by rw[Qm];exact hl)];unfold Wj;rw[if_neg (λz=>h ((Qer l kv).mp z))];unfold JK;rw[Zr,Zr];rfl
theorem QaP:∀{kv:List (Str×Int)}{l:Str},l∈kv.map (·.1)->∃p,(l,p)∈kv/\D.dget (JK kv) (.str l)=Q1 p
 |[],l,h=>by simp at h|(a,q)::kv,l,h=>by
  by_cases z:a=l
  ·subst z;refine⟨q,JN,?_⟩;show(if(Sum.inr a:Kd)=.inr a then some (D.int q)else _)=_;rw[if_pos rfl]
  ·have h':l∈kv.map (·.1):=by
    rcases q_5.mp (show l∈a::kv.map (·.1)from h)with e|e;·exact absurd e.symm z
    ·exact e
   obtain⟨p,h1,h2⟩:=QaP h';refine⟨p,JH _ h1,?_⟩;show(if(Sum.inr a:Kd)=.inr l then some (D.int q)else XC _ _ _)=_;rw[if_neg (by simpa using z)];exact h2
def Jg(q:Bk×List Plc):List (Str×Int):=(if Je q.1=""then[]else[(Je q.1,(q.2.getD 0 ⟨0,0,0⟩).p)])++Xo q.2 (iO q.1)
noncomputable def YZ:It->List Str|.mark l=>[l]|_=>[]
def JG(is:List It):List Str:=is.flatMap YZ
def YB(b:Bk):List Str:=(if Je b=""then[]else[Je b])++JG (iO b)
def J4(bs:List Bk):List Str:=bs.flatMap YB
theorem Cu(pls:List Plc):∀(is:List It)(s:List (Str×Int)×Nat),(is.foldl (ZO pls) s).1.map (·.1)=s.1.map (·.1)++JG is|[],s=>by simp[JG]|i::is,s=>by rw[Zq,Cu pls is];cases i<;>simp[ZO,JG,YZ]
def Iz(q:Bk×List Plc):(Jg q).map (·.1)=YB q.1:=by
 unfold Jg YB;rw[Zr];congr 1;·split<;>rfl
 ·exact Cu q.2 (iO q.1) ([],0)
theorem Rf{α β:Type}(f:α->D)(g:β->D):∀(xs:List α)(ys:List β),V5 (xs.map f) (ys.map g)=(xs.zip ys).map λq=>D.tup [f q.1,g q.2]|[],_=>by simp[V5]|_::_,[]=>by simp[V5]|x::xs,y::ys=>by show D.tup [f x,g y]::V5 (xs.map f) (ys.map g)=_;rw[Rf f g xs ys];rfl
def Ia(c:List Plc)(rows:List (List Plc)):Vb (J0 (c::rows)) (some 1) none=some (J0 rows):=by show some (D.lst (Zc ((c::rows).map QV) (some 1) none))=_;unfold Zc YL J0;simp only[];rw[if_neg (by decide),ZQ,JM];show some (D.lst (((QV c::rows.map QV).drop (min 1 ((rows.map QV).length+1))).take _))=_;rw[show min 1 ((rows.map QV).length+1)=1 from by omega,List.drop_succ_cons,drop_zero,List.take_of_length_le (by omega)]
def QfG(is:List It):(JG is).length<=is.length:=by unfold JG;induction is with|nil=>exact Qx _|cons i is ih=>
  rw[Zi,Qg,JM];have:(YZ i).length<=1:=by cases i<;>simp[YZ]
  omega
def IU(bs:List Bk):(J4 bs).length<=bs.length+(bs.flatMap iO).length:=by unfold J4;induction bs with|nil=>exact Qx _|cons b bs ih=>
  rw[Zi,Zi,Qg,Qg,JM];have h1:=QfG (iO b);have h2:(YB b).length<=1+(iO b).length:=by unfold YB;rw[Qg];split<;>simp<;>omega
  omega
theorem LF{α β:Type}:∀(xs:List α)(ys:List β),ys.length=xs.length->(xs.zip ys).map (·.1)=xs|[],_,_=>by simp|x::xs,[],h=>by simp at h|x::xs,y::ys,h=>by simp at h⊢;exact LF xs ys h
theorem Nj{α β γ:Type}(f:α->List γ)(g:α×β->List (γ×Int))(hg:∀q,(g q).map (·.1)=f q.1):∀qs:List (α×β),(qs.flatMap g).map (·.1)=(qs.map (·.1)).flatMap f|[]=>rfl|q::qs=>by rw[Zi,Zr,hg,Nj f g hg qs];simp
def QiD(B T P Q:Option D)(u v:Option D)(kv mk:List (Str×Int))(hn:(kv++mk).map (·.1)|>.Nodup)(hl:(kv++mk).length<lI)(it:ZH)(hit:it [B,T,some (JK kv),P,Q,u,v]=some (mk.map Jj)):∃u' v',Qz it (Jb [gS 5,gS 6]) (WZ 2 (eV 5) (eV 6)) [B,T,some (JK kv),P,Q,u,v]=some (.nx [B,T,some (JK (kv++mk)),P,Q,u',v']):=by
 obtain⟨e',h1,u',v',h2⟩:=Xn (g:=Jb [gS 5,gS 6]) (b:=WZ 2 (eV 5) (eV 6)) Jj mk (λi e=>∃u v,e=[B,T,some (JK (kv++mk.take i)),P,Q,u,v]) (by
  rintro i hi e⟨u,v,rfl⟩;obtain⟨⟨l,p⟩,hm⟩:∃q,mk[i]=q:=⟨_,rfl⟩;have du:l∉(kv++mk.take i).map (·.1):=by
   have e1:kv++mk=(kv++mk.take i)++(mk[i]::mk.drop (i+1)):=by rw[VF,<-RD hi,RE]
   rw[e1,Zr,ZQ,hm]at hn;intro z;exact(q_63.mp hn).2.2 l z l JN rfl
  have bM:(kv++mk.take i).length<lI:=by
   refine lt_of_le_of_lt ?_ hl;rw[Qg,Qg,YG];omega
  have pd:=Hv (p:=p) du bM;rw[Xv hi,hm,<-VF];refine⟨[B,T,some (JK (kv++mk.take i++[(l,p)])),P,Q,QP l,Q1 p],.inl ?_,_,_,rfl⟩;refine J6 rfl ?_;show(D.put (JK (kv++mk.take i)) (.str l) (.int p)).map _=_;rw[pd];rfl) [B,T,some (JK kv),P,Q,u,v] ⟨u,v,by rw[take_zero,Zp]⟩;subst h2;rw[ZX]at h1;refine⟨u',v',?_⟩;unfold Qz;rw[hit];exact h1
def Ci(bs:List Bk)(c:List Plc)(rows:List (List Plc))(hf:YM bs)(hr:rows.length=bs.length)(hn:(J4 bs).Nodup)(hs:∀q∈bs.zip rows,q.2.length=VR q.1)(ht:∀b∈bs,V7 (iO b)):UE [Q7 bs,J0 (c::rows)]=some (JK ((bs.zip rows).flatMap Jg)):=by
 unfold UE Ko;refine Qy rfl ?_;refine st (e1:=[some (Q7 bs),some (J0 (c::rows)),some (JK []),none,none,none,none]) rfl ?_;have keys:∀qs:List (Bk×List Plc),(qs.flatMap Jg).map (·.1)=(qs.map (·.1)).flatMap YB:=Nj YB Jg Iz;have gz:((bs.zip rows).flatMap Jg).map (·.1)=J4 bs:=by rw[keys,LF bs rows hr];rfl
 have nz:((bs.zip rows).flatMap Jg).length<=200000:=by
  have e:((bs.zip rows).flatMap Jg).length=(J4 bs).length:=by rw[<-gz,Qm]
  have:=IU bs;have:=hf.1;have:=hf.2;omega
 refine Vn (λq:Bk×List Plc=>D.tup [q.1.d,QV q.2]) (bs.zip rows) (λi e=>∃a b u v,e=[some (Q7 bs),some (J0 (c::rows)),some (JK (((bs.zip rows).take i).flatMap Jg)),a,b,u,v]) ?_ ⟨none,none,none,none,rfl⟩ ?_ ?_
 ·have hc:ZK (eV 1) (Z9 (Q5 1)) Zz [some (Q7 bs),some (J0 (c::rows)),some (JK []),none,none,none,none]=some (J0 rows):=Ia c rows;unfold WN;rw[hc];show some (V5 (bs.map Bk.d) (rows.map QV))=_;rw[Rf]
 ·rintro i hi e⟨a,b,u,v,rfl⟩;rw[fT _ _ _ hi];have hle:=Sj Jg (bs.zip rows) (i+1);rw[fT _ _ _ hi]at hle;have ib:(((bs.zip rows).take i).flatMap Jg++Jg (bs.zip rows)[i]).map (·.1)|>.Nodup:=by
   rw[<-fT _ _ _ hi];refine List.Nodup.sublist ?_ (gz▸hn);refine List.Sublist.map _ ?_;conv=>rhs;rw[<-RE (i+1) (bs.zip rows),YI]
   exact List.sublist_append_left _ _
  have hq:=hs (bs.zip rows)[i] (ZY hi);have hb:(bs.zip rows)[i].1∈bs:=(WT (ZY hi)).1;generalize(bs.zip rows)[i]=q at*;generalize((bs.zip rows).take i).flatMap Jg=kv at*;obtain⟨x,pls⟩:=q;simp only[]at hq hb⊢;have tx:=ht x hb;have il:=Wv hf x hb;have lb:=Ce x;have io:=Nt x;have pw:Sg [.lst ((iO x).map It.d),QV pls,.str "mark"]=QB ((Xo pls (iO x)).map Jj):=by
   refine QhR _ _ il ?_ tx;cases x with
   |para is=>exact le_of_eq hq.symm|_=>exact WV _
  obtain⟨fF,e2⟩:∃fF,kv++(if Je x=""then[]else[(Je x,(pls.getD 0 ⟨0,0,0⟩).p)])=fF:=⟨_,rfl⟩;have e3:kv++Jg (x,pls)=fF++Xo pls (iO x):=by rw[<-e2];unfold Jg;rw[VF]
  rw[e3]at ib hle⊢;have bM:(fF++Xo pls (iO x)).length<lI:=Zx (by omega);generalize Q7 bs=BS at*;generalize J0 (c::rows)=TT at*;obtain⟨u',v',hm⟩:=QiD (some BS) (some TT) (some x.d) (some (QV pls)) u v fF (Xo pls (iO x)) ib bM (Ql (eK Sg (Qu (eK WM (QZ (eV 3))) (eV 4) (Q6 "mark")))) (by unfold Ql;rw[Zk (JA rfl io) rfl rfl pw];rfl);refine⟨_,.inl ?_,some x.d,some (QV pls),u',v',rfl⟩;refine J6 (e1:=[some BS,some TT,some (JK kv),some x.d,some (QV pls),u,v]) rfl ?_;refine st (e1:=[some BS,some TT,some (JK fF),some x.d,some (QV pls),u,v]) ?_ hm;have ne:D.neO (.str (Je x)) (.str (Str.ofString ""))=QL (!decide (Je x=Str.ofString "")):=by simp[D.neO,Zu,YS,D.cmpN]
  by_cases z:Je x=""
  ·rw[if_pos z,Zp]at e2;subst e2;exact QN (Q0 (JA rfl lb) rfl (by rw[ne,Jf z];rfl)) rfl
  ·rw[if_neg z]at e2;subst e2;refine Qr (Q0 (JA rfl lb) rfl (by rw[ne,JF z];rfl)) ?_;have np:pls.length=1:=by cases x<;>first|exact hq|exact absurd rfl z
   obtain⟨q0,rfl⟩:=List.length_eq_one_iff.mp np;have du:Je x∉kv.map (·.1):=by
    rw[VF,Zr]at ib;intro w;exact(q_63.mp ib).2.2 _ w (Je x) (by simp) rfl
   have pd:=Hv (p:=q0.p) du (lt_of_le_of_lt (by simp only[Qg];omega) bM);unfold WZ;have hA:ZZ (Q2 4 0) 0 [some BS,some TT,some (JK kv),some x.d,some (QV [q0]),u,v]=Q1 q0.p:=rfl;have hB:eK Ue (QZ (eV 3)) [some BS,some TT,some (JK kv),some x.d,some (QV [q0]),u,v]=QP (Je x):=JA rfl lb;rw[hA,hB];show(D.put (JK kv) (.str (Je x)) (.int q0.p)).map _=_;rw[pd];rfl
 ·rintro e⟨a,b,u,v,rfl⟩;rw[ZX];exact ret rfl
def Dv(n:Int)(h0:0<=n)(h:n<10^60):Sb [.int n]=Q1 (Jw n.toNat):=by
 obtain⟨m,rfl⟩:∃m:Nat,n=m:=⟨n.toNat,by omega⟩;have h':m<10^60:=by
  have:((10^60:Nat):Int)=10^60:=by decide
  omega
 have h2:m<2^1900:=lt_trans h' (by decide+kernel);have e1:D.strI (.int m)=QP (Str.ofString (toString (m:Int))):=if_pos h2;have hs:=Ge m;have hd:=DE m h';have ln:=Yw (x:=Str.ofString (toString (m:Int))) (by omega);rw[hs]at ln;unfold Sb Ka;exact Qy rfl (ret (JO (JO rfl e1) ln))
def GU{it:ZH}{e:QD}(is:List It)(hit:it e=some (is.map It.d))(hl:is.length<=1000000):JB 1 [] it (gS 0) (eK WL (QZ (eV 0))) (eV 0) e=QB ((is.filter Qs).map It.d):=Yh (g:=gS 0) (n:=1) (caps:=[]) It.d is (λe=>∃v,e=[v]) Qs It.d hit (lB hl) ⟨none,rfl⟩ (by rintro i hm e⟨v,rfl⟩;exact⟨[some i.d],rfl,⟨_,rfl⟩,JA rfl (Np i),λh=>rfl⟩)
def HI(is:List It):D.len (.lst (is.map It.d))=Q1 is.length:=by show some (D.int (is.map It.d).length)=_;rw[Qm]
def QhQ(w h:Int)(o li:Bool)(b:Bk)(hl:(iO b).length<=100000):Sf [b.d,QR w h o li]=Q1 (ZI li b):=by
 have it:=Nq b;have io:=Nt b;have Uk:D.ix (QR w h o li) (.int 3)=QL li:=rfl;have plain:∀m:Int,((iO b).filter Qs).length=m->(QQ (QJ (Q5 2) (YV (Q5 2) (QE D.len (JB 1 [] (Ql (eK WM (QZ (eV 0)))) (gS 0) (eK WL (QZ (eV 0))) (eV 0)))))) [some b.d,some (QR w h o li)]=some (.rt (.int (2+2*m))):=by
  intro m em;have hc:=GU (it:=Ql (eK WM (QZ (eV 0)))) (e:=[some b.d,some (QR w h o li)]) (iO b) (by unfold Ql;rw[JA rfl io];rfl) (by omega);have ln:=HI ((iO b).filter Qs);rw[em]at ln;exact ret (Q0 rfl (Q0 rfl (JO hc ln) (B5 m)) rfl)
 unfold Sf I0;refine Qy rfl ?_;cases b with
 |plates n l=>exact Zj (Qr (Q0 (x:=.str "plates") (Q0 (x:=(Bk.plates n l).d) rfl rfl rfl) rfl (by rw[QO];simp)) (ret (Q0 rfl (Q0 (x:=(Bk.plates n l).d) rfl rfl rfl) rfl)))|para is=>refine st (QN (Q0 (x:=.str "para") (Q0 (x:=(Bk.para is).d) rfl rfl rfl) rfl (by rw[QO];simp)) rfl) ?_;refine st (QN (Y6 (JA rfl it)) rfl) ?_;exact plain _ rfl|table rs l=>refine st (QN (Q0 (x:=.str "table") (Q0 (x:=(Bk.table rs l).d) rfl rfl rfl) rfl (by rw[QO];simp)) rfl) ?_;refine st (QN (Y6 (JA rfl it)) rfl) ?_;exact plain 0 rfl|chapter t l=>refine st (QN (Q0 (x:=.str "chapter") (Q0 (x:=(Bk.chapter t l).d) rfl rfl rfl) rfl (by rw[QO];simp)) rfl) ?_;cases li with|true=>exact Zj (Qr (Za (JA rfl it) (Q0 rfl rfl Uk)) (ret rfl))|false=>
   refine st (QN (Za (JA rfl it) (Q0 rfl rfl Uk)) rfl) ?_;exact plain 0 rfl|heading t k l=>
  refine st (QN (Q0 (x:=.str "heading") (Q0 (x:=(Bk.heading t k l).d) rfl rfl rfl) rfl (by rw[QO];simp)) rfl) ?_;cases li with|true=>exact Zj (Qr (Za (JA rfl it) (Q0 rfl rfl Uk)) (ret rfl))|false=>refine st (QN (Za (JA rfl it) (Q0 rfl rfl Uk)) rfl) ?_;exact plain 0 rfl
def QhP(w h:Int)(o li:Bool)(bs:List Bk)(hf:YM bs):Nd [Q7 bs,QR w h o li]=Q1 (most li bs):=by
 have hc:JB 1 [1] (Ql (eV 0)) (gS 0) (JS true) (eK Sf (Qc (eV 0) (eV 1))) [some (Q7 bs),some (QR w h o li)]=QB ((bs.map (ZI li)).map .int):=by
  rw[Yh (g:=gS 0) (n:=1) (caps:=[1]) (c:=JS true) (el:=eK Sf (Qc (eV 0) (eV 1))) Bk.d bs (λe=>∃v,e=[v,some (QR w h o li)]) (λ_=>true) (λb=>.int (ZI li b)) rfl (lB (ZP hf.1 (by decide))) ⟨none,rfl⟩ (by rintro b hb e⟨v,rfl⟩;exact⟨[some b.d,some (QR w h o li)],rfl,⟨_,rfl⟩,rfl,λ_=>Z0 rfl rfl (QhQ w h o li b (Wv hf b hb))⟩)];rw[XM,W5];rfl
 have sm:D.sumL (.lst ((bs.map (ZI li)).map .int))=some (.int (bs.map (ZI li)).sum):=by
  show(intsOf ((bs.map (ZI li)).map .int)).map _=_;rw[HE];rfl
 have me:most li bs=3+(bs.map (ZI li)).sum:=by unfold most;rw[Pp]
 rw[me];unfold Nd Kz;exact Qy rfl (ret (Q0 rfl (JO hc sm) rfl))
def Qi0(w h:Int)(o li:Bool)(bs:List Bk)(hf:YM bs)(h0:0<=most li bs)(h1:most li bs<10^60):Ng [Q7 bs,QR w h o li]=Q1 (Jw (most li bs).toNat):=by unfold Ng IF;exact Qy rfl (ret (JA (Z0 rfl rfl (QhP w h o li bs hf)) (Dv _ h0 h1)))
def EM(xs:List Str)(w:Int)(hl:xs.length<=1000000)(hx:∀x∈xs,x.length<=1000000)(hw:∀x∈xs,(x.length:Int)<=w):PX [QM xs,.int w]=QL false:=by
 have hc:JB 1 [1] (Ql (eV 0)) (gS 0) (JS true) (Q4 D.gt (QE D.len (eV 0)) (eV 1)) [some (QM xs),Q1 w]=QB (xs.map λ_=>.bl false):=by
  rw[Yh (g:=gS 0) (n:=1) (caps:=[1]) (c:=JS true) (el:=Q4 D.gt (QE D.len (eV 0)) (eV 1)) D.str xs (λe=>∃v,e=[v,Q1 w]) (λ_=>true) (λ_=>.bl false) rfl (lB hl) ⟨none,rfl⟩ (by
   rintro x hb e⟨v,rfl⟩;refine⟨[QP x,Q1 w],rfl,⟨_,rfl⟩,rfl,λ_=>Q0 (JO rfl (Yw (hx x hb))) rfl ?_⟩;have:=hw x hb;show some (D.bl (decide (w<(x.length:Int))))=_;rw[JF (by omega)])];rw[XM]
 have ay:∀xs:List Str,D.anyL (.lst (xs.map λ_=>.bl false))=QL false:=by
  intro xs;have:U5 (xs.map λ_=>D.bl false)=some (xs.map λ_=>false):=by induction xs with
   |nil=>rfl|cons x xs ih=>
    show(U5 (xs.map λ_=>D.bl false)).map _=_;rw[ih];rfl
  show(U5 (xs.map λ_=>D.bl false)).map _=_;rw[this];show some (D.bl ((xs.map λ_=>false).any id))=_;simp
 unfold PX KU;exact Qy rfl (ret (JO hc (ay xs)))
def UW:Bk->Prop|.chapter t _=>t.length<=1000|.heading t _ _=>t.length<=1000|.table rs _=>rs.length<=1000/\∀r∈rs,r.length<=1000|.para is=>∀i∈is,X9 i|.plates _ _=>True
def Qkh(w h:Int)(o li:Bool)(af:Int)(b:Bk)(h0:0<=af)(hs:UW b)(hf:Vq af w h b):Ud [b.d,QR w h o li,.int af]=QL false:=by
 have it:=Nq b;have Uk:D.ix (QR w h o li) (.int 3)=QL li:=rfl;have fY:D.ix (QR w h o li) (.int 0)=Q1 w:=rfl;have tit:∀(t:Str),D.ix b.d (.int 1)=QP t->t.length<=1000->(t.length:Int)+2+af<=w->Vx b=true->Ud [b.d,QR w h o li,.int af]=QL false:=by
  intro t i1 tl tw tt;rw[tt]at it;unfold Ud S7;refine Qy rfl (Zj (Qr (JA rfl it) ?_));refine st (e1:=[some b.d,some (QR w h o li),Q1 af,Q1 (if li then 2+af else 0)]) ?_ ?_
  ·refine Qf ?_ rfl;unfold Vg;have hX:Q2 1 3 (sD 4 [b.d,QR w h o li,.int af])=QL li:=Q0 (x:=QR w h o li) rfl rfl Uk;rw[hX,Jr];cases li<;>rfl
  ·refine ret (Q0 (Q0 (JO (Q0 (x:=b.d) rfl rfl i1) (Yw (by omega))) rfl rfl) (Q0 rfl rfl fY) ?_);show some (D.bl (decide (w<(t.length:Int)+_)))=_;rw[JF (by cases li<;>simp<;>omega)]
 cases b with
 |chapter t l=>exact tit t rfl hs hf rfl|heading t k l=>exact tit t rfl hs hf.1 rfl|table rs l=>
  have al:=EM rs w (by have:=hs.1;omega) (λx hx=>by have:=hs.2 x hx;omega) hf.2;unfold Ud S7;refine Qy rfl (st (QN (JA rfl it) rfl) (ret ?_));exact Za (Q0 (x:=.str "table") (Q0 (x:=(Bk.table rs l).d) rfl rfl rfl) rfl (by rw[QO];simp)) (Z0 (Q0 (x:=(Bk.table rs l).d) rfl rfl rfl) (Q0 rfl rfl fY) al)|para is=>unfold Ud S7;exact Qy rfl (st (QN (JA rfl it) rfl) (ret (Y6 (Q0 (x:=.str "para") (Q0 (x:=(Bk.para is).d) rfl rfl rfl) rfl (by rw[QO];simp)))))|plates n l=>unfold Ud S7;exact Qy rfl (st (QN (JA rfl it) rfl) (ret (Y6 (Q0 (x:=.str "plates") (Q0 (x:=(Bk.plates n l).d) rfl rfl rfl) rfl (by rw[QO];simp)))))
def Qex(w h:Int)(o li:Bool)(af:Int)(b:Bk)(hf:Vq af w h b):NZ [b.d,QR w h o li]=QL false:=by have hG:D.ix (QR w h o li) (.int 1)=Q1 h:=rfl;unfold NZ Kg;refine Qy rfl ?_;cases b with|heading t k l=>refine Zj (Qr (Q0 (x:=.str "heading") (Q0 (x:=(Bk.heading t k l).d) rfl rfl rfl) rfl (by rw[QO];simp)) (ret (Q0 (Q0 (Q0 (x:=(Bk.heading t k l).d) rfl rfl rfl) rfl rfl) (Q0 rfl rfl hG) ?_)));have:=hf.2;show some (D.bl (decide (h<k+1)))=_;rw[JF (by omega)]|table rs l=>refine st (QN (Q0 (x:=.str "table") (Q0 (x:=(Bk.table rs l).d) rfl rfl rfl) rfl (by rw[QO];simp)) rfl) (ret ?_);refine Za (Q0 (x:=.str "table") (Q0 (x:=(Bk.table rs l).d) rfl rfl rfl) rfl (by rw[QO];simp)) (Q0 (JO (Q0 (x:=(Bk.table rs l).d) rfl rfl rfl) (Um rs)) (Q0 rfl rfl hG) ?_);have:=hf.1;show some (D.bl (decide (h<(rs.length:Int))))=_;rw[JF (by omega)]|chapter t l=>exact st (QN (Q0 (x:=.str "chapter") (Q0 (x:=(Bk.chapter t l).d) rfl rfl rfl) rfl (by rw[QO];simp)) rfl) (ret (Y6 (Q0 (x:=.str "chapter") (Q0 (x:=(Bk.chapter t l).d) rfl rfl rfl) rfl (by rw[QO];simp))))|para is=>exact st (QN (Q0 (x:=.str "para") (Q0 (x:=(Bk.para is).d) rfl rfl rfl) rfl (by rw[QO];simp)) rfl) (ret (Y6 (Q0 (x:=.str "para") (Q0 (x:=(Bk.para is).d) rfl rfl rfl) rfl (by rw[QO];simp))))|plates n l=>exact st (QN (Q0 (x:=.str "plates") (Q0 (x:=(Bk.plates n l).d) rfl rfl rfl) rfl (by rw[QO];simp)) rfl) (ret (Y6 (Q0 (x:=.str "plates") (Q0 (x:=(Bk.plates n l).d) rfl rfl rfl) rfl (by rw[QO];simp))))
def Qki(w h:Int)(o li:Bool)(af:Int)(i:It)(hs:X9 i)(hf:U0 af w h i):Nc [i.d,QR w h o li,.int af]=QL false:=by have fY:D.ix (QR w h o li) (.int 0)=Q1 w:=rfl;unfold Nc Kl;refine Qy rfl ?_;cases i with|word x ns=>have ad:D.add (.lst [.str x]) (QM ns)=some (QM (x::ns)):=S3 (f:=D.str) (xs:=[x]) (ys:=ns) (Cr (by have:=hs.2.1;omega));have al:=EM (x::ns) w (by have:=hs.2.1;simp;omega) (λy hy=>by rcases q_5.mp hy with z|z;rw[z];have:=hs.1;omega;have:=hs.2.2 y z;omega) (λy hy=>by rcases q_5.mp hy with z|z;rw[z];exact hf.1;exact hf.2.2 y z);exact Zj (Qr (Q0 (x:=.str "word") (Q0 (x:=(It.word x ns).d) rfl rfl rfl) rfl (by rw[QO];simp)) (ret (Z0 (Q0 (x:=.lst [.str x]) (y:=QM ns) rfl rfl ad) (Q0 rfl rfl fY) al)))|ref l a b=>refine st (QN (Q0 (x:=.str "ref") (Q0 (x:=(It.ref l a b).d) rfl rfl rfl) rfl (by rw[QO];simp)) rfl) (ret ?_);refine Za (Q0 (x:=.str "ref") (Q0 (x:=(It.ref l a b).d) rfl rfl rfl) rfl (by rw[QO];simp)) (Q0 (Q0 (Q0 (JO (Q0 (x:=(It.ref l a b).d) rfl rfl rfl) (Yw (by have:=hs.1;omega))) rfl rfl) (JO (Q0 (x:=(It.ref l a b).d) rfl rfl rfl) (Yw (by have:=hs.2;omega))) rfl) (Q0 rfl rfl fY) ?_);have hf':(a.length:Int)+af+b.length<=w:=hf;show some (D.bl (decide (w<(a.length:Int)+af+b.length)))=_;rw[JF (by omega)]|mark l=>exact st (QN (Q0 (x:=.str "mark") (Q0 (x:=(It.mark l).d) rfl rfl rfl) rfl (by rw[QO];simp)) rfl) (ret (Y6 (Q0 (x:=.str "mark") (Q0 (x:=(It.mark l).d) rfl rfl rfl) rfl (by rw[QO];simp))))|key l=>exact st (QN (Q0 (x:=.str "key") (Q0 (x:=(It.key l).d) rfl rfl rfl) rfl (by rw[QO];simp)) rfl) (ret (Y6 (Q0 (x:=.str "key") (Q0 (x:=(It.key l).d) rfl rfl rfl) rfl (by rw[QO];simp))))
def Qey(w h:Int)(o li:Bool)(af:Int)(i:It)(hf:U0 af w h i):Na [i.d,QR w h o li]=QL false:=by have hG:D.ix (QR w h o li) (.int 1)=Q1 h:=rfl;unfold Na Kh;refine Qy rfl (ret ?_);cases i with|word x ns=>refine Za (Q0 (x:=.str "word") (Q0 (x:=(It.word x ns).d) rfl rfl rfl) rfl (by rw[QO];simp)) (Q0 (Q0 (JO (Q0 (x:=(It.word x ns).d) rfl rfl rfl) (Um ns)) rfl rfl) (Q0 rfl rfl hG) ?_);have:=hf.2.1;show some (D.bl (decide (h<(ns.length:Int)+1)))=_;rw[JF (by omega)]|ref l a b=>exact Y6 (Q0 (x:=.str "ref") (Q0 (x:=(It.ref l a b).d) rfl rfl rfl) rfl (by rw[QO];simp))|mark l=>exact Y6 (Q0 (x:=.str "mark") (Q0 (x:=(It.mark l).d) rfl rfl rfl) rfl (by rw[QO];simp))|key l=>exact Y6 (Q0 (x:=.str "key") (Q0 (x:=(It.key l).d) rfl rfl rfl) rfl (by rw[QO];simp))
def lc{a:Q8}{l:Z4}{e:QD}{x:D}{xs:List D}(ha:a e=some x)(hl:l e=some xs):lC a l e=some (x::xs):=by unfold lC;rw[ha,hl];rfl
def Mz{n k:Nat}{b:QF}{ds:List D}{e:QD}{d:D}(hl:ds.length=k)(h:b (sD n ds)=some (.nx e))(he:(e[k-1]?).join=some d):Xc n k b ds=some d:=by unfold Xc;rw[if_pos hl,h];exact he
def Rv{i:Nat}{f:List D->Option D}{l:Z4}{e:QD}{ds:List D}{d z:D}(hl:l e=some ds)(hd:eV i e=some d)(hf:f (ds++[d])=some z):XS i f l e=some (.nx (e.set i (some z))):=by unfold XS;rw[hl,hd];show(f (ds++[d])).map _=_;rw[hf];rfl
noncomputable def JY(ls:List Str):D:=.dic (ls.map Sum.inr) (ls.map λ_=>.bl true)
def Iy(l:Str)(ls:List Str):hasK (.inr l) (ls.map Sum.inr)=decide (l∈ls):=by unfold hasK;induction ls with|nil=>simp|cons a ls ih=>
  rw[ZQ,any_cons,ih];by_cases z:a=l;·subst z;simp
  ·have:¬l=a:=λq=>z q.symm;simp[z,this]
def EH(l:Str)(n:Int)(ls:List Str)(h:l∉ls)(hl:ls.length<lI):PV [.str l,.int n,JY ls]=some (JY (ls++[l])):=by
 have hi:D.dIn (.str l) (JY ls)=QL false:=by
  show some (D.bl (hasK (.inr l) (ls.map Sum.inr)))=_;rw[Iy,JF h]
 have pd:D.put (JY ls) (.str l) (.bl true)=some (JY (ls++[l])):=by
  show(if(ls.map Sum.inr:List Kd).length<lI then some (Wj _ _ (.inr l) (.bl true))else none)=_;rw[if_pos (by rw[Qm];exact hl)];unfold Wj;rw[Iy,if_neg (by simpa using h)];unfold JY;rw[Zr,Zr];rfl
 unfold PV KS;refine Mz (e:=[QP l,Q1 n,some (JY (ls++[l]))]) rfl ?_ rfl;refine st (QN (Q0 rfl rfl hi) rfl) ?_;show(D.put (JY ls) (.str l) (.bl true)).map _=_;rw[pd];rfl
def Ul(b:Bk):List Str:=if Je b=""then[]else[Je b]
def Qfx(w h:Int)(o li:Bool)(af:Int)(b:Bk)(n:Int)(ls:List Str)(h0:0<=af)(hs:UW b)(hf:Vq af w h b)(hn:∀l∈Ul b,l∉ls)(hl:ls.length<lI):Pb [b.d,.int n,QR w h o li,.int af,JY ls]=some (JY (ls++Ul b)):=by
 have a1:=Qkh w h o li af b h0 hs hf;have a2:=Qex w h o li af b hf;have a3:=Ce b;have ne:D.neO (.str (Je b)) (.str (Str.ofString ""))=QL (!decide (Je b=Str.ofString "")):=by simp[D.neO,Zu,YS,D.cmpN]
 unfold Pb Kt;refine Mz (e:=[some b.d,Q1 n,some (QR w h o li),Q1 af,some (JY (ls++Ul b))]) rfl ?_ rfl;refine st (QN (Zk rfl rfl rfl a1) rfl) ?_;refine st (QN (Z0 rfl rfl a2) rfl) ?_;unfold Ul at hn⊢;by_cases z:Je b="";·rw[if_pos z,Zp];exact QN (Q0 (JA rfl a3) rfl (by rw[ne,Jf z];rfl)) rfl
 ·rw[if_neg z]at hn⊢;have al:=EH (Je b) n ls (hn _ (by simp)) hl;refine Qr (Q0 (JA rfl a3) rfl (by rw[ne,JF z];rfl)) ?_;exact Rv (ds:=[.str (Je b),.int n]) (lc (JA rfl a3) rfl) rfl al
def Qfz(w h:Int)(o li:Bool)(af:Int)(i:It)(n:Int)(ls:List Str)(hs:X9 i)(hf:U0 af w h i)(hn:∀l∈YZ i,l∉ls)(hl:ls.length<lI):Pc [i.d,.int n,QR w h o li,.int af,JY ls]=some (JY (ls++YZ i)):=by have a1:=Qki w h o li af i hs hf;have a2:=Qey w h o li af i hf;unfold Pc Ku;refine Mz (e:=[some i.d,Q1 n,some (QR w h o li),Q1 af,some (JY (ls++YZ i))]) rfl ?_ rfl;refine st (QN (Zk rfl rfl rfl a1) rfl) ?_;refine st (QN (Z0 rfl rfl a2) rfl) ?_;cases i with|mark l=>have al:=EH l n ls (hn l (by simp[YZ])) hl;exact Qr (Q0 (x:=.str "mark") (Q0 (x:=(It.mark l).d) rfl rfl rfl) rfl (by rw[QO];simp)) (Rv (ds:=[.str l,.int n]) rfl rfl al)|word x ns=>have e:YZ (.word x ns)=[]:=rfl;rw[e,Zp];exact QN (Q0 (x:=.str "word") (Q0 (x:=(It.word x ns).d) rfl rfl rfl) rfl (by rw[QO];simp)) rfl|ref l x y=>have e:YZ (.ref l x y)=[]:=rfl;rw[e,Zp];exact QN (Q0 (x:=.str "ref") (Q0 (x:=(It.ref l x y).d) rfl rfl rfl) rfl (by rw[QO];simp)) rfl|key x=>have e:YZ (.key x)=[]:=rfl;rw[e,Zp];exact QN (Q0 (x:=.str "key") (Q0 (x:=(It.key x).d) rfl rfl rfl) rfl (by rw[QO];simp)) rfl
def QfV(is:List It)(i:Nat)(hi:i<is.length):JZ (is.take (i+1))=JZ (is.take i)+if Qs is[i]then 1 else 0:=by unfold JZ;rw[Xv hi,List.filter_append,Qg];congr 1;cases q:Qs is[i]<;>simp[q]
def B7(is:List It)(i:Nat):JZ (is.take i)<=JZ is:=((take_sublist i is).filter _).length_le
def QfA(w h:Int)(o li:Bool)(af:Int)(is:List It)(n:Int)(ls:List Str)(hl:is.length<=100000)(hs:∀i∈is,X9 i)(hf:∀i∈is,U0 af w h i)(ht:V7 is)(hn:(ls++JG is).Nodup)(my:(ls++JG is).length<lI):Pd [.lst (is.map It.d),.int n,QR w h o li,.int af,JY ls]=some (JY (ls++JG is)):=by
 have body:∃e,N9 (sD 7 [.lst (is.map It.d),.int n,QR w h o li,.int af,JY ls])=some (.nx e)/\∃a b,e=[QB (is.map It.d),Q1 n,some (QR w h o li),Q1 af,some (JY (ls++JG is)),a,b]:=by
  unfold N9;have hc:=GU (it:=Ql (eV 0)) (e:=sD 7 [.lst (is.map It.d),.int n,QR w h o li,.int af,JY ls]) is rfl (by omega);have ln:=HI (is.filter Qs);have e1:((is.filter Qs).length:Int)=(JZ is:Int):=rfl;rw[e1]at ln;obtain⟨e',h1,a,b,h2⟩:=Xn (g:=gS 6) (b:=sQ (XS 4 Pc (Z3 (eV 6) (eV 1) (eV 2) (eV 3))) (QC (eK WL (QZ (eV 6))) (W6 5 D.sub (Q5 1)) (QC (QG (eV 5) (Q5 0)) (X3) (QK)))) It.d is (λi e=>∃a b,e=[QB (is.map It.d),Q1 n,some (QR w h o li),Q1 af,some (JY (ls++JG (is.take i))),a,b]/\a=Q1 ((JZ is:Int)-JZ (is.take i))) (by
   rintro i hi e⟨a,b,rfl,rfl⟩;have tk:JG (is.take (i+1))=JG (is.take i)++YZ is[i]:=fT YZ is i hi;have hm:is[i]∈is:=ZY hi;have bJ:=Np is[i];have nt:=QfV is i hi;have nl:=B7 is (i+1);have hT:=ht i hi;have split:ls++JG is=(ls++JG (is.take i))++(YZ is[i]++JG (is.drop (i+1))):=by
    have:JG is=JG (is.take (i+1))++JG (is.drop (i+1)):=by unfold JG;rw[<-YI,RE]
    rw[this,tk];simp[VF]
   have du:∀l∈YZ is[i],l∉ls++JG (is.take i):=λl h1 h2=>by
    rw[split]at hn;exact(q_63.mp hn).2.2 l h2 l (V0 _ h1) rfl
   have bM:(ls++JG (is.take i)).length<lI:=by
    rw[split,Qg]at my;omega
   have g9:=Qfz w h o li af is[i] n (ls++JG (is.take i)) (hs _ hm) (hf _ hm) du bM;rw[tk,<-VF];generalize is[i]=x at*;refine⟨[QB (is.map It.d),Q1 n,some (QR w h o li),Q1 af,some (JY (ls++JG (is.take i)++YZ x)),Q1 ((JZ is:Int)-JZ (is.take (i+1))),some x.d],.inl ?_,_,_,rfl,rfl⟩;refine J6 rfl ?_;refine st (Rv (ds:=[x.d,.int n,QR w h o li,.int af]) rfl rfl g9) ?_;cases q:Qs x with|true=>rw[q]at bJ nt;refine Qr (JA rfl bJ) ?_;rw[nt,if_pos rfl,show((JZ is:Int)-((JZ (is.take i)+1:Nat):Int))=(JZ is:Int)-JZ (is.take i)-1 from by omega];rfl|false=>
    rw[q]at bJ nt;have:=hT q;refine QN (JA rfl bJ) (QN (Q0 rfl rfl ?_) ?_);·simp[D.eqO,Z5,ZC,D.cmp];omega
    ·rw[nt,if_neg (by decide),Nat.add_zero];rfl) [QB (is.map It.d),Q1 n,some (QR w h o li),Q1 af,some (JY ls),Q1 (JZ is),none] ⟨Q1 (JZ is),none,by rw[take_zero];simp[JG],by rw[take_zero];simp[JZ]⟩;obtain⟨h2,h3⟩:=h2;rw[ZX]at h2;refine⟨e',?_,a,b,h2⟩;refine st (Qf (JO hc ln) rfl) ?_;unfold Qz;exact h1
 obtain⟨e,h1,a,b,rfl⟩:=body;unfold Pd;exact Mz rfl h1 rfl
def stN{n k:Nat}{b:QF}{ds:List D}{e:QD}(hl:ds.length=k)(h:b (sD n ds)=some (.nx e)):Qj n k b ds=some .non:=by unfold Qj;rw[if_pos hl,h];rfl
def Qf9(l:Str)(ls:List Str)(h:l∈ls):D.dNotIn (.str l) (JY ls)=QL false:=by show some (D.bl (!hasK (.inr l) (ls.map Sum.inr)))=_;rw[Iy,Jf h];rfl
def QfB(bs:List Bk)(ls:List Str)(hf:YM bs)(hr:∀l∈rO bs,l∈ls):Pe [Q7 bs,JY ls]=some .non:=by
 obtain⟨e',h1,_⟩:=Xn (g:=Jb [gS 2,gS 3]) (b:=Qz (Ql (eK VL (QZ (QS (QZ (eV 3)))))) (gS 4) (QC (Q4 D.dNotIn (eV 4) (eV 1)) (X3) (QK))) (λp:Bk×Nat=>D.tup [.int p.2,p.1.d]) bs.zipIdx (λi e=>∃a b c,e=[some (Q7 bs),some (JY ls),a,b,c]) (by
  rintro i hi e⟨a,b,c,rfl⟩;have hi':i<bs.length:=by simpa using hi
  have ei:bs.zipIdx[i]=(bs[i],i):=by simp
  rw[ei];have hm:bs[i]∈bs:=ZY hi';have f1:=Dp hf _ hm;have rf:=Mr [bs[i]] f1;rw[A2]at rf;have iM:VL [.lst [bs[i].d]]=some (QM (Qt (iO bs[i]))):=rf;have gb:∀l∈Qt (iO bs[i]),l∈ls:=λl hl=>hr l (q_52.mpr ⟨bs[i],hm,hl⟩);generalize Qt (iO bs[i])=rs at*;generalize bs[i]=x at*;obtain⟨e2,g1,c',g2⟩:=Xn (g:=gS 4) (b:=QC (Q4 D.dNotIn (eV 4) (eV 1)) (X3) (QK)) D.str rs (λ_ e=>∃c,e=[some (Q7 bs),some (JY ls),Q1 i,some x.d,c]) (by rintro j hj e⟨c,rfl⟩;have nn:=Qf9 rs[j] ls (gb _ (ZY hj));exact⟨_,.inl (J6 (e1:=[some (Q7 bs),some (JY ls),Q1 i,some x.d,some (.str rs[j])]) rfl (QN (Q0 rfl rfl nn) rfl)),_,rfl⟩) [some (Q7 bs),some (JY ls),Q1 i,some x.d,c] ⟨c,rfl⟩;subst g2;refine⟨[some (Q7 bs),some (JY ls),Q1 i,some x.d,c'],.inl (J6 (e1:=[some (Q7 bs),some (JY ls),Q1 i,some x.d,c]) rfl ?_),Q1 i,some x.d,c',rfl⟩;·unfold Qz Ql;have hR:eK VL (QZ (QS (QZ (eV 3)))) [some (Q7 bs),some (JY ls),Q1 i,some x.d,c]=some (QM rs):=JA (x:=.lst [x.d]) rfl iM;rw[hR];exact g1) [some (Q7 bs),some (JY ls),none,none,none] ⟨none,none,none,rfl⟩;unfold Pe Kv;refine stN (e:=e') rfl ?_;unfold Qz Xj;show(some (WI 0 (bs.map Bk.d))).bind _=_;rw[PF];exact h1
def QfC(w h:Int)(o li:Bool)(bs:List Bk)(hf:YM bs)(hw:4<=w/\w<=90/\2<=h/\h<=60)(h0:0<=most li bs)(h1:most li bs<10^60)(hs:∀b∈bs,UW b)(ht:∀b∈bs,T4 b)(dw:∀b∈bs,Vq (Jw (most li bs).toNat) w h b)(lR:∀b∈bs,V7 (iO b))(hn:(J4 bs).Nodup)(hr:∀l∈rO bs,l∈J4 bs):Ug [Q7 bs,QR w h o li]=some .non:=by
 have si:Nb [QR w h o li]=QL true:=by unfold Nb Kj QR;simp[Xq,ZK,Vb,lI,Qj,sD,sQ,QC,QQ,RL,QA,W6,Wa,QK,RI,Uv,gS,Jb,VC,eV,eC,Q4,QE,Zw,JV,J8,Vg,Xe,QT,QS,eK,lN,lC,Vh,Zz,Z9,SQ,D.len,D.lt,D.le,D.gt,D.ge,D.add,D.sub,D.ix,D.eqO,D.neO,D.cmp,D.cmpN,D.inst,W9,D.isT,D.intB,D.min2,D.max2,D.neg,D.addI,Jr,Sy,Sk,Sz,X4,UT,RN,RO,RQ,RP,SV,SU,SS,S9,Sv,U2,TN,TM,Z5,Zu,Vv,VA,Vd,Yq,D.rng,D.its,D.itsT,ZC,SW,YS,VJ,Ws,WJ,Wr,Jh,hw.1,hw.2.1,hw.2.2.1,hw.2.2.2]
 have ra:=Qi0 w h o li bs hf h0 h1;have lr:=QfB bs (J4 bs) hf hr;have hbl:=IU bs;obtain⟨af,er⟩:∃af:Int,(Jw (most li bs).toNat:Int)=af:=⟨_,rfl⟩;rw[er]at ra dw;have r0:0<=af:=by omega
 obtain⟨e',g1,g2⟩:=Xn (g:=Jb [gS 4,gS 5]) (b:=sQ (XS 3 Pb (Z3 (eV 5) (eV 4) (eV 1) (eV 2))) (XS 3 Pd (Z3 (eK WM (QZ (eV 5))) (eV 4) (eV 1) (eV 2)))) (λp:Bk×Nat=>D.tup [.int p.2,p.1.d]) bs.zipIdx (λi e=>∃a b,e=[some (Q7 bs),some (QR w h o li),Q1 af,some (JY (J4 (bs.take i))),a,b]) (by
  rintro i hi e⟨a,b,rfl⟩;have hi':i<bs.length:=by simpa using hi
  have ei:bs.zipIdx[i]=(bs[i],i):=by simp
  rw[ei];have hm:bs[i]∈bs:=ZY hi';have tk:J4 (bs.take (i+1))=J4 (bs.take i)++YB bs[i]:=fT YB bs i hi';have lb:YB bs[i]=Ul bs[i]++JG (iO bs[i]):=rfl;have sub:(J4 (bs.take (i+1))).Nodup:=by
   refine List.Nodup.sublist ?_ hn;unfold J4;conv=>rhs;rw[<-RE (i+1) bs,YI]
   exact List.sublist_append_left _ _
  have len:(J4 (bs.take (i+1))).length<=(J4 bs).length:=Sj YB bs (i+1);have hlen:(J4 bs).length<=200000:=by have:=hf.1;have:=hf.2;omega
  have io:=Nt bs[i];have il:=Wv hf _ hm;rw[tk,lb,<-VF]at sub len;rw[tk,lb,<-VF];have sN:=sub;rw[VF]at sN;have lA:=Qfx w h o li af bs[i] i (J4 (bs.take i)) r0 (hs _ hm) (dw _ hm) (λl h1 h2=>(q_63.mp sN).2.2 l h2 l (V0 _ h1) rfl) (Zx (by rw[Qg,Qg]at len;omega));have lu:=QfA w h o li af (iO bs[i]) i (J4 (bs.take i)++Ul bs[i]) il (ht _ hm) (by have:=dw _ hm;intro j hj;cases q:bs[i]with|para is=>rw[q]at this hj;exact this j hj|_=>rw[q]at hj;cases hj) (lR _ hm) sub (Zx (by omega));generalize bs[i]=x at*;refine⟨[some (Q7 bs),some (QR w h o li),Q1 af,some (JY (J4 (bs.take i)++Ul x++JG (iO x))),Q1 i,some x.d],.inl ?_,_,_,rfl⟩;refine J6 rfl ?_;refine st (e1:=[some (Q7 bs),some (QR w h o li),Q1 af,some (JY (J4 (bs.take i)++Ul x)),Q1 i,some x.d]) (Rv (ds:=[x.d,.int i,QR w h o li,.int af]) rfl rfl lA) ?_;exact Rv (ds:=[.lst ((iO x).map It.d),.int i,QR w h o li,.int af]) (lc (JA rfl io) rfl) rfl lu) [some (Q7 bs),some (QR w h o li),Q1 af,some (JY []),none,none] ⟨none,none,rfl⟩;obtain⟨a,b,rfl⟩:=g2;have zl:bs.zipIdx.length=bs.length:=by simp
 rw[zl,ZX]at g1;unfold Ug Ks;refine stN (e:=[some (Q7 bs),some (QR w h o li),Q1 af,some (JY (J4 bs)),a,b]) rfl ?_;refine st (QN (WR (b:=true) (JA rfl si)) rfl) ?_;refine st (e1:=[some (Q7 bs),some (QR w h o li),Q1 af,none,none,none]) (Qf (Z0 rfl rfl ra) rfl) ?_;refine st (e1:=[some (Q7 bs),some (QR w h o li),Q1 af,some (JY []),none,none]) rfl ?_;refine st (e1:=[some (Q7 bs),some (QR w h o li),Q1 af,some (JY (J4 bs)),a,b]) ?_ ?_
 ·unfold Qz Xj;show(some (WI 0 (bs.map Bk.d))).bind _=_;rw[PF];exact g1
 ·unfold Wa;have hR:eK Pe (Qc (eV 0) (eV 3)) [some (Q7 bs),some (QR w h o li),Q1 af,some (JY (J4 bs)),a,b]=some .non:=Z0 rfl rfl lr;rw[hR];rfl
def QeN(i:It):Qs i=!isMK i:=by cases i<;>rfl
def Gj{r:List It}{x:It}(hx:Qs x=true):V7 (r++[x]):=by
 intro i hi h;have hl:(r++[x]).length=r.length+1:=by simp
 have ig:i<r.length:=by
  rcases V1 i r.length with z|z;·exact z
  ·have e:i=r.length:=by omega
   subst e;have:(r++[x])[r.length]=x:=by simp
   rw[this,hx]at h;cases h
 have e1:(r++[x]).take i=r.take i:=by rw[List.take_append_of_le_length (by omega)]
 have e2:JZ (r++[x])=JZ r+1:=by unfold JZ;rw[List.filter_append,Qg];simp[hx]
 rw[e1,e2];have:=B7 r i;omega
def L9:V7 []:=λi hi=>by simp at hi
def Qj0(row:List It):V7 (Qw row):=by
 rcases A6 row with z|⟨r,x,z⟩;·subst z;exact L9
 ·have cl:Qw row=if isMK x then row++[.word "end" []]else row:=by unfold Qw;rw[z];simp
  rw[cl];cases q:isMK x with|true=>rw[if_pos rfl];exact Gj rfl|false=>rw[if_neg (by decide),z];exact Gj (by rw[QeN,q];rfl)
theorem CD:∀(as:List At)(s:List Bk×List It),(∀a∈as,XW a\/a=.fin)->(∀b∈s.1,V7 (iO b))->∀b∈(as.foldl Z6 s).1,V7 (iO b)
 |[],s,_,h=>h|a::as,s,ha,h=>by
  refine CD as (Z6 s a) (λx hx=>ha x (JH _ hx)) λb hb=>?_;obtain⟨bs,row⟩:=s;have tc:V7 (iO (.para (Qw row))):=Qj0 row;have h1:∀b∈bs++[Bk.para (Qw row)],V7 (iO b):=λb hb=>by
   rcases q_7.mp hb with z|z;·exact h b z
   ·rw[q_1.mp z];exact tc
  have h2:∀b∈(if Qw row=[]then bs else bs++[.para (Qw row)]),V7 (iO b):=λb hb=>by
   split at hb;·exact h b hb
   ·exact h1 b hb
  cases a with
  |it i=>exact h b hb|bk x=>
   rcases q_7.mp hb with z|z;·exact h2 b z
   ·rw[q_1.mp z];rcases ha (.bk x) JN with q|q;·cases x<;>first|exact L9|exact q.elim
    ·cases q|brk=>exact h1 b hb|fin=>exact h2 b hb
theorem Pr(P:It->Prop)(he:P (.word "end" [])):∀(as:List At)(s:List Bk×List It),(∀a∈as,XW a\/a=.fin)->(∀i,At.it i∈as->P i)->(∀b∈s.1,∀i∈iO b,P i)->(∀i∈s.2,P i)->∀b∈(as.foldl Z6 s).1,∀i∈iO b,P i
 |[],s,_,_,h,_=>h|a::as,s,ha,hi,h,d5=>by
  obtain⟨bs,row⟩:=s;have hc:∀i∈Qw row,P i:=λi hi=>by
   unfold Qw at hi;split at hi
   ·split at hi
    ·rcases q_7.mp hi with z|z;·exact d5 i z
     ·rw[q_1.mp z];exact he
    ·exact d5 i hi
   ·exact d5 i hi
  have h1:∀b∈bs++[Bk.para (Qw row)],∀i∈iO b,P i:=λb hb=>by
   rcases q_7.mp hb with z|z;·exact h b z
   ·rw[q_1.mp z];exact hc
  have h2:∀b∈(if Qw row=[]then bs else bs++[.para (Qw row)]),∀i∈iO b,P i:=λb hb=>by
   split at hb;·exact h b hb
   ·exact h1 b hb
  have fL:∀x∈as,XW x\/x=.fin:=λx hx=>ha x (JH _ hx);have hi':∀i,At.it i∈as->P i:=λi hx=>hi i (JH _ hx);have nil:∀i∈([]:List It),P i:=λi h=>by cases h
  cases a with
  |it x=>
   refine Pr P he as _ fL hi' h λi hx=>?_;rcases q_7.mp hx with z|z;·exact d5 i z
   ·rw[q_1.mp z];exact hi x JN|bk x=>
   refine Pr P he as _ fL hi' (λb hb=>?_) nil;rcases q_7.mp hb with z|z;·exact h2 b z
   ·rw[q_1.mp z];rcases ha (.bk x) JN with q|q;·cases x<;>first|exact nil|exact q.elim
    ·cases q|brk=>exact Pr P he as _ fL hi' h1 nil|fin=>exact Pr P he as _ fL hi' h2 nil
def Cv(row:List It):JG (Qw row)=JG row:=by
 unfold Qw;split
 ·split;·unfold JG;rw[YI];simp[YZ]
  ·rfl
 ·rfl
theorem CB:∀(as:List At)(s:List Bk×List It),(∀a∈as,XW a\/a=.fin)->J4 (as.foldl Z6 s).1++JG (as.foldl Z6 s).2=J4 s.1++JG s.2++as.flatMap ZN
 |[],s,_=>by simp|a::as,s,ha=>by
  rw[Zq,CB as _ (λx hx=>ha x (JH _ hx)),Zi,<-VF];congr 1;obtain⟨bs,row⟩:=s;have e1:J4 (bs++[.para (Qw row)])=J4 bs++JG row:=by
   unfold J4;rw[YI];simp[YB,Je,iO,Cv]
  have e2:J4 (if Qw row=[]then bs else bs++[.para (Qw row)])=J4 bs++JG row:=by
   split
   ·rename_i z;rw[<-Cv row,z];simp[JG]
   ·exact e1
  have app:∀(xs:List Bk)(b:Bk),J4 (xs++[b])=J4 xs++YB b:=λxs b=>by unfold J4;rw[YI];simp
  cases a with
  |it i=>
   show J4 bs++JG (row++[i])=J4 bs++JG row++ZN (.it i);unfold JG;rw[YI,<-VF];congr 1;cases i<;>simp[YZ,ZN]|bk x=>
   show J4 ((if Qw row=[]then bs else bs++[.para (Qw row)])++[x])++JG []=_;rw[app,e2];have:YB x=ZN (.bk x):=by
    rcases ha (.bk x) JN with q|q;·cases x with
     |para is=>exact q.elim|chapter t l=>by_cases z:l=""<;>simp[YB,Je,ZN,iO,JG,z]|heading t k l=>by_cases z:l=""<;>simp[YB,Je,ZN,iO,JG,z]|table rs l=>by_cases z:l=""<;>simp[YB,Je,ZN,iO,JG,z]|plates n l=>by_cases z:l=""<;>simp[YB,Je,ZN,iO,JG,z]
    ·cases q
   rw[this];simp[JG]|brk=>show J4 (bs++[.para (Qw row)])++JG []=_;rw[e1];simp[JG,ZN]|fin=>show J4 (if Qw row=[]then bs else bs++[.para (Qw row)])++JG []=_;rw[e2];simp[JG,ZN]
def Qfi(ls:List Str)(cs:List Int)(i:Nat)(a:At):ZN (pt ls cs i a)=ZN a:=by
 unfold pt;split;·split<;>rfl
 ·rfl
theorem Dy{α β γ:Type}(f:β->List γ)(h:α->List γ):∀(g:Nat->α->β)(xs:List α),(∀i a,f (g i a)=h a)->(xs.mapIdx g).flatMap f=xs.flatMap h|g,[],_=>rfl|g,x::xs,hg=>by rw[List.mapIdx_cons,Zi,Zi,hg,Dy f h _ xs λi a=>hg _ a]
def Qfh(cs:List Int)(as:List At):YA (ZV cs as)=YA as:=Dy ZN ZN _ as λi a=>Qfi _ _ i a
theorem Ck:∀(cs:List Int)(n:Nat),n+cs.length<=58->((cs.zipIdx n).flatMap λp=>ZN (We p.1 p.2)).Sublist ((List.range' n cs.length).map Ze)
 |[],n,_=>by simp|c::cs,n,h=>by
  rw[JM]at h;have ih:=Ck cs (n+1) (by omega);have ok:=(K4 c n (by omega)).2;rw[List.zipIdx_cons,Zi,JM,List.range'_succ,ZQ];have key:ZN (We c n)=[]\/ZN (We c n)=[Ze n]:=by
   have lb:∀l,T6 n l->(if l=Str.ofString ""then[]else[l])=[]\/(if l=Str.ofString ""then[]else[l])=[Ze n]:=λl hl=>by
    by_cases z:l=Str.ofString "";·left;rw[if_pos z]
    ·right;rw[if_neg z];rcases hl with q|q;·exact absurd q z
     ·rw[q]
   cases q:We c n with
   |brk=>exact .inl rfl|fin=>exact .inl rfl|it i=>
    rw[q]at ok;cases i with
    |mark l=>right;show[l]=_;rw[show l=Ze n from ok]|_=>exact .inl rfl
   |bk b=>
    rw[q]at ok;cases b with
    |chapter t l=>exact lb l ok.2|heading t k l=>exact lb l ok.2.2|table rs l=>exact lb l ok.2.2|plates m l=>exact lb l ok.2|para is=>exact ok.elim
  rcases key with z|z;·have z':ZN (We (c,n).1 (c,n).2)=[]:=z;rw[z',nil_append];exact ih.cons _
  ·have z':ZN (We (c,n).1 (c,n).2)=[Ze n]:=z;rw[z'];exact ih.cons_cons _
theorem BM:∀xs:List Str,Ny xs=true->xs.Nodup|[],_=>List.nodup_nil|x::xs,h=>by simp only[Ny,Xs,List.all_eq_true,decide_eq_true_eq]at h;exact q_46.mpr ⟨λz=>h.1 x z rfl,BM xs h.2⟩
def Qch(cs:List Int)(h:cs.length<=58):(YA (ZJ cs)).Sublist ((List.range 58).map Ze):=by
 have h1:=Ck cs 0 (by omega);have e:YA (ZJ cs)=(cs.zipIdx 0).flatMap λp=>ZN (We p.1 p.2):=by unfold YA ZJ;rw[List.flatMap_map]
 rw[e];refine h1.trans (List.Sublist.map _ ?_);have e2:List.range' 0 cs.length++List.range' (0+cs.length) (58-cs.length)=List.range' 0 (cs.length+(58-cs.length)):=List.range'_append_1;rw[List.range_eq_range',show 58=cs.length+(58-cs.length)from by omega,<-e2];exact List.sublist_append_left _ _
def ES(xs ys:List Bk):J4 (xs++ys)=J4 xs++J4 ys:=by unfold J4;rw[YI]
def D0(cs:List Int)(h:cs.length<58):J4 (U8 cs)=YA (ZJ cs):=by
 have hB:=P2 cs h;have g:=CB (ZV cs (ZJ cs)++[.fin]) ([],[]) (λa ha=>by
  rcases hB a ha with z|z;·exact .inl (S6 z)
  ·exact .inr z);have e2:((ZV cs (ZJ cs)++[At.fin]).foldl Z6 ([],[])).2=[]:=by
  rw[Ts];show(Z6 _ .fin).2=[];rfl
 rw[e2]at g;have e3:(ZV cs (ZJ cs)++[At.fin]).flatMap ZN=YA (ZJ cs):=by rw[YI];show YA (ZV cs (ZJ cs))++_=_;rw[Qfh];simp[ZN]
 rw[e3]at g;have e4:J4 (U8 cs)=J4 ((ZV cs (ZJ cs)++[At.fin]).foldl Z6 ([],[])).1:=rfl;rw[e4];simpa[JG,J4]using g
def QdT(ns:List Int)(w h:Int)(li:Bool):J4 (Zn ns w h li)=[]\/J4 (Zn ns w h li)=[Str.ofString "z"]:=by
 unfold Zn;split;·exact .inl rfl
 ·right;simp[J4,YB,Je,iO,JG,YZ]
def Qfd:((List.range 58).map Ze).Nodup:=BM _ Qfe
def NG(ns:List Int):(J4 (QH ns)).Nodup:=by
 have hl:=TF ns;have sub:=Qch (Y1 ns) (by omega);unfold QH Jv;rw[ES,D0 _ hl];have nd:(YA (ZJ (Y1 ns))).Nodup:=sub.nodup Qfd;rcases QdT ns (dW ns) (dH ns) (JI ns)with z|z;·rw[z];exact nd
 ·rw[z];refine q_46.mpr ⟨λq=>?_,nd⟩;obtain⟨k,hk,e⟩:=q_20.mp (sub.subset q);exact Qff k (List.mem_range.mp hk) e
def B0{bs:List Bk}{l:Str}(h:l∈rO bs):∃b∈bs,∃x y,It.ref l x y∈iO b:=by obtain⟨b,hb,h1⟩:=q_52.mp h;unfold Qt at h1;obtain⟨i,hi,e⟩:=q_20.mp h1;obtain⟨h2,h3⟩:=q_45.mp hi;cases i with|ref l' x y=>cases e;exact⟨b,hb,x,y,h2⟩|_=>cases h3
noncomputable def Lo(L:List Str):It->Prop|.ref l _ _=>l∈L|_=>True
def Qiz(ls:List Str)(cs:List Int)(k:Nat)(a:At):∀i,pt ls cs k a=.it i->(∀j,a=.it j->(∃l x y,j=.ref l x y)\/Lo ls j)->Lo ls i:=by
 intro i e h;unfold pt at e;split at e
 ·split at e;·cases e;trivial
  ·rename_i ne;cases e;show List.getD _ _ _∈ls;have hp:(0:Int)<ls.length:=by cases ls with
    |nil=>exact absurd rfl ne|cons a b=>simp only[JM];omega
   have h1:=XR (ZU (cs.getD k 0) (k+90)) (show(ls.length:Int)≠0 by omega);have h2:=Xu (ZU (cs.getD k 0) (k+90)) hp;rw[YU,Qk (by omega)];exact ZY _
 ·rename_i nr;subst e;rcases h i rfl with⟨l,x,y,rfl⟩|q;·exact absurd rfl (nr l x y)
  ·exact q
def Qcf(cs:List Int)(h:cs.length<58):∀l∈rO (U8 cs),l∈YA (ZJ cs):=by
 intro l hl;obtain⟨b,hb,x,y,hi⟩:=B0 hl;have hB:=P2 cs h;have g:=Pr (Lo (YA (ZJ cs))) trivial (ZV cs (ZJ cs)++[At.fin]) ([],[]) (λa ha=>by
  rcases hB a ha with z|z;·exact .inl (S6 z)
  ·exact .inr z) (λi hm=>by
   rcases q_7.mp hm with z|z
   ·unfold ZV at z;obtain⟨k,hk,e⟩:=List.mem_mapIdx.mp z;refine Qiz _ _ _ _ i e λj _=>?_;cases j with
    |ref l x y=>exact .inl ⟨l,x,y,rfl⟩|_=>exact .inr trivial
   ·cases q_1.mp z) (by simp) (by simp) b hb (.ref l x y) hi;exact g
def QiX(xs ys:List Bk):rO (xs++ys)=rO xs++rO ys:=by unfold rO;rw[YI]
def Ib(ns:List Int):∀l∈rO (QH ns),l∈J4 (QH ns):=by
 intro l hl;have hc:=TF ns;unfold QH Jv at*;rw[QiX]at hl;rw[ES];rcases q_7.mp hl with z|z
 ·refine V0 _ ?_;unfold Zn at z⊢;split at z;·cases z
  ·rename_i ne;rw[if_neg ne];obtain⟨b,hb,x,y,hi⟩:=B0 z;simp only[q_5,Y4,or_false]at hb;rcases hb with q|q|q<;>subst q;·cases hi
   ·cases hi
   ·simp only[iO,q_5,Y4,or_false]at hi;rcases hi with q|q|q;·cases q
    ·cases q
    ·cases q;simp[J4,YB,Je,iO,JG,YZ]
 ·refine YF _ ?_;rw[D0 _ hc];exact Qcf _ hc l z
def SF(ns:List Int):∀b∈QH ns,V7 (iO b):=by
 intro b hb;unfold QH Jv at hb;rcases q_7.mp hb with z|z
 ·unfold Zn at z;split at z;·cases z
  ·simp only[q_5,Y4,or_false]at z;rcases z with q|q|q<;>subst q;·exact L9
   ·exact L9
   ·exact Gj (r:=[_,_]) rfl
 ·exact CD _ ([],[]) (λa ha=>by
   rcases P2 _ (TF ns) a ha with z|z;·exact .inl (S6 z)
   ·exact .inr z) (by simp) b z
def QdS(ns:List Int)(w h:Int)(li:Bool)(hw:4<=w/\w<=90)(hh:2<=h/\h<=60):∀b∈Zn ns w h li,UW b/\T4 b/\Rn b:=by
 intro b hb;have h6:=QaA (SR ns);have hN:=SR ns;unfold Zn at hb;split at hb;·cases hb
 ·simp only[q_5,Y4,or_false]at hb;have it:∀i∈[It.word (YC (Str.ofString "w") (if w-1-Wq ns>1 then w-1-Wq ns else 1)) [],It.mark "z",It.ref "z" "" ""],X9 i:=λi hi=>by
   simp only[q_5,Y4,or_false]at hi;rcases hi with q|q|q<;>subst q;·refine⟨? _,by simp,by simp⟩;rw[LD];split<;>omega
   ·trivial
   ·exact⟨by rw[UB];omega,by rw[UB];omega⟩
  rcases hb with q|q|q<;>subst q
  ·refine⟨trivial,λi hi=>(by cases hi),λn l e=>? _⟩;cases e;omega
  ·refine⟨⟨by simp;omega,λr hr=>? _⟩,λi hi=>(by cases hi),λn l e=>by cases e⟩;rw[List.eq_of_mem_replicate hr,UB];omega
  ·exact⟨it,it,λn l e=>by cases e⟩
def QaW:∀{b:Bk},V6 b->UW b/\T4 b/\Rn b:=by
 intro b h;have j9:∀i,Vt i->X9 i:=λi hi=>by cases i with
  |word x ns=>exact⟨by have:=hi.1.2;omega,by have:=hi.2.1;omega,λr hr=>by have:=hi.2.2 r hr;omega⟩|ref l x y=>exact⟨by have:=hi.1;omega,by have:=hi.2;omega⟩|_=>trivial
 cases b with
 |chapter t l=>exact⟨by have:=h.2;show t.length<=1000;omega,λi hi=>(by cases hi),λn l e=>(by cases e)⟩|heading t k l=>exact⟨by have:=h.1.2;show t.length<=1000;omega,λi hi=>(by cases hi),λn l e=>(by cases e)⟩|table rs l=>exact⟨⟨by have:=h.1.2;omega,λr hr=>by have:=h.2 r hr;omega⟩,λi hi=>(by cases hi),λn l e=>(by cases e)⟩|plates n l=>exact⟨trivial,λi hi=>(by cases hi),λm l' e=>(by cases e;exact h.1)⟩|para is=>exact⟨λi hi=>j9 i (h i hi),λi hi=>j9 i (h i hi),λn l e=>(by cases e)⟩
def XB(ns:List Int):∀b∈QH ns,UW b/\T4 b/\Rn b:=by
 intro b hb;have hw:=UY ns;have hh:=Wi ns;unfold QH at hb;rcases q_7.mp hb with z|z;·exact QdS ns _ _ _ ⟨hw.2.1,hw.2.2⟩ ⟨hh.2.1,hh.2.2⟩ b z
 ·exact QaW (Rz ns b z)
def QdU(ns:List Int)(w h w' h':Int)(li g9:Bool):(Zn ns w h li).map (ZI g9)=(Zn ns w' h' li).map (ZI g9):=by
 unfold Zn;split;·rfl
 ·simp[ZI,Qs,Y2,ZT]
def NH(ns:List Int):most (JI ns) (QH ns)=Z1 ns:=by unfold Z1 QH Jt most;rw[Pp,Pp,Zr,Zr,QdU ns _ _ 4 2]
def Ry(ns:List Int):∀b∈QH ns,Vq (dR ns) (dW ns) (dH ns) b:=by
 intro b hb;have hn:=P1 ns;have hw:=UY ns;have hwd:=D2 ns;have hh:=Wi ns;have hr:=TJ ns;have hN:=SR ns;unfold QH at hb;rcases q_7.mp hb with z|z
 ·have fe:∀b∈Jt ns,Vq (dR ns) (Jm ns).1 (Jm ns).2 b:=λb hb=>hn.2.2.2.2 b (YF _ hb);have ne:¬(JI ns=true\/cell ns 4%3≠1):=λq=>by unfold Zn at z;rw[if_pos q]at z;cases z
  unfold Zn at z;rw[if_neg ne]at z;have rm:dR ns<=(Jm ns).1:=by
   have:=fe (.para [.word (YC "w" (if(4:Int)-1-Wq ns>1 then 4-1-Wq ns else 1)) [],.mark "z",.ref "z" "" ""]) (by unfold Jt Zn;rw[if_neg ne];simp) (.ref "z" "" "") (by simp);have e:((Str.ofString "").length:Int)+dR ns+((Str.ofString "").length:Int)<=(Jm ns).1:=this;rw[UB]at e;omega
  simp only[q_5,Y4,or_false]at z;rcases z with q|q|q<;>subst q;·trivial
  ·refine⟨by simp;omega,λr hr=>?_⟩;rw[List.eq_of_mem_replicate hr,UB];omega
  ·intro i hi;simp only[q_5,Y4,or_false]at hi;rcases hi with q|q|q<;>subst q
   ·refine⟨?_,by simp;omega,by simp⟩;rw[LD];split<;>omega
   ·trivial
   ·show((Str.ofString "").length:Int)+dR ns+((Str.ofString "").length:Int)<=_;rw[UB];omega
 ·exact Dw (by omega) hh.1 (hn.2.2.2.2 b (V0 _ z))
def Qci(ns:List Int):Ug [Q7 (QH ns),QR (dW ns) (dH ns) (dO ns) (JI ns)]=some .non:=by
 have hw:=UY ns;have hh:=Wi ns;have hm:=P0 ns;have e:=NH ns;have:(10:Int)^42<10^60:=by decide
 refine QfC _ _ _ _ _ (Xb ns) ⟨hw.2.1,hw.2.2,hh.2.1,hh.2.2⟩ (by omega) (by omega) (λb hb=>(XB ns b hb).1) (λb hb=>(XB ns b hb).2.1) (λb hb=>?_) (SF ns) (NG ns) (Ib ns);rw[e];exact Ry ns b hb
def US(af:Int)(rs:List Int):Prop:=∀r∈rs,1<=r/\r<=af
theorem Cw(pls:List Plc)(M:Int)(hb:∀x∈pls,1<=x.p/\x.p<=M):∀(is:List It)(s:List (Str×Int)×Nat),(∀x∈s.1,1<=x.2/\x.2<=M)->(∀i(hi:i<is.length),Qs is[i]=false->s.2+JZ (is.take i)<pls.length)->∀x∈(is.foldl (ZO pls) s).1,1<=x.2/\x.2<=M
 |[],s,h,_=>h|i::is,s,h,ht=>by
  have nx:∀j(hj:j<is.length),Qs is[j]=false->(ZO pls s i).2+JZ (is.take j)<pls.length:=λj hj hs=>by
   have:=ht (j+1) (by simpa using hj) (by simpa using hs);rw[List.take_succ_cons,Uo]at this;have e:(ZO pls s i).2=s.2+(if Qs i then 1 else 0):=by cases i<;>simp[ZO,Qs,Y2,ZT]
   rw[e];omega
  refine Cw pls M hb is (ZO pls s i) ?_ nx;cases i with
  |mark l=>
   have hk:=ht 0 (by simp) rfl;simp[JZ]at hk;intro x hx;rcases q_7.mp hx with z|z;·exact h x z
   ·rw[q_1.mp z];show 1<=(pls.getD s.2 ⟨0,0,0⟩).p/\_;rw[YU,Qk hk];exact hb _ (ZY hk)|_=>exact h
def CH(M:Int)(q:Bk×List Plc)(hq:q.2.length=VR q.1)(hb:∀x∈q.2,1<=x.p/\x.p<=M)(ht:V7 (iO q.1)):∀x∈Jg q,1<=x.2/\x.2<=M:=by
 obtain⟨b,pls⟩:=q;simp only[]at hq hb ht;intro x hx;unfold Jg at hx;rcases q_7.mp hx with z|z
 ·split at z;·cases z
  ·rename_i ne;rw[q_1.mp z];have np:pls.length=1:=by cases b<;>first|exact hq|exact absurd rfl ne
   obtain⟨p0,rfl⟩:=List.length_eq_one_iff.mp np;exact hb p0 (by simp)
 ·refine Cw pls M hb (iO b) ([],0) (λy hy=>by cases hy) (λi hi hs=>?_) x z;have:=ht i hi hs;have le:JZ (iO b)<=pls.length:=by cases b with
   |para is=>exact le_of_eq hq.symm|_=>exact WV _
  simp only[];omega
def JL(kv:List (Str×Int))(l:Str):Int:=match D.dget (JK kv) (.str l)with|some (.int p)=>p|_=>0
def Qh9{kv:List (Str×Int)}{l:Str}(h:l∈kv.map (·.1)):D.dget (JK kv) (.str l)=Q1 (JL kv l)/\(l,JL kv l)∈kv:=by
 obtain⟨p,h1,h2⟩:=QaP h;have:JL kv l=p:=by unfold JL;rw[h2]
 rw[this];exact⟨h2,h1⟩
def Qkm(ns:List Int)(ae:List Int)(hr:ae.length=(rO (QH ns)).length):∃T kv,UG [Q7 (QH ns),QR (dW ns) (dH ns) (dO ns) (JI ns),.lst (ae.map .int)]=some T/\UE [Q7 (QH ns),T]=some (JK kv)/\kv.map (·.1)=J4 (QH ns)/\∀x∈kv,1<=x.2/\x.2<=Z1 ns:=by
 have hh:=Wi ns;have sb:=Qal (dW ns) (dH ns) (dO ns) (JI ns) ae (QH ns) (Xb ns) (by omega) (λb hb=>(XB ns b hb).2.1);obtain⟨c,rows,e1,e2,e3⟩:=GS (dW ns) (dH ns) (dO ns) (JI ns) ae (QH ns) (by omega) (λb hb=>(XB ns b hb).2.2);rw[NH]at e3;rw[e1]at sb;have lp:=Ci (QH ns) c rows (Xb ns) e2 (NG ns) (λq hq=>(e3 q hq).1) (SF ns);refine⟨_,_,sb,lp,?_,λx hx=>?_⟩;·rw[Nj YB Jg Iz,LF _ _ e2];rfl
 ·obtain⟨q,hq,cQ⟩:=q_52.mp hx;exact CH (Z1 ns) q (e3 q hq).1 (e3 q hq).2 (SF ns q.1 (WT hq).1) x cQ
def Iq(ns:List Int)(kv:List (Str×Int))(hk:kv.map (·.1)=J4 (QH ns))(hv:∀x∈kv,1<=x.2/\x.2<=Z1 ns)(l:Str)(hl:l∈rO (QH ns)):D.dget (JK kv) (.str l)=Q1 (JL kv l)/\1<=JL kv l/\JL kv l<10^60/\1<=(Jw (JL kv l).toNat:Int)/\(Jw (JL kv l).toNat:Int)<=dR ns:=by
 obtain⟨h1,h2⟩:=Qh9 (kv:=kv) (l:=l) (by rw[hk];exact Ib ns l hl);have hb:=hv _ h2;have hm:=P0 ns;have b1:1<=JL kv l/\JL kv l<=Z1 ns:=hb;have big:(10:Int)^42<10^60:=by decide
 have dp:=SO (JL kv l).toNat;refine⟨h1,b1.1,by omega,by omega,?_⟩;unfold dR;have:Jw (JL kv l).toNat<=Jw (Z1 ns).toNat:=by
  refine(Oj (by decide) (SO _)).mpr ?_;exact lt_of_le_of_lt (by omega) (DD (Z1 ns).toNat)
 omega
def Qd8(ns:List Int)(ae:List Int)(hr:ae.length=(rO (QH ns)).length)(T:D)(kv:List (Str×Int))(h1:UG [Q7 (QH ns),QR (dW ns) (dH ns) (dO ns) (JI ns),.lst (ae.map .int)]=some T)(h2:UE [Q7 (QH ns),T]=some (JK kv))(hk:kv.map (·.1)=J4 (QH ns))(hv:∀x∈kv,1<=x.2/\x.2<=Z1 ns):TZ [Q7 (QH ns),QR (dW ns) (dH ns) (dO ns) (JI ns),.lst (ae.map .int)]=QB (((rO (QH ns)).map λl=>(Jw (JL kv l).toNat:Int)).map .int):=by have rf:=Mr (QH ns) (Xb ns);have rl:=G3 (QH ns);have fw:=Xb ns;unfold TZ Kb;refine Qy rfl ?_;generalize QR (dW ns) (dH ns) (dO ns) (JI ns)=S at*;generalize D.lst (ae.map .int)=RM at*;refine st (e1:=[some (Q7 (QH ns)),some S,some RM,some (JK kv)]) (Qf (Z0 rfl (Zk rfl rfl rfl h1) h2) rfl) (ret ?_);rw[Yh (g:=gS 0) (n:=1) (caps:=[3]) (c:=JS true) (el:=eK Sb (QZ (Q4 D.dget (eV 1) (eV 0)))) D.str (rO (QH ns)) (λe=>∃v,e=[v,some (JK kv)]) (λ_=>true) (λl=>.int (Jw (JL kv l).toNat)) (by have hR:eK VL (QZ (eV 0)) [some (Q7 (QH ns)),some S,some RM,some (JK kv)]=some (QM (rO (QH ns))):=JA rfl rf;unfold Ql;rw[hR];rfl) (lB (by have:=fw.2;omega)) ⟨none,rfl⟩ (by rintro l hl e⟨v,rfl⟩;obtain⟨g1,g2,g3,_⟩:=Iq ns kv hk hv l hl;exact⟨[QP l,some (JK kv)],rfl,⟨_,rfl⟩,rfl,λ_=>JA (Q0 rfl rfl g1) (Dv _ (by omega) g3)⟩)];rw[XM,W5];rfl
def Qkp(xs:List Int):D.neO (.lst (xs.map .int)) (.lst (xs.map .int))=QL false:=by unfold D.neO;rw[if_pos (by rw[VA];have:=UZ (f:=D.int) (n:=0) (λa=>by rw[Z5];exact Qx _) xs;omega),PH Im];rfl
def J9(w h:Int)(s:Sta):Prop:=0<=s.l/\0<=s.u/\s.u<=w/\0<=s.f/\s.l+s.f<=h/\(0<s.u->s.l+s.f<h)
def VS(s t:Sta):Prop:=s.p<t.p\/s.p=t.p/\(s.l<t.l\/s.l=t.l/\s.u<=t.u)/\s.f<=t.f
def Vy(a b:Plc):Prop:=a.p<b.p\/a.p=b.p/\(a.l<b.l\/a.l=b.l/\a.c<=b.c)
def Qik(a:Plc):Vy a a:=.inr ⟨rfl,.inr ⟨rfl,JW _⟩⟩
def Qf8(a:Sta):VS a a:=.inr ⟨rfl,.inr ⟨rfl,JW _⟩,JW _⟩
def Og{w h:Int}{s:Sta}{n r:Int}(hs:J9 w h s)(hn:1<=n/\n<=w)(hr:0<=r/\r<h):J9 w h (JE w h s n r).2:=by
 obtain⟨a1,a2,a3,a4,a5,a6⟩:=hs;unfold JE J9;split
 ·rename_i z;by_cases u0:s.u=0;·simp only[u0,if_true];omega
  ·have:=z.1;simp only[u0,if_false];omega
 ·split;·dsimp only;omega
  ·dsimp only;omega
def Ht(w h:Int)(s:Sta)(n r:Int)(hu:0<=s.u):((s.u=0\/s.u+1+n<=w)/\s.l+s.f+(1+r)<=h/\∃c,(s.u=0/\c=0\/0<s.u/\c=s.u+1)/\JE w h s n r=(⟨s.p,s.l,c⟩,⟨s.p,s.l,c+n,s.f+r⟩))\/(¬((s.u=0\/s.u+1+n<=w)/\s.l+s.f+(1+r)<=h)/\((0<s.u/\s.l+s.f+(2+r)<=h/\JE w h s n r=(⟨s.p,s.l+1,0⟩,⟨s.p,s.l+1,0+n,s.f+r⟩))\/(¬(0<s.u/\s.l+s.f+(2+r)<=h)/\JE w h s n r=(⟨s.p+1,0,0⟩,⟨s.p+1,0,0+n,r⟩)))):=by
 unfold JE;by_cases x1:(s.u=0\/s.u+1+n<=w)/\s.l+s.f+(1+r)<=h
 ·rw[if_pos x1];by_cases u0:s.u=0;·exact .inl ⟨x1.1,x1.2,0,.inl ⟨u0,rfl⟩,by simp[u0]⟩
  ·exact .inl ⟨x1.1,x1.2,s.u+1,.inr ⟨by omega,rfl⟩,by simp[u0]⟩
 ·rw[if_neg x1];by_cases x2:0<s.u/\s.l+s.f+(2+r)<=h
  ·rw[if_pos x2];exact .inr ⟨x1,.inl ⟨x2.1,x2.2,rfl⟩⟩
  ·rw[if_neg x2];exact .inr ⟨x1,.inr ⟨x2,rfl⟩⟩
def Br{w h:Int}{s t:Sta}{n m r:Int}(hs:J9 w h s)(ht:J9 w h t)(hl:VS s t)(hn:1<=n/\n<=m/\m<=w)(hr:0<=r/\r<h):Vy (JE w h s n r).1 (JE w h t m r).1/\VS (JE w h s n r).2 (JE w h t m r).2:=by
 have nm:=hn.2.1;have su:=hs.2.1;have tu:=ht.2.1;have tl:=ht.1;have tf:=ht.2.2.2.1;clear hs ht hn hr;rcases Ht w h s n r su with⟨x1,x2,c,x3,e⟩|⟨x1,⟨x2,x3,e⟩|⟨x2,e⟩⟩<;>rw[e]<;>clear e<;>rcases Ht w h t m r tu with⟨y1,y2,d,y3,e⟩|⟨y1,⟨y2,y3,e⟩|⟨y2,e⟩⟩<;>rw[e]<;>clear e<;>rcases hl with hp|⟨hp,hl|⟨hl,hu⟩,hf⟩;·exact⟨.inl hp,.inl hp⟩
 ·exact⟨.inr ⟨hp,.inl hl⟩,.inr ⟨hp,.inl hl,Xw hf _⟩⟩
 ·have cd:c<=d:=by clear x1 x2 y1 y2 tl tf nm hp hl hf;omega
  exact⟨.inr ⟨hp,.inr ⟨hl,cd⟩⟩,.inr ⟨hp,.inr ⟨hl,add_le_add cd nm⟩,Xw hf _⟩⟩
 ·exact⟨.inl hp,.inl hp⟩
 ·exact⟨.inr ⟨hp,.inl (UO hl (YJ _))⟩,.inr ⟨hp,.inl (UO hl (YJ _)),Xw hf _⟩⟩
 ·exact⟨.inr ⟨hp,.inl (hl▸YJ _)⟩,.inr ⟨hp,.inl (hl▸YJ _),Xw hf _⟩⟩
 ·exact⟨.inl (UO hp (YJ _)),.inl (UO hp (YJ _))⟩
 ·exact⟨.inl (hp▸YJ _),.inl (hp▸YJ _)⟩
 ·exact⟨.inl (hp▸YJ _),.inl (hp▸YJ _)⟩
 ·exact⟨.inl hp,.inl hp⟩
 ·have d0:0<=d:=by clear x1 x2 x3 y1 y2 tl tf nm hp hl hf;omega
  have un:0+n<=d+m:=add_le_add d0 nm;rcases Tt (show s.l+1<=t.l from hl)with z|z;·exact⟨.inr ⟨hp,.inl z⟩,.inr ⟨hp,.inl z,Xw hf _⟩⟩
  ·exact⟨.inr ⟨hp,.inr ⟨z,d0⟩⟩,.inr ⟨hp,.inr ⟨z,un⟩,Xw hf _⟩⟩
 ·refine absurd ⟨.inr ?_,?_⟩ x1;·clear x1 x3 y2 y3 tl tf hp hl hf;omega
  ·clear x1 x2 x3 y1 y3 su tu nm hp hu;omega
 ·exact⟨.inl hp,.inl hp⟩
 ·exact⟨.inr ⟨hp,.inl (UP hl _)⟩,.inr ⟨hp,.inl (UP hl _),Xw hf _⟩⟩
 ·exact⟨.inr ⟨hp,.inr ⟨congrArg (·+1) hl,JW _⟩⟩,.inr ⟨hp,.inr ⟨congrArg (·+1) hl,Int.add_le_add_left nm _⟩,Xw hf _⟩⟩
 ·exact⟨.inl (UO hp (YJ _)),.inl (UO hp (YJ _))⟩
 ·exact⟨.inl (hp▸YJ _),.inl (hp▸YJ _)⟩
 ·exact⟨.inl (hp▸YJ _),.inl (hp▸YJ _)⟩
 ·have d0:0<=d:=by clear x1 x2 y1 y2 tl tf nm hp;omega
  have un:0+n<=d+m:=add_le_add d0 nm;have ff:r<=t.f+r:=Int.le_add_of_nonneg_left tf;rcases Tt (show s.p+1<=t.p from hp)with z|z;·exact⟨.inl z,.inl z⟩
  ·rcases Tt tl with y|y;·exact⟨.inr ⟨z,.inl y⟩,.inr ⟨z,.inl y,ff⟩⟩
   ·exact⟨.inr ⟨z,.inr ⟨y,d0⟩⟩,.inr ⟨z,.inr ⟨y,un⟩,ff⟩⟩
 ·exfalso;clear y1 y3 tl tf nm hp;omega
 ·exfalso;clear y3 tl tf hp;omega
 ·have ff:r<=t.f+r:=Int.le_add_of_nonneg_left tf;have ll:0<t.l+1:=Int.lt_add_one_of_le tl;rcases Tt (show s.p+1<=t.p from hp)with z|z;·exact⟨.inl z,.inl z⟩
  ·exact⟨.inr ⟨z,.inl ll⟩,.inr ⟨z,.inl ll,ff⟩⟩
 ·exfalso;clear y1 y2 tl tf nm hp tu;omega
 ·exfalso;clear y1 y2 tl tf nm hp tu hu;omega
 ·exact⟨.inl (UP hp _),.inl (UP hp _)⟩
 ·exact⟨.inr ⟨congrArg (·+1) hp,.inr ⟨rfl,JW _⟩⟩,.inr ⟨congrArg (·+1) hp,.inr ⟨rfl,Int.add_le_add_left nm _⟩,JW _⟩⟩
 ·exact⟨.inr ⟨congrArg (·+1) hp,.inr ⟨rfl,JW _⟩⟩,.inr ⟨congrArg (·+1) hp,.inr ⟨rfl,Int.add_le_add_left nm _⟩,JW _⟩⟩
def TX{w h:Int}{s:Sta}(hs:J9 w h s):J9 w h (endLine s)/\(endLine s).u=0:=by
 obtain⟨a1,a2,a3,a4,a5,a6⟩:=hs;unfold endLine;split;·rename_i z;exact⟨⟨a1,a2,a3,a4,a5,a6⟩,z⟩
 ·unfold J9;dsimp only;omega
def DQ{w h:Int}{s t:Sta}(hs:J9 w h s)(ht:J9 w h t)(hl:VS s t):VS (endLine s) (endLine t):=by
 have a2:=hs.2.1;have b2:=ht.2.1;clear hs ht;unfold endLine;by_cases u0:s.u=0<;>by_cases v0:t.u=0;·rw[if_pos u0,if_pos v0];exact hl
 ·rw[if_pos u0,if_neg v0];rcases hl with hp|⟨hp,hl|⟨hl,hu⟩,hf⟩;·exact .inl hp
  ·exact .inr ⟨hp,.inl (UO hl (YJ _)),hf⟩
  ·exact .inr ⟨hp,.inl (hl▸YJ _),hf⟩
 ·rw[if_neg u0,if_pos v0];rcases hl with hp|⟨hp,hl|⟨hl,hu⟩,hf⟩;·exact .inl hp
  ·exact .inr ⟨hp,(Tt hl).imp id (⟨·,b2⟩),hf⟩
  ·exact absurd (le_antisymm (v0▸hu) a2) u0
 ·rw[if_neg u0,if_neg v0];rcases hl with hp|⟨hp,hl|⟨hl,hu⟩,hf⟩;·exact .inl hp
  ·exact .inr ⟨hp,.inl (UP hl _),hf⟩
  ·exact .inr ⟨hp,.inr ⟨congrArg (·+1) hl,JW _⟩,hf⟩
def Up{w h:Int}{s:Sta}{a b:Int}(hs:J9 w h s)(ha:1<=a)(hb:0<=b)(dJ:a+b<=h):J9 w h (Jc h s a b).2:=by
 obtain⟨⟨a1,a2,a3,a4,a5,a6⟩,z⟩:=TX hs;unfold Jc J9 Jl;split;·dsimp only;omega
 ·dsimp only;omega
def Hr{w h:Int}{s t:Sta}{a b:Int}(hs:J9 w h s)(ht:J9 w h t)(hl:VS s t)(ha:1<=a)(hb:0<=b)(dJ:a+b<=h):Vy (Jc h s a b).1 (Jc h t a b).1/\VS (Jc h s a b).2 (Jc h t a b).2:=by
 have hm:=DQ hs ht hl;have tl:=(TX ht).1.1;have tf:=(TX ht).1.2.2.2.1;clear hs ht hl ha hb dJ;have e1:∀s:Sta,(endLine s).l+(endLine s).f+(a+b)<=h->Jc h s a b=(⟨(endLine s).p,(endLine s).l,0⟩,⟨(endLine s).p,(endLine s).l+a,0,(endLine s).f⟩):=λs x=>by unfold Jc;rw[if_pos x]
 have e2:∀s:Sta,¬(endLine s).l+(endLine s).f+(a+b)<=h->Jc h s a b=(⟨(endLine s).p+1,0,0⟩,⟨(endLine s).p+1,0+a,0,0⟩):=λs x=>by unfold Jc;rw[if_neg x];rfl
 by_cases x:(endLine s).l+(endLine s).f+(a+b)<=h<;>by_cases v:(endLine t).l+(endLine t).f+(a+b)<=h
 ·rw[e1 s x,e1 t v];rcases hm with hp|⟨hp,hl|⟨hl,hu⟩,hf⟩;·exact⟨.inl hp,.inl hp⟩
  ·exact⟨.inr ⟨hp,.inl hl⟩,.inr ⟨hp,.inl (UP hl _),hf⟩⟩
  ·exact⟨.inr ⟨hp,.inr ⟨hl,JW _⟩⟩,.inr ⟨hp,.inr ⟨congrArg (·+a) hl,JW _⟩,hf⟩⟩
 ·rw[e1 s x,e2 t v];have:(endLine s).p<(endLine t).p+1:=by
   rcases hm with hp|⟨hp,_⟩;·exact UO hp (YJ _)
   ·exact hp▸YJ _
  exact⟨.inl this,.inl this⟩
 ·rw[e2 s x,e1 t v];rcases hm with hp|⟨hp,hl,hf⟩
  ·rcases Tt (show(endLine s).p+1<=(endLine t).p from hp)with z|z;·exact⟨.inl z,.inl z⟩
   ·rcases Tt tl with y|y;·exact⟨.inr ⟨z,.inl y⟩,.inr ⟨z,.inl (UP y _),tf⟩⟩
    ·exact⟨.inr ⟨z,.inr ⟨y,JW _⟩⟩,.inr ⟨z,.inr ⟨congrArg (·+a) y,JW _⟩,tf⟩⟩
  ·have l2:(endLine s).l<=(endLine t).l:=hl.elim RG λz=>RF z.1;exact absurd (ZW (Xw (add_le_add l2 hf) _) v) x
 ·rw[e2 s x,e2 t v];rcases hm with hp|⟨hp,_⟩;·exact⟨.inl (UP hp _),.inl (UP hp _)⟩
  ·exact⟨.inr ⟨congrArg (·+1) hp,.inr ⟨rfl,JW _⟩⟩,.inr ⟨congrArg (·+1) hp,.inr ⟨rfl,JW _⟩,JW _⟩⟩
def BI{w h:Int}{s t:Sta}(hs:J9 w h s)(ht:J9 w h t)(hl:VS s t):(JR s).p<=(JR t).p:=by
 obtain⟨a1,a2,_,a4,_⟩:=hs;clear ht;have e1:∀s:Sta,(s.l=0/\s.u=0/\s.f=0)->(JR s).p=s.p:=λs x=>by unfold JR;rw[if_pos x]
 have e2:∀s:Sta,¬(s.l=0/\s.u=0/\s.f=0)->(JR s).p=s.p+1:=λs x=>by unfold JR;rw[if_neg x];rfl
 by_cases x:s.l=0/\s.u=0/\s.f=0<;>by_cases v:t.l=0/\t.u=0/\t.f=0
 ·rw[e1 s x,e1 t v];rcases hl with hp|⟨hp,_⟩;·exact RG hp
  ·exact RF hp
 ·rw[e1 s x,e2 t v];rcases hl with hp|⟨hp,_⟩;·exact RG (UO hp (YJ _))
  ·exact hp▸RG (YJ _)
 ·rw[e2 s x,e1 t v];rcases hl with hp|⟨_,hl|⟨hl,hu⟩,hf⟩;·exact hp
  ·exact absurd (v.1▸hl) (Int.not_lt.mpr a1)
  ·exact absurd ⟨hl.trans v.1,le_antisymm (v.2.1▸hu) a2,le_antisymm (v.2.2▸hf) a4⟩ x
 ·rw[e2 s x,e2 t v];rcases hl with hp|⟨hp,_⟩;·exact Xw (RG hp) _
  ·exact RF (congrArg (·+1) hp)
def Qf6{w h:Int}{s t:Sta}(o:Bool)(hs:J9 w h s)(ht:J9 w h t)(hl:VS s t):(Z2 o s).p<=(Z2 o t).p:=by
 have:=BI hs ht hl;unfold Z2 Jl;by_cases x:o=true/\(JR s).p%2=0<;>by_cases v:o=true/\(JR t).p%2=0;·rw[if_pos x,if_pos v];dsimp only;omega
 ·rw[if_pos x,if_neg v];have:¬(JR t).p%2=0:=λq=>v ⟨x.1,q⟩;dsimp only;omega
 ·rw[if_neg x,if_pos v];dsimp only;omega
 ·rw[if_neg x,if_neg v];omega
def Jd{α β:Type}(r:α->β->Prop):List α->List β->Prop|[],[]=>True|a::as,b::bs=>r a b/\Jd r as bs|_,_=>False
theorem Lx{α β:Type}{r:α->β->Prop}:∀{as:List α}{bs:List β},Jd r as bs->as.length=bs.length|[],[],_=>rfl|_::_,_::_,h=>by rw[JM,JM,Lx h.2]|[],_::_,h=>h.elim|_::_,[],h=>h.elim
theorem S4{α β:Type}{r:α->β->Prop}{a:α}{b:β}(hr:r a b):∀{as:List α}{bs:List β},Jd r as bs->Jd r (as++[a]) (bs++[b])|[],[],_=>⟨hr,trivial⟩|_::_,_::_,h=>⟨h.1,S4 hr h.2⟩|[],_::_,h=>h.elim|_::_,[],h=>h.elim
theorem Lw{α β:Type}{r:α->β->Prop}:∀{as:List α}{bs:List β}(i:Nat){a:α}{b:β},Jd r as bs->as[i]?=some a->bs[i]?=some b->r a b|[],[],i,a,b,_,h,_=>by simp at h|x::as,y::bs,0,a,b,h,h1,h2=>by simp at h1 h2;subst h1 h2;exact h.1|x::as,y::bs,i+1,a,b,h,h1,h2=>Lw i h.2 (by simpa using h1) (by simpa using h2)|[],_::_,_,_,_,h,_,_=>h.elim|_::_,[],_,_,_,h,_,_=>h.elim
def S2(af:Int)(r1 r2:List Int):Prop:=Jd (λa b=>1<=a/\a<=b/\b<=af) r1 r2
def Qbo{af:Int}{r1 r2:List Int}(h:S2 af r1 r2)(k:Nat)(hk:k<r1.length):1<=r1.getD k 0/\r1.getD k 0<=r2.getD k 0/\r2.getD k 0<=af:=by have hl:=Lx h;rw[YU,YU,Qk hk,Qk (by omega)];exact Lw (r:=λa b=>1<=a/\a<=b/\b<=af) k h (Qk hk) (Qk (by omega))
theorem EJ{α β:Type}{r:α->β->Prop}:∀(k:Nat){as:List α}{bs:List β},Jd r as bs->Jd r (as.drop k) (bs.drop k)|0,_,_,h=>h|k+1,[],[],_=>trivial|k+1,_::_,_::_,h=>EJ k h.2|_+1,[],_::_,h=>h.elim|_+1,_::_,[],h=>h.elim
noncomputable def La:It->Prop|.word x _=>1<=x.length|_=>True
def Nr(w h:Int)(a b:List Plc×Nat×Sta):Prop:=Jd Vy a.1 b.1/\a.2.1=b.2.1/\VS a.2.2 b.2.2/\J9 w h a.2.2/\J9 w h b.2.2
theorem CS(w h af:Int)(r1 r2:List Int)(hr:S2 af r1 r2)(hh:1<=h):∀(is:List It)(a b:List Plc×Nat×Sta),Nr w h a b->(∀i∈is,U0 af w h i)->(∀i∈is,La i)->a.2.1+(Qt is).length<=r1.length->Nr w h (is.foldl (Jo w h r1) a) (is.foldl (Jo w h r2) b)
 |[],a,b,dJ,_,_,_=>dJ|i::is,a,b,dJ,hf,hw,hk=>by
  have key:Nr w h (Jo w h r1 a i) (Jo w h r2 b i):=by
   obtain⟨h1,h2,h3,h4,h5⟩:=dJ;have fi:=hf i JN;have wi:=hw i JN;cases i with
   |word x ns=>
    have n1:1<=(x.length:Int)/\(x.length:Int)<=w:=⟨by have:1<=x.length:=wi;omega,fi.1⟩;have nr:0<=(ns.length:Int)/\(ns.length:Int)<h:=⟨by omega,by have:=fi.2.1;omega⟩;obtain⟨m1,m2⟩:=Br h4 h5 h3 ⟨n1.1,JW _,n1.2⟩ nr;exact⟨S4 m1 h1,h2,m2,Og h4 n1 nr,Og h5 n1 nr⟩|ref l x y=>
    have eW:a.2.1<r1.length:=by
     have:(Qt (It.ref l x y::is)).length=1+(Qt is).length:=by unfold Qt;rw[List.filter_cons_of_pos rfl];simp;omega
     omega
    have g:=Qbo hr a.2.1 eW;have fi':(x.length:Int)+af+y.length<=w:=fi;have e:b.2.1=a.2.1:=h2.symm;have nr:0<=(0:Int)/\(0:Int)<h:=⟨JW _,by omega⟩;obtain⟨m1,m2⟩:=Br (n:=(x.length:Int)+r1.getD a.2.1 0+y.length) (m:=(x.length:Int)+r2.getD a.2.1 0+y.length) h4 h5 h3 ⟨by omega,by omega,by omega⟩ nr;show Nr w h (a.1++[(JE w h a.2.2 ((x.length:Int)+r1.getD a.2.1 0+y.length) 0).1],a.2.1+1,(JE w h a.2.2 ((x.length:Int)+r1.getD a.2.1 0+y.length) 0).2) (b.1++[(JE w h b.2.2 ((x.length:Int)+r2.getD b.2.1 0+y.length) 0).1],b.2.1+1,(JE w h b.2.2 ((x.length:Int)+r2.getD b.2.1 0+y.length) 0).2);rw[e];exact⟨S4 m1 h1,rfl,m2,Og h4 ⟨by omega,by omega⟩ nr,Og h5 ⟨by omega,by omega⟩ nr⟩|mark l=>exact⟨h1,h2,h3,h4,h5⟩|key l=>exact⟨h1,h2,h3,h4,h5⟩
  refine CS w h af r1 r2 hr hh is _ _ key (λx hx=>hf x (JH _ hx)) (λx hx=>hw x (JH _ hx)) ?_;have e:(Jo w h r1 a i).2.1+(Qt is).length=a.2.1+(Qt (i::is)).length:=by
   have:(Qt (i::is)).length=(if ZT i then 1 else 0)+(Qt is).length:=by unfold Qt;rw[filter_cons];split<;>simp<;>omega
   rw[this];cases i<;>simp[Jo,ZT]<;>omega
  omega
def Rg(h:Int):Bk->Prop|.heading _ k _=>0<=k/\1+k<=h|.table rs _=>1<=rs.length/\(rs.length:Int)<=h|.plates n _=>1<=n|.para is=>∀i∈is,La i|_=>True
def T8{w h p:Int}(hw:0<=w)(hh:1<=h):J9 w h (Jl p):=by unfold J9 Jl;dsimp only;omega
def EW{p q:Int}(h:p<=q):VS (Jl p) (Jl q):=by unfold VS Jl;dsimp only;omega
def HW(o:Bool)(s:Sta):Z2 o s=Jl (Z2 o s).p:=by have h:=HX o s;generalize Z2 o s=t at*;obtain⟨p,l,u,f⟩:=t;obtain⟨_,_,rfl,rfl,rfl⟩:=h;rfl
def QbG(w h:Int)(o:Bool)(b:Bk){s t:Sta}(hw:0<=w)(hh:1<=h)(hs:J9 w h s)(ht:J9 w h t)(hl:VS s t)(hp:VD b=false)(hb:Rg h b):Vy (ZG h o s b).1 (ZG h o t b).1/\VS (ZG h o s b).2 (ZG h o t b).2/\J9 w h (ZG h o s b).2/\J9 w h (ZG h o t b).2:=by cases b with
 |para is=>cases hp|plates n l=>
  have:=BI hs ht hl;refine⟨? _,EW (by omega),T8 hw hh,T8 hw hh⟩;show(JR s).p<(JR t).p\/(JR s).p=(JR t).p/\((0:Int)<0\/(0:Int)=0/\(0:Int)<=0);omega|table rs l=>
  obtain⟨b1,b2⟩:=hb;obtain⟨m1,m2⟩:=Hr hs ht hl (a:=rs.length) (b:=0) (by omega) (by omega) (by omega);exact⟨m1,m2,Up hs (by omega) (by omega) (by omega),Up ht (by omega) (by omega) (by omega)⟩|heading x k l=>obtain⟨b1,b2⟩:=hb;obtain⟨m1,m2⟩:=Hr hs ht hl (a:=1) (b:=k) (by omega) (by omega) (by omega);exact⟨m1,m2,Up hs (by omega) (by omega) (by omega),Up ht (by omega) (by omega) (by omega)⟩|chapter x l=>
  have nc:=Qf6 o hs ht hl;have e1:=HW o s;have e2:=HW o t;have s1:J9 w h (Z2 o s):=by rw[e1];exact T8 hw hh
  have s2:J9 w h (Z2 o t):=by rw[e2];exact T8 hw hh
  have l1:VS (Z2 o s) (Z2 o t):=by rw[e1,e2];exact EW nc
  obtain⟨m1,m2⟩:=Hr s1 s2 l1 (a:=1) (b:=0) (by omega) (by omega) (by omega);exact⟨m1,m2,Up s1 (by omega) (by omega) (by omega),Up s2 (by omega) (by omega) (by omega)⟩
def NB(w h:Int)(a b:List (List Plc)×Sta×Nat):Prop:=Jd (Jd Vy) a.1 b.1/\VS a.2.1 b.2.1/\a.2.2=b.2.2/\J9 w h a.2.1/\J9 w h b.2.1
theorem Ed(w h af:Int)(o:Bool)(r1 r2:List Int)(hr:S2 af r1 r2)(hw:0<=w)(hh:1<=h):∀(bs:List Bk)(a b:List (List Plc)×Sta×Nat),NB w h a b->(∀x∈bs,Vq af w h x)->(∀x∈bs,Rg h x)->a.2.2+(rO bs).length<=r1.length->NB w h (bs.foldl (JU w h o r1) a) (bs.foldl (JU w h o r2) b)
 |[],a,b,dJ,_,_,_=>dJ|x::bs,a,b,dJ,hf,i9,hk=>by
  have rl:(rO (x::bs)).length=(Qt (iO x)).length+(rO bs).length:=by unfold rO;rw[Zi,Qg]
  have key:NB w h (JU w h o r1 a x) (JU w h o r2 b x)/\(JU w h o r1 a x).2.2=a.2.2+(Qt (iO x)).length:=by
   obtain⟨h1,h2,h3,h4,h5⟩:=dJ;have other:VD x=false->JU w h o r1 a x=(a.1++[[(ZG h o a.2.1 x).1]],(ZG h o a.2.1 x).2,a.2.2)->JU w h o r2 b x=(b.1++[[(ZG h o b.2.1 x).1]],(ZG h o b.2.1 x).2,b.2.2)->iO x=[]->NB w h (JU w h o r1 a x) (JU w h o r2 b x)/\(JU w h o r1 a x).2.2=a.2.2+(Qt (iO x)).length:=by
    intro hp e1 e2 e3;obtain⟨m1,m2,m3,m4⟩:=QbG w h o x hw hh h4 h5 h2 hp (i9 x JN);rw[e1,e2,e3];exact⟨⟨S4 ⟨m1,trivial⟩ h1,m2,h3,m3,m4⟩,rfl⟩
   cases x with
   |para is=>
    have dl:S2 af (r1.drop a.2.2) (r2.drop a.2.2):=EJ _ hr;have im:=CS w h af (r1.drop a.2.2) (r2.drop a.2.2) dl hh is ([],0,a.2.1) ([],0,b.2.1) ⟨trivial,rfl,h2,h4,h5⟩ (hf _ JN) (i9 _ JN) (by rw[length_drop];have:(Qt (iO (.para is))).length=(Qt is).length:=rfl;simp only[];omega);obtain⟨i1,i2,i3,i4,i5⟩:=im;have e2:JU w h o r2 b (.para is)=(b.1++[(V2 w h b.2.1 (r2.drop a.2.2) is).1],endLine (V2 w h b.2.1 (r2.drop a.2.2) is).2.2,a.2.2+(Qt is).length):=by rw[h3];rfl
    rw[e2];exact⟨⟨S4 i1 h1,DQ i4 i5 i3,rfl,(TX i4).1,(TX i5).1⟩,rfl⟩|chapter t l=>exact other rfl rfl rfl rfl|heading t k l=>exact other rfl rfl rfl rfl|table rs l=>exact other rfl rfl rfl rfl|plates n l=>exact other rfl rfl rfl rfl
  refine Ed w h af o r1 r2 hr hw hh bs _ _ key.1 (λy hy=>hf y (JH _ hy)) (λy hy=>i9 y (JH _ hy)) ?_;rw[key.2];omega
theorem EL{α:Type}{r:α->α->Prop}(h:∀a,r a a):∀xs:List α,Jd r xs xs|[]=>trivial|x::xs=>⟨h x,EL h xs⟩
theorem Lv{α β:Type}{r:α->β->Prop}:∀{as:List α}{bs:List β}{cs:List α}{ds:List β},Jd r as bs->Jd r cs ds->Jd r (as++cs) (bs++ds)|[],[],_,_,_,h=>h|_::_,_::_,_,_,h1,h2=>⟨h1.1,Lv h1.2 h2⟩|[],_::_,_,_,h,_=>h.elim|_::_,[],_,_,h,_=>h.elim
def Qij{a b:Plc}(h:Vy a b):a.p<=b.p:=by unfold Vy at h;omega
def Te(x y:Str×Int):Prop:=x.1=y.1/\x.2<=y.2
def C9{xs ys:List Plc}(h:Jd Vy xs ys)(k:Nat):(xs.getD k ⟨0,0,0⟩).p<=(ys.getD k ⟨0,0,0⟩).p:=by
 have hl:=Lx h;rw[YU,YU];rcases V1 k xs.length with hk|hk
 ·rw[Qk hk,Qk (by omega)];exact Qij (Lw k h (Qk hk) (Qk (by omega)))
 ·rw[XQ hk,XQ (by omega)];exact JW _
theorem O3{xs ys:List Plc}(h:Jd Vy xs ys):∀(is:List It)(s t:List (Str×Int)×Nat),Jd Te s.1 t.1->s.2=t.2->Jd Te (is.foldl (ZO xs) s).1 (is.foldl (ZO ys) t).1|[],s,t,h1,_=>h1|i::is,s,t,h1,h2=>by rw[Zq,Zq];cases i with|mark l=>refine O3 h is _ _ ?_ h2;show Jd Te (s.1++[_]) (t.1++[(l,(ys.getD t.2 ⟨0,0,0⟩).p)]);rw[<-h2];exact S4 ⟨rfl,C9 h s.2⟩ h1|key l=>exact O3 h is s t h1 h2|word x ns=>exact O3 h is (s.1,s.2+1) (t.1,t.2+1) h1 (by simp only[];omega)|ref l x y=>exact O3 h is (s.1,s.2+1) (t.1,t.2+1) h1 (by simp only[];omega)
def Qeu(b:Bk){xs ys:List Plc}(h:Jd Vy xs ys):Jd Te (Jg (b,xs)) (Jg (b,ys)):=by
 unfold Jg;refine Lv ?_ (O3 h (iO b) ([],0) ([],0) trivial rfl);show Jd Te (if Je b=""then[]else[(Je b,_)]) (if Je b=""then[]else[(Je b,_)]);split;·trivial
 ·exact⟨⟨rfl,C9 h 0⟩,trivial⟩
theorem Cd:∀(bs:List Bk)(r1 r2:List (List Plc)),Jd (Jd Vy) r1 r2->Jd Te ((bs.zip r1).flatMap Jg) ((bs.zip r2).flatMap Jg)|[],_,_,_=>by simp[Jd]|b::bs,[],[],_=>by simp[Jd]|b::bs,x::r1,y::r2,h=>by rw[Ur,Ur,Zi,Zi];exact Lv (Qeu b h.1) (Cd bs r1 r2 h.2)|_::_,[],_::_,h=>h.elim|_::_,_::_,[],h=>h.elim
theorem Be:∀{kv cC:List (Str×Int)}{l:Str},Jd Te kv cC->l∈kv.map (·.1)->JL kv l<=JL cC l
 |[],[],l,_,h=>by simp at h|(a,p)::kv,(b,q)::cC,l,h,hl=>by
  obtain⟨⟨e,l7⟩,h2⟩:=h;have e':a=b:=e;have jF:p<=q:=l7;subst e';have st:∀(a:Str)(p:Int)(kv:List (Str×Int)),D.dget (JK ((a,p)::kv)) (.str l)=if a=l then Q1 p else D.dget (JK kv) (.str l):=by
   intro a p kv;show(if(Sum.inr a:Kd)=.inr l then some (D.int p)else XC _ _ _)=_;by_cases z:a=l;·rw[if_pos z,if_pos (by rw[z])]
   ·rw[if_neg z,if_neg (by simpa using z)];rfl
  unfold JL;rw[st,st];by_cases z:a=l;·rw[if_pos z,if_pos z];exact jF
  ·rw[if_neg z,if_neg z];have dU:l∈kv.map (·.1):=by
    rcases q_5.mp (show l∈a::kv.map (·.1)from hl)with w|w;·exact absurd w.symm z
    ·exact w
   exact Be h2 dU|[],_::_,_,h,_=>h.elim|_::_,[],_,h,_=>h.elim
def DF{n m:Nat}(h:n<=m):Jw n<=Jw m:=(Oj (by decide) (SO m)).mpr (lt_of_le_of_lt h (DD m))
theorem Ep(w h:Int)(hw:0<=w)(hh:1<=h):∀(bs:List Bk)(s:List Plc×Sta),J9 w h s.2->J9 w h (bs.foldl (Zb h) s).2
 |[],s,hs=>hs|b::bs,s,hs=>by
  rw[Zq];refine Ep w h hw hh bs _ ?_;unfold Zb;split;·exact Up hs (by omega) (by omega) (by omega)
  ·exact hs
def Et(w h:Int)(o li:Bool)(bs:List Bk)(hw:0<=w)(hh:1<=h):J9 w h (ZR h o li bs).2:=by
 unfold ZR;split
 ·have:=Ep w h hw hh bs ([],Jl 1) (T8 hw hh);show J9 w h (if _ then _ else _:Sta);split;·rw[HW];exact T8 hw hh
  ·exact this
 ·exact T8 hw hh
def Qjg(w h af:Int)(o li:Bool)(r1 r2:List Int)(bs:List Bk)(hr:S2 af r1 r2)(hw:0<=w)(hh:1<=h)(hf:∀x∈bs,Vq af w h x)(hb:∀x∈bs,Rg h x)(hk:(rO bs).length<=r1.length):Jd (Jd Vy) (RR w h o li r1 bs).1 (RR w h o li r2 bs).1:=by have:=Ed w h af o r1 r2 hr hw hh bs ([(ZR h o li bs).1],(ZR h o li bs).2,0) ([(ZR h o li bs).1],(ZR h o li bs).2,0) ⟨⟨EL Qik _,trivial⟩,Qf8 _,rfl,Et w h o li bs hw hh,Et w h o li bs hw hh⟩ hf hb (by simp only[];omega);exact this.1
noncomputable def S0(ns:List Int):D:=QR (dW ns) (dH ns) (dO ns) (JI ns)
noncomputable def Ux(ns rs:List Int):List (List Plc):=(RR (dW ns) (dH ns) (dO ns) (JI ns) rs (QH ns)).1
noncomputable def ZD(ns rs:List Int):List (Str×Int):=((QH ns).zip (Ux ns rs).tail).flatMap Jg
noncomputable def ZS(ns rs:List Int):List Int:=(rO (QH ns)).map λl=>(Jw (JL (ZD ns rs) l).toNat:Int)
def Uy(ns rs:List Int)(hr:rs.length=(rO (QH ns)).length):UG [Q7 (QH ns),S0 ns,.lst (rs.map .int)]=some (J0 (Ux ns rs))/\UE [Q7 (QH ns),J0 (Ux ns rs)]=some (JK (ZD ns rs))/\(ZD ns rs).map (·.1)=J4 (QH ns)/\∀x∈ZD ns rs,1<=x.2/\x.2<=Z1 ns:=by
 have hh:=Wi ns;have sb:=Qal (dW ns) (dH ns) (dO ns) (JI ns) rs (QH ns) (Xb ns) (by omega) (λb hb=>(XB ns b hb).2.1);obtain⟨c,rows,e1,e2,e3⟩:=GS (dW ns) (dH ns) (dO ns) (JI ns) rs (QH ns) (by omega) (λb hb=>(XB ns b hb).2.2);rw[NH]at e3;have lp:=Ci (QH ns) c rows (Xb ns) e2 (NG ns) (λq hq=>(e3 q hq).1) (SF ns);unfold ZD Ux;refine⟨sb,?_⟩;rw[e1];refine⟨lp,?_,λx hx=>?_⟩;·show(((QH ns).zip rows).flatMap Jg).map (·.1)=_;rw[Nj YB Jg Iz,LF _ _ e2];rfl
 ·obtain⟨q,hq,cQ⟩:=q_52.mp hx;exact CH (Z1 ns) q (e3 q hq).1 (e3 q hq).2 (SF ns q.1 (WT hq).1) x cQ
def Dr(ns rs:List Int)(hr:rs.length=(rO (QH ns)).length):TZ [Q7 (QH ns),S0 ns,.lst (rs.map .int)]=QB ((ZS ns rs).map .int):=by obtain⟨h1,h2,h3,h4⟩:=Uy ns rs hr;exact Qd8 ns rs hr _ _ h1 h2 h3 h4
def Ip(ns rs:List Int):(ZS ns rs).length=(rO (QH ns)).length:=by unfold ZS;rw[Qm]
def Ds(ns rs:List Int)(hr:rs.length=(rO (QH ns)).length):US (dR ns) (ZS ns rs):=by obtain⟨h1,h2,h3,h4⟩:=Uy ns rs hr;intro x hx;obtain⟨l,hl,rfl⟩:=q_20.mp hx;have:=Iq ns _ h3 h4 l hl;exact⟨this.2.2.2.1,this.2.2.2.2⟩
abbrev VO(xs ys:List Int):Prop:=Jd (λa b:Int=>a<=b) xs ys
theorem EK{α β γ:Type}{r:β->γ->Prop}{f:α->β}{g:α->γ}:∀{xs:List α},(∀x∈xs,r (f x) (g x))->Jd r (xs.map f) (xs.map g)|[],_=>trivial|x::xs,h=>⟨h x (by simp),EK λy hy=>h y (by simp[hy])⟩
def Qbt{α β:Type}{r:α->β->Prop}:∀{as:List α}{bs:List β},Jd r as bs->Jd r as.tail bs.tail|[],[],_=>trivial|_::_,_::_,h=>h.2|[],_::_,h=>h.elim|_::_,[],h=>h.elim
theorem A4{af:Int}:∀{r1 r2:List Int},US af r1->US af r2->VO r1 r2->S2 af r1 r2|[],[],_,_,_=>trivial|a::r1,b::r2,h1,h2,h=>⟨⟨(h1 a (by simp)).1,h.1,(h2 b (by simp)).2⟩,A4 (λx hx=>h1 x (by simp[hx])) (λx hx=>h2 x (by simp[hx])) h.2⟩|[],_::_,_,_,h=>h.elim|_::_,[],_,_,h=>h.elim
def Qkf(n:Int)(h:1<=n):1<=(YC (Str.ofString "w") n).length:=by rw[LD];omega
def NF(ns:List Int):∀b∈QH ns,Rg (dH ns) b:=by
 intro b hb;have ft:=Ry ns b hb;have hh:=Wi ns;have pl:=(XB ns b hb).2.2;unfold QH at hb;rcases q_7.mp hb with z|z
 ·unfold Zn at z;split at z;·cases z
  ·simp only[q_5,Y4,or_false]at z;rcases z with q|q|q<;>subst q;·exact pl _ _ rfl
   ·refine⟨by simp;omega,by simp;omega⟩
   ·intro i hi;simp only[q_5,Y4,or_false]at hi;rcases hi with q|q|q<;>subst q
    ·refine Qkf _ ?_;split<;>omega
    ·trivial
    ·trivial
 ·have hB:=Rz ns b z;cases b with
  |chapter t l=>trivial|heading t k l=>exact⟨hB.2.1,by have:=ft.2;omega⟩|table rs l=>exact⟨hB.1.1,ft.1⟩|plates n l=>exact hB.1|para is=>intro i hi;have:=hB i hi;cases i with|word x n=>exact this.1.1|_=>trivial
def Qjj(ns r1 r2:List Int)(hr:r1.length=(rO (QH ns)).length)(h1:US (dR ns) r1)(h2:US (dR ns) r2)(h:VO r1 r2):Jd (Jd Vy) (Ux ns r1) (Ux ns r2):=by have hw:=UY ns;have hh:=Wi ns;exact Qjg (dW ns) (dH ns) (dR ns) (dO ns) (JI ns) r1 r2 (QH ns) (A4 h1 h2 h) (by omega) (by omega) (Ry ns) (NF ns) (by omega)
def Qd7(ns r1 r2:List Int)(hr:r1.length=(rO (QH ns)).length)(h1:US (dR ns) r1)(h2:US (dR ns) r2)(h:VO r1 r2):VO (ZS ns r1) (ZS ns r2):=by refine EK λl hl=>?_;obtain⟨_,_,k1,_⟩:=Uy ns r1 hr;have:=Be (Cd (QH ns) _ _ (Qbt (Qjj ns r1 r2 hr h1 h2 h))) (l:=l) (show l∈(ZD ns r1).map (·.1)by rw[k1];exact Ib ns l hl);have q:JL (ZD ns r1) l<=JL (ZD ns r2) l:=this;have:=DF (n:=(JL (ZD ns r1) l).toNat) (m:=(JL (ZD ns r2) l).toNat) (by omega);show(Jw (JL (ZD ns r1) l).toNat:Int)<=(Jw (JL (ZD ns r2) l).toNat:Int);omega
theorem Co:∀{xs ys zs:List Int},VO xs ys->VO ys zs->VO xs zs|[],[],[],_,_=>trivial|_::_,_::_,_::_,h1,h2=>⟨ZW h1.1 h2.1,Co h1.2 h2.2⟩|[],[],_::_,_,h=>h.elim|[],_::_,_,h,_=>h.elim|_::_,[],_,h,_=>h.elim|_::_,_::_,[],_,h=>h.elim
theorem Cn:∀{xs ys:List Int},VO xs ys->xs.sum<=ys.sum/\(xs≠ys->xs.sum<ys.sum)
 |[],[],_=>⟨JW _,λh=>absurd rfl h⟩|x::xs,y::ys,h=>by
  have ih:=Cn h.2;have h1:x<=y:=h.1;rw[sum_cons,sum_cons];refine⟨by omega,λne=>?_⟩;by_cases e:xs=ys
  ·have:x≠y:=λq=>ne (by rw[q,e]);omega
  ·have:=ih.2 e;omega|[],_::_,h=>h.elim|_::_,[],h=>h.elim
theorem Ei{af:Int}:∀{xs:List Int},US af xs->(xs.length:Int)<=xs.sum/\xs.sum<=xs.length*af
 |[],_=>by simp|x::xs,h=>by
  have ih:=Ei (af:=af) (xs:=xs) λy hy=>h y (by simp[hy]);have hx:=h x (by simp);rw[sum_cons,JM];have e:((xs.length+1:Nat):Int)*af=xs.length*af+af:=by rw[Int.natCast_add,Int.add_mul];simp
  rw[e];constructor;·have:=ih.1;omega
  ·have:=ih.2;omega
theorem QaS{c:Q8}{b:QF}{env:List Int->QD}{F:List Int->List Int}{I:List Int->Prop}{m:List Int->Nat}(hs:∀rs,I rs->F rs=rs->c (env rs)=QL false)(hg:∀rs,I rs->F rs≠rs->c (env rs)=QL true/\b (env rs)=some (.nx (env (F rs)))/\I (F rs)/\m (F rs)<m rs):∀(k:Nat)(rs:List Int),I rs->m rs<=k->∃r,X7 c b (k+1) (env rs)=some (.nx (env r))/\I r/\F r=r
 |k,rs,hI,hm=>by
  by_cases e:F rs=rs
  ·refine⟨rs,?_,hI,e⟩;show YT (c (env rs)) _ _=_;rw[hs rs hI e];rfl
  ·obtain⟨h1,h2,h3,h4⟩:=hg rs hI e;cases k with|zero=>omega|succ k=>obtain⟨r,g1,g2,g3⟩:=QaS hs hg k (F rs) h3 (by omega);refine⟨r,?_,g2,g3⟩;show YT (c (env rs)) (Vp (b (env rs)) (X7 c b (k+1))) _=_;rw[h1,h2];exact g1
theorem DV:∀xs ys:List Int,D.eqL (xs.map .int) (ys.map .int)=some (decide (xs=ys))|[],[]=>by rw[map_nil,WJ];simp|x::xs,y::ys=>by rw[ZQ,ZQ,Wr,ZC,DV xs ys,U2];congr 1;by_cases a:x=y<;>by_cases b:xs=ys<;>simp[a,b]|[],y::ys=>by simp[D.eqL]|x::xs,[]=>by simp[D.eqL]
def B9(xs ys:List Int):D.neO (.lst (xs.map .int)) (.lst (ys.map .int))=QL (decide (xs≠ys)):=by unfold D.neO;rw[if_pos (by rw[VA];have:=UZ (f:=D.int) (n:=0) (λa=>by rw[Z5];exact Qx _) xs;omega),Ws,DV];by_cases a:xs=ys<;>simp[a,D.cmpN]
def Qar{e:QD}{a:D}{k:QF}{r:Option Fl}{ns:List Int}(h0:e[0]?=some (some (Q7 (QH ns))))(h1:e[1]?=some (some (S0 ns)))(hk:k e=r):sQ (Wa (eK Ug (Qc (eV 0) (eV 1)))) k e=r:=by refine st (e1:=e) ?_ hk;have hR:eK Ug (Qc (eV 0) (eV 1)) e=some .non:=Z0 (show eV 0 e=_ by unfold eV;rw[h0];rfl) (show eV 1 e=_ by unfold eV;rw[h1];rfl) (Qci ns);unfold Wa;rw[hR];rfl
def Qfk(ns rs:List Int)(hr:rs.length=(rO (QH ns)).length):Pa [Q7 (QH ns),S0 ns,.lst (rs.map .int)]=some (J0 (Ux ns rs)):=by have:=(Uy ns rs hr).1;unfold Pa Kp;refine Qy rfl (Qar (a:=.non) rfl rfl (ret (Zk rfl rfl rfl this)))
def Dq(ns:List Int):(rO (QH ns)).length<=200:=by
 have h1:=(TU ns (dW ns) (dH ns) (JI ns)).2;have h2:=(SG ns).2;have h3:=G3 (QH ns);have h4:((QH ns).flatMap iO).length<=200:=by
  unfold QH;rw[YI,Qg];omega
 omega
def Qi1(ns:List Int):((rO (QH ns)).length:Int)*dR ns<=8400:=by have h1:=Dq ns;have h2:=TJ ns;have:((rO (QH ns)).length:Int)*dR ns<=200*42:=Int.mul_le_mul (by omega) h2.2 (by omega) (by omega);omega
def Box(ns rs:List Int):Prop:=rs.length=(rO (QH ns)).length/\US (dR ns) rs
def Box.fig{ns rs:List Int}(h:Box ns rs):Box ns (ZS ns rs):=⟨Ip ns rs,Ds ns rs h.1⟩
def Box.mono{ns r1 r2:List Int}(h1:Box ns r1)(h2:Box ns r2)(h:VO r1 r2):VO (ZS ns r1) (ZS ns r2):=Qd7 ns r1 r2 h1.1 h1.2 h2.2 h
theorem Box.sum{ns rs:List Int}(h:Box ns rs):0<=rs.sum/\rs.sum<=(rO (QH ns)).length*dR ns:=by have:=Ei h.2;rw[h.1]at this;omega
def Qfq{xs ys:List Int}(h:VO xs ys)(ne:ys≠xs):xs.sum<ys.sum:=(Cn h).2 λe=>ne e.symm
def Qjl(ns first:List Int)(I:List Int->Prop)(m:List Int->Nat)(hI:∀rs,I rs->Box ns rs)(hg:∀rs,I rs->ZS ns rs≠rs->I (ZS ns rs)/\m (ZS ns rs)<m rs)(hm:m first<=9000)(h0:I first):∃r,Ni [Q7 (QH ns),S0 ns,.lst (first.map .int)]=QB (r.map .int)/\I r/\ZS ns r=r:=by obtain⟨r,h1,h2,h3⟩:=QaS (c:=Yc (eV 4) (eV 3)) (b:=sQ (QA (eV 4) (gS 3)) (QA (eK TZ (Qu (eV 0) (eV 1) (eV 3))) (gS 4))) (env:=λrs=>[some (Q7 (QH ns)),some (S0 ns),QB (first.map .int),QB (rs.map .int),QB ((ZS ns rs).map .int)]) (F:=ZS ns) (I:=I) (m:=m) (λrs h e=>Q0 rfl rfl (by rw[B9];simp[e])) (λrs h e=>⟨Q0 rfl rfl (by rw[B9];simp[e]),st (e1:=[some (Q7 (QH ns)),some (S0 ns),QB (first.map .int),QB ((ZS ns rs).map .int),QB ((ZS ns rs).map .int)]) rfl (Qf (Zk rfl rfl rfl (Dr ns (ZS ns rs) (Ip ns rs))) rfl),hg rs h e⟩) 9000 first h0 hm;refine⟨r,?_,h2,h3⟩;have fa:=Dr ns first (hI first h0).1;unfold Ni IL;refine Qy rfl ?_;refine st (e1:=[some (Q7 (QH ns)),some (S0 ns),QB (first.map .int),QB (first.map .int),none]) rfl ?_;refine st (e1:=[some (Q7 (QH ns)),some (S0 ns),QB (first.map .int),QB (first.map .int),QB ((ZS ns first).map .int)]) (Qf (Zk rfl rfl rfl fa) rfl) ?_;refine st (e1:=[some (Q7 (QH ns)),some (S0 ns),QB (first.map .int),QB (r.map .int),QB ((ZS ns r).map .int)]) ?_ (ret rfl);have h9:=QaT _ _ (9000+1) 100000 (by omega) _ _ h1;exact h9
def QfE{a:Q8}{e:QD}{x:D}(h:a e=some x):QS (lC a lN) e=some (.lst [x]):=by unfold QS lC lN;rw[h];rfl
def B6{xs:List D}{n:Int}(h:-1073741824<n/\n<1073741824/\xs.length*n.toNat<=lI):D.mulA (.lst xs) (.int n)=some (.lst (List.replicate n.toNat xs).flatten):=if_pos h
def QfS(i:Int)(n:Nat)(h:n<=200):D.mulA (.lst [.int i]) (.int n)=QB ((List.replicate n i).map .int):=by
 have e:D.mulA (.lst [.int i]) (.int n)=some (.lst (List.replicate (n:Int).toNat [D.int i]).flatten):=B6 ⟨by omega,by omega,lB (by simp;omega)⟩;rw[e];have:(List.replicate (n:Int).toNat [D.int i]).flatten=(List.replicate n i).map D.int:=by simp
 rw[this]
def Qfu(ns:List Int){e:QD}(h0:e[0]?=some (some (Q7 (QH ns)))):QE D.len (eK VL (QZ (eV 0))) e=some (.int (rO (QH ns)).length):=by have hR:eK VL (QZ (eV 0)) e=some (QM (rO (QH ns))):=JA (show eV 0 e=_ by unfold eV;rw[h0];rfl) (Mr (QH ns) (Xb ns));refine JO hR ?_;show some (D.int ((rO (QH ns)).map D.str).length)=_;rw[Qm]
theorem Ly{r:Int->Int->Prop}{x:Int}:∀{ys:List Int}{n:Nat},ys.length=n->(∀y∈ys,r x y)->Jd r (List.replicate n x) ys|[],n,h,_=>by cases h;trivial|y::ys,n,h,hr=>by cases h;exact⟨hr y (by simp),Ly rfl λz hz=>hr z (by simp[hz])⟩
def Eh(ns:List Int)(x:Int)(h:1<=x/\x<=dR ns):Box ns (List.replicate (rO (QH ns)).length x):=⟨by simp,λr hr=>by rw[List.eq_of_mem_replicate hr];exact h⟩
def Qfs(ns:List Int):∃r,Tb [Q7 (QH ns),S0 ns]=QB (r.map .int)/\Box ns r/\ZS ns r=r/\∀e,Box ns e->VO (ZS ns e) e->VO r e:=by have rt:=Qi1 ns;have rb:=TJ ns;obtain⟨r,h1,⟨h2,h3,h4⟩,h5⟩:=Qjl ns (List.replicate (rO (QH ns)).length 1) (λrs=>Box ns rs/\VO rs (ZS ns rs)/\∀e,Box ns e->VO (ZS ns e) e->VO rs e) (λrs=>(((rO (QH ns)).length:Int)*dR ns-rs.sum).toNat) (λrs h=>h.1) (λrs⟨a,b,c⟩ne=>⟨⟨a.fig,a.mono a.fig b,λe he hf=>Co (a.mono he (c e he hf)) hf⟩,by have:=Qfq b ne;have:=a.fig.sum;omega⟩) (by have:=(Eh ns 1 ⟨by omega,by omega⟩).sum;omega) ⟨Eh ns 1 ⟨by omega,by omega⟩,Ly (Ip ns _) λy hy=>(Ds ns _ (by simp) y hy).1,λe he _=>Ly he.1 λy hy=>(he.2 y hy).1⟩;refine⟨r,?_,h2,h5,h4⟩;unfold Tb Kr;refine Qy rfl (Qar (a:=.non) rfl rfl (ret (Zk rfl rfl ?_ h1)));exact Q0 (x:=.lst [.int 1]) rfl (Qfu ns rfl) (QfS 1 _ (Dq ns))
theorem O9(pls:List Plc):∀(is:List It)(kv cC:List (Str×Int))(n:Nat),is.foldl (ZO pls) (kv++cC,n)=(kv++(is.foldl (ZO pls) (cC,n)).1,(is.foldl (ZO pls) (cC,n)).2)|[],_,_,_=>rfl|i::is,kv,cC,n=>by rw[Zq,Zq];cases i with|mark l=>show is.foldl (ZO pls) (kv++cC++[(l,(pls.getD n ⟨0,0,0⟩).p)],n)=_;rw[VF];exact O9 pls is kv _ n|key l=>exact O9 pls is kv cC n|word x ns=>exact O9 pls is kv cC (n+1)|ref l x y=>exact O9 pls is kv cC (n+1)
def QfM(pls:List Plc)(is:List It)(kv:List (Str×Int)):(is.foldl (ZO pls) (kv,0)).1=kv++Xo pls is:=by have:=O9 pls is kv [] 0;rw[Zp]at this;rw[this];rfl
def QaF{a b:Q8}{e:QD}{x y:D}(ha:a e=some x)(hb:b e=some y):QT (lC a (lC b lN)) e=some (.tup [x,y]):=by unfold QT lC lN;rw[ha,hb];rfl
def neS(x y:Str):D.neO (.str x) (.str y)=QL (!decide (x=y)):=by simp[D.neO,Zu,YS,D.cmpN]
def Qes(B TT:Option D)(k:Int)(x5 x6:Option D)(is:List It)(pls:List Plc)(kv:List (Str×Int))(hl:is.length<=100000)(hk:kv.length<=300000)(hp:JZ is<=pls.length)(ht:V7 is){a:Q8}(ha:∀y z u,a [B,TT,y,Q1 k,some (Bk.para is).d,z,u]=some (QV pls)):∃y z,(sQ (QA (Q5 0) (gS 5)) (Qz (Ql (Q2 4 1)) (gS 6) (sQ (QC (QG (Q2 6 0) (Q6 "mark")) (sP 2 (QT (Qc (Q2 6 1) (ZZ (J7 a (eV 5)) 0)))) QK) (QC (J8 (QG (Q2 6 0) (Q6 "word")) (QG (Q2 6 0) (Q6 "ref"))) (QA (QJ (eV 5) (Q5 1)) (gS 5)) QK)))) [B,TT,QB (kv.map Jj),Q1 k,some (Bk.para is).d,x5,x6]=some (.nx [B,TT,QB ((kv++Xo pls is).map Jj),Q1 k,some (Bk.para is).d,y,z]):=by
 obtain⟨e',h1,z,rfl⟩:=Xn (g:=gS 6) (b:=sQ (QC (QG (Q2 6 0) (Q6 "mark")) (sP 2 (QT (Qc (Q2 6 1) (ZZ (J7 a (eV 5)) 0)))) QK) (QC (J8 (QG (Q2 6 0) (Q6 "word")) (QG (Q2 6 0) (Q6 "ref"))) (QA (QJ (eV 5) (Q5 1)) (gS 5)) QK)) It.d is (λi e=>∃z,e=[B,TT,QB (((is.take i).foldl (ZO pls) (kv,0)).1.map Jj),Q1 k,some (Bk.para is).d,some (.int ((is.take i).foldl (ZO pls) (kv,0)).2),z]) (by
   rintro i hi e⟨z,rfl⟩;rw[Po _ _ _ _ hi];obtain⟨h1,h2⟩:=HN pls (is.take i) (kv,0);rw[YG]at h1;simp only[zero_add]at h1 h2;have hT:=ht i hi;generalize is[i]=x at*;generalize(is.take i).foldl (ZO pls) (kv,0)=w at*;obtain⟨cC,n⟩:=w;simp only[]at h1 h2⊢;have bM:cC.length<lI:=Zx (by omega);have ap:=λy=>WA (f:=Jj) (xs:=cC) y bM;have hb:(gS 6 x.d [B,TT,QB (cC.map Jj),Q1 k,some (Bk.para is).d,Q1 n,z])=some [B,TT,QB (cC.map Jj),Q1 k,some (Bk.para is).d,Q1 n,some x.d]:=rfl;generalize(Bk.para is).d=PD at*;cases x with
   |mark l=>
    have eW:n<pls.length:=by have:=hT rfl;omega
    have px:D.ix (QV pls) (.int n)=some (pls.getD n ⟨0,0,0⟩).d:=WO (f:=Plc.d) pls n ⟨0,0,0⟩ (by omega) (by omega);obtain⟨q,eq⟩:∃q,pls.getD n ⟨0,0,0⟩=q:=⟨_,rfl⟩;have e1:ZO pls (cC,n) (.mark l)=(cC++[(l,q.p)],n):=by rw[<-eq];rfl
    rw[eq]at px;rw[e1];refine⟨[B,TT,QB ((cC++[(l,q.p)]).map Jj),Q1 k,some PD,Q1 n,some (It.mark l).d],.inl (J6 hb ?_),some (It.mark l).d,rfl⟩;refine st (Qr (Q0 (x:=.str "mark") (Q0 (x:=(It.mark l).d) rfl rfl rfl) rfl (by rw[QO];simp)) (Zt (d:=Jj (l,q.p)) rfl (QaF (Q0 (x:=(It.mark l).d) rfl rfl rfl) (Q0 (Q0 (ha _ _ _) rfl px) rfl (show D.ix q.d (.int 0)=Q1 q.p from rfl))) (ap _))) ?_;exact QN (VV (Q0 (x:=.str "mark") (Q0 (x:=(It.mark l).d) rfl rfl rfl) rfl (by rw[QO];simp)) (Q0 (x:=.str "mark") (Q0 (x:=(It.mark l).d) rfl rfl rfl) rfl (by rw[QO];simp))) rfl|key l=>refine⟨_,.inl (J6 hb ?_),some (It.key l).d,rfl⟩;refine st (QN (Q0 (x:=.str "key") (Q0 (x:=(It.key l).d) rfl rfl rfl) rfl (by rw[QO];simp)) rfl) ?_;exact QN (VV (Q0 (x:=.str "key") (Q0 (x:=(It.key l).d) rfl rfl rfl) rfl (by rw[QO];simp)) (Q0 (x:=.str "key") (Q0 (x:=(It.key l).d) rfl rfl rfl) rfl (by rw[QO];simp))) rfl|word x ns=>refine⟨_,.inl (J6 hb ?_),some (It.word x ns).d,rfl⟩;refine st (QN (Q0 (x:=.str "word") (Q0 (x:=(It.word x ns).d) rfl rfl rfl) rfl (by rw[QO];simp)) rfl) ?_;refine Qr (R1 (Q0 (x:=.str "word") (Q0 (x:=(It.word x ns).d) rfl rfl rfl) rfl (by rw[QO];simp))) ?_;exact Qf (Q0 (x:=.int n) rfl rfl rfl) rfl|ref l x y=>refine⟨_,.inl (J6 hb ?_),some (It.ref l x y).d,rfl⟩;refine st (QN (Q0 (x:=.str "ref") (Q0 (x:=(It.ref l x y).d) rfl rfl rfl) rfl (by rw[QO];simp)) rfl) ?_;refine Qr (VV (Q0 (x:=.str "ref") (Q0 (x:=(It.ref l x y).d) rfl rfl rfl) rfl (by rw[QO];simp)) (Q0 (x:=.str "ref") (Q0 (x:=(It.ref l x y).d) rfl rfl rfl) rfl (by rw[QO];simp))) ?_;exact Qf (Q0 (x:=.int n) rfl rfl rfl) rfl) _ ⟨x6,rfl⟩;rw[ZX]at h1;rw[<-QfM pls is kv];refine⟨Q1 ((is.foldl (ZO pls) (kv,0)).2:Nat),z,?_⟩;refine st rfl ?_;unfold Qz;exact h1
def Eb(bs:List Bk)(i:Nat)(h:i<bs.length):D.ix (Q7 bs) (.int (0+(i:Int)))=some bs[i].d:=by
 have:=WO (f:=Bk.d) bs (0+(i:Int)) (.para []) (by omega) (by omega);unfold Q7;rw[this];have e:(0+(i:Int)).toNat=i:=by omega
 rw[e,YU,Qk h];rfl
def LA(X:List (List Plc))(i:Nat)(h:i<X.length):D.ix (J0 X) (.int (0+(i:Int)))=some (QV (X.getD i [])):=by have:=WO (f:=QV) X (0+(i:Int)) [] (by omega) (by omega);unfold J0;rw[this];congr 3;omega
def Qet(bs:List Bk)(c:List Plc)(rows:List (List Plc))(hf:YM bs)(hr:rows.length=bs.length)(hs:∀q∈bs.zip rows,q.2.length=VR q.1)(ht:∀b∈bs,V7 (iO b))(hL:((bs.zip rows).flatMap Jg).length<=200000):NT [Q7 bs,J0 (c::rows)]=some (.lst (((bs.zip rows).flatMap Jg).map Jj)):=by
 unfold NT KD;refine Qy rfl ?_;refine st (e1:=[some (Q7 bs),some (J0 (c::rows)),some (.lst (([]:List (Str×Int)).map Jj)),none,none,none,none]) rfl ?_;have hz:(bs.zip rows).length=bs.length:=by rw[WY];omega
 have mH:=hf.1;refine L0 bs.length (λi e=>∃a b x y,e=[some (Q7 bs),some (J0 (c::rows)),some (.lst ((((bs.zip rows).take i).flatMap Jg).map Jj)),a,b,x,y]) ?_ ⟨none,none,none,none,rfl⟩ ?_ ?_
 ·have lt:QE D.len (eV 0) [some (Q7 bs),some (J0 (c::rows)),some (.lst (([]:List (Str×Int)).map Jj)),none,none,none,none]=some (.int bs.length):=JO (x:=Q7 bs) rfl (by show some (D.int (bs.map Bk.d).length)=_;rw[Qm]);unfold ZM;rw[lt];exact if_pos (show(bs.length:Int).natAbs<4611686018427387904 by omega)
 ·rintro i hi e⟨a,b,x5,x6,rfl⟩;have hi':i<(bs.zip rows).length:=by omega
  have ig:i<rows.length:=by omega
  have hle:=Sj Jg (bs.zip rows) i;rw[fT _ _ _ hi'];have hq:=hs (bs.zip rows)[i] (ZY hi');have hx:=Eb bs i hi;have hT:D.ix (J0 (c::rows)) (.int (0+(i:Int)+1))=some (QV rows[i]):=by
   have:=LA (c::rows) (i+1) (by simp;omega);rw[show(0+((i+1:Nat):Int))=0+(i:Int)+1 by omega]at this;rw[this,List.getD_cons_succ,YU,Qk ig];rfl
  rw[getElem_zip]at hq⊢;simp only[]at hq;have e9:bs[i]∈bs:=ZY hi;have tx:=ht _ e9;have il:=Wv hf _ e9;generalize bs[i]=x at*;generalize rows[i]=pls at*;generalize((bs.zip rows).take i).flatMap Jg=kv at*;generalize Q7 bs=BS at*;generalize J0 (c::rows)=TT at*;have bM:kv.length<lI:=Zx (by omega);have ap:=λy=>WA (f:=Jj) (xs:=kv) y bM;have hv:∀f z u v,Q4 D.ix (Q4 D.ix (eV 1) (Q4 D.add (eV 3) (eC (.int 1)))) f [some BS,some TT,z,some (.int (0+(i:Int))),some x.d,u,v]=(Q4 D.ix (λ_=>some (QV pls)) f) [some BS,some TT,z,some (.int (0+(i:Int))),some x.d,u,v]:=λf z u v=>by have:Q4 D.ix (eV 1) (Q4 D.add (eV 3) (eC (.int 1))) [some BS,some TT,z,some (.int (0+(i:Int))),some x.d,u,v]=some (QV pls):=Q0 (x:=TT) (y:=.int (0+(i:Int)+1)) rfl rfl hT;unfold Q4 at this⊢;rw[this]
  have first:∀e',(sQ (QA (Q4 D.ix (eV 0) (eV 3)) (gS 4)) e') [some BS,some TT,some (.lst (kv.map Jj)),some (.int (0+(i:Int))),b,x5,x6]=e' [some BS,some TT,some (.lst (kv.map Jj)),some (.int (0+(i:Int))),some x.d,x5,x6]:=λe'=>st (Qf (Q0 rfl rfl hx) rfl) rfl;have tag:∀z u v,∃t,Q4 D.ix (eV 4) (eC (.int 0)) [some BS,some TT,z,some (.int (0+(i:Int))),some x.d,u,v]=some (.str t)/\decide (t=Str.ofString "para")=VD x:=λz u v=>by cases x with
   |chapter t l=>exact⟨_,rfl,by simp[VD]⟩|heading t k l=>exact⟨_,rfl,by simp[VD]⟩|para is=>exact⟨_,rfl,by simp[VD]⟩|table r l=>exact⟨_,rfl,by simp[VD]⟩|plates n l=>exact⟨_,rfl,by simp[VD]⟩
  cases qp:VD x with
  |true=>
   obtain⟨is,rfl⟩:∃is,x=.para is:=by cases x<;>first|exact⟨_,rfl⟩|cases qp
   obtain⟨y,z,hI⟩:=Qes (some BS) (some TT) (0+(i:Int)) x5 x6 is pls kv il (by omega) (le_of_eq hq.symm) tx (a:=Q4 D.ix (eV 1) (Q4 D.add (eV 3) (eC (.int 1)))) (λy z u=>Q0 (x:=TT) (y:=.int (0+(i:Int)+1)) rfl rfl hT);have eh:kv++Jg (.para is,pls)=kv++Xo pls is:=by unfold Jg;rfl
   rw[eh];refine⟨_,.inl (J6 (e1:=[some BS,some TT,some (.lst (kv.map Jj)),some (.int (0+(i:Int))),b,x5,x6]) rfl ?_),some (.int (0+(i:Int))),some (Bk.para is).d,y,z,rfl⟩;rw[first];refine st (QN (Y6 (Q0 (x:=.str "para") (Q0 (x:=(Bk.para is).d) rfl rfl rfl) rfl (by rw[neS];simp))) rfl) ?_;exact Qr (Q0 (x:=.str "para") (Q0 (x:=(Bk.para is).d) rfl rfl rfl) rfl (by rw[QO];simp)) hI|false=>
   have eh:Jg (x,pls)=(if Je x=""then[]else[(Je x,(pls.getD 0 ⟨0,0,0⟩).p)]):=by cases x<;>first|(cases qp;done)|(unfold Jg;exact Zp _)
   rw[eh];have np:pls.length=1:=by cases x<;>first|(cases qp;done)|exact hq
   obtain⟨q0,rfl⟩:∃q0,pls=[q0]:=by match pls,np with|[q0],_=>exact⟨q0,rfl⟩
   have lst:∀z u v,Q4 D.ix (eV 4) (QE D.neg (eC (.int 1))) [some BS,some TT,z,some (.int (0+(i:Int))),some x.d,u,v]=some (.str (Je x)):=λz u v=>by cases x<;>first|(cases qp;done)|rfl
   have eO:∀z,(QC (Q4 D.eqO (Q4 D.ix (eV 4) (eC (.int 0))) (eC (.str "para"))) (sQ (QA (eC (.int 0)) (gS 5)) (Qz (Ql (Q4 D.ix (eV 4) (eC (.int 1)))) (gS 6) (sQ (QC (Q4 D.eqO (Q4 D.ix (eV 6) (eC (.int 0))) (eC (.str "mark"))) (sP 2 (QT (lC (Q4 D.ix (eV 6) (eC (.int 1))) (lC (Q4 D.ix (Q4 D.ix (Q4 D.ix (eV 1) (Q4 D.add (eV 3) (eC (.int 1)))) (eV 5)) (eC (.int 0))) lN)))) QK) (QC (J8 (Q4 D.eqO (Q4 D.ix (eV 6) (eC (.int 0))) (eC (.str "word"))) (Q4 D.eqO (Q4 D.ix (eV 6) (eC (.int 0))) (eC (.str "ref")))) (QA (Q4 D.add (eV 5) (eC (.int 1))) (gS 5)) QK)))) QK) [some BS,some TT,z,some (.int (0+(i:Int))),some x.d,x5,x6]=some (.nx [some BS,some TT,z,some (.int (0+(i:Int))),some x.d,x5,x6]):=λz=>by obtain⟨t,t1,t2⟩:=tag z x5 x6;exact QN (Q0 t1 rfl (by rw[QO,t2,qp])) rfl
   obtain⟨t,t1,t2⟩:=tag (some (.lst (kv.map Jj))) x5 x6;by_cases zl:Je x=""
   ·rw[if_pos zl,Zp];refine⟨_,.inl (J6 (e1:=[some BS,some TT,some (.lst (kv.map Jj)),some (.int (0+(i:Int))),b,x5,x6]) rfl ?_),some (.int (0+(i:Int))),some x.d,x5,x6,rfl⟩;rw[first];refine st (QN (Za (Q0 t1 rfl (by rw[neS,t2,qp];rfl)) (Q0 (lst _ _ _) rfl (by rw[neS,Jf zl];rfl))) rfl) ?_;exact eO _
   ·rw[if_neg zl];refine⟨_,.inl (J6 (e1:=[some BS,some TT,some (.lst (kv.map Jj)),some (.int (0+(i:Int))),b,x5,x6]) rfl ?_),some (.int (0+(i:Int))),some x.d,x5,x6,rfl⟩;rw[first];refine st (e1:=[some BS,some TT,some (.lst ((kv++[(Je x,q0.p)]).map Jj)),some (.int (0+(i:Int))),some x.d,x5,x6]) (Qr (Za (Q0 t1 rfl (by rw[neS,t2,qp];rfl)) (Q0 (lst _ _ _) rfl (by rw[neS,JF zl];rfl))) ?_) (eO _);refine Zt (d:=Jj (Je x,q0.p)) rfl (QaF (lst _ _ _) ?_) (ap _);refine Q0 ?_ rfl (show D.ix q0.d (.int 0)=some (.int q0.p)from rfl);rw[hv];exact Q0 rfl rfl (show D.ix (QV [q0]) (.int 0)=some q0.d from WO (f:=Plc.d) [q0] 0 ⟨0,0,0⟩ (by omega) (by simp))
 ·rintro e⟨a,b,x,y,rfl⟩;rw[<-hz,ZX];exact ret rfl
def CY(X:List Plc)(i:Nat)(h:i<X.length):D.ix (QV X) (.int (0+(i:Int)))=some (X.getD i ⟨0,0,0⟩).d:=by have:=WO (f:=Plc.d) X (0+(i:Int)) ⟨0,0,0⟩ (by omega) (by omega);unfold QV;rw[this];congr 3;omega
noncomputable def Tu(t:Str)(p:Int):D:=.tup [.str t,.int p]
noncomputable def Ye(q:Bk×List Plc):List (Str×Int):=match q.1 with|.chapter t _=>[(t,(q.2.getD 0 ⟨0,0,0⟩).p)]|.heading t _ _=>[(t,(q.2.getD 0 ⟨0,0,0⟩).p)]|_=>[]
def W7(xs:List (Str×Int)):D:=.lst (xs.map λx=>Tu x.1 x.2)
def Qj3(xs:List (Str×Int))(t:Str)(p:Int)(h:xs.length<=1000000):D.app (W7 xs) (Tu t p)=some (W7 (xs++[(t,p)])):=by unfold W7;rw[Zr];show(if _ then some _ else none)=_;rw[if_pos (Zx (by rw[Qm];exact h))];rfl
def Qj2(q:Bk×List Plc):(Ye q).length<=1:=by obtain⟨b,p⟩:=q;cases b<;>simp[Ye]
def Gk(qs:List (Bk×List Plc)):(qs.flatMap Ye).length<=qs.length:=by induction qs with|nil=>simp|cons q qs ih=>rw[Zi,Qg,JM];have:=Qj2 q;omega
def tt2{a b:Q8}{e:QD}{x y:D}(ha:a e=some x)(hb:b e=some y):QT (lC a (lC b lN)) e=some (.tup [x,y]):=by unfold QT lC lN;rw[ha,hb];rfl
def pl0(q0:Plc)(r:List Plc):D.ix (QV (q0::r)) (.int 0)=some q0.d:=by have:=CY (q0::r) 0 (by simp);exact this
def plp(q0:Plc):D.ix q0.d (.int 0)=Q1 q0.p:=rfl
def Qj1(bs:List Bk)(c:List Plc)(rows:List (List Plc))(hf:YM bs)(hr:rows.length=bs.length)(hs:∀q∈bs.zip rows,q.2.length=VR q.1):Sh [Q7 bs,J0 (c::rows)]=some (W7 ((bs.zip rows).flatMap Ye)):=by
 unfold Sh IM;refine Qy rfl ?_;refine st (e1:=[some (Q7 bs),some (J0 (c::rows)),some (W7 []),none,none]) rfl ?_;have hz:(bs.zip rows).length<=100000:=by rw[WY];have:=hf.1;omega
 refine Vn (λq:Bk×List Plc=>D.tup [q.1.d,QV q.2]) (bs.zip rows) (λi e=>∃a b,e=[some (Q7 bs),some (J0 (c::rows)),some (W7 (((bs.zip rows).take i).flatMap Ye)),a,b]) ?_ ⟨none,none,rfl⟩ ?_ ?_
 ·have hc:ZK (eV 1) (Z9 (Q5 1)) Zz [some (Q7 bs),some (J0 (c::rows)),some (W7 []),none,none]=some (J0 rows):=Ia c rows;unfold WN;rw[hc];show some (V5 (bs.map Bk.d) (rows.map QV))=_;rw[Rf]
 ·rintro i hi e⟨a,b,rfl⟩;rw[fT _ _ _ hi];have hle:(((bs.zip rows).take i).flatMap Ye).length<=1000000:=by
   have:=Gk ((bs.zip rows).take i);rw[YG]at this;omega
  have hq:=hs (bs.zip rows)[i] (ZY hi);generalize(bs.zip rows)[i]=q at*;generalize((bs.zip rows).take i).flatMap Ye=kv at*;obtain⟨x,pls⟩:=q;simp only[]at hq⊢;have it:=Nq x;generalize Q7 bs=BS at*;generalize J0 (c::rows)=TT at*;have hit:∀(t:Str)(d1:D),Vx x=true->D.ix x.d (.int 1)=QP t->Ye (x,pls)=[(t,(pls.getD 0 ⟨0,0,0⟩).p)]->pls.length=1->∃e',(Jb [gS 3,gS 4] (D.tup [x.d,QV pls]) [some BS,some TT,some (W7 kv),a,b]).bind (QC (eK Xh (QZ (eV 3))) (sP 2 (QT (Qc (Q2 3 1) (ZZ (Q2 4 0) 0)))) QK)=some (.nx e')/\e'=[some BS,some TT,some (W7 (kv++Ye (x,pls))),some x.d,some (QV pls)]:=λt d1 h1 h2 h3 h4=>by match pls,h4 with
   |[q0],_=>
    refine⟨_,?_,rfl⟩;refine J6 rfl ?_;refine Qr (by rw[JA rfl it,h1]) ?_;rw[h3];exact Zt (d:=Tu t q0.p) rfl (tt2 (Q0 (x:=x.d) rfl rfl h2) (Q0 (Q0 (x:=QV [q0]) rfl rfl (pl0 q0 [])) rfl (plp q0))) (Qj3 kv t q0.p hle)
  have eD:Vx x=false->Ye (x,pls)=[]->∃e',(Jb [gS 3,gS 4] (D.tup [x.d,QV pls]) [some BS,some TT,some (W7 kv),a,b]).bind (QC (eK Xh (QZ (eV 3))) (sP 2 (QT (Qc (Q2 3 1) (ZZ (Q2 4 0) 0)))) QK)=some (.nx e')/\e'=[some BS,some TT,some (W7 (kv++Ye (x,pls))),some x.d,some (QV pls)]:=λh1 h2=>by
   refine⟨_,?_,rfl⟩;refine J6 rfl ?_;refine QN (by rw[JA rfl it,h1]) ?_;rw[h2,Zp];rfl
  have h:∃e',(Jb [gS 3,gS 4] (D.tup [x.d,QV pls]) [some BS,some TT,some (W7 kv),a,b]).bind (QC (eK Xh (QZ (eV 3))) (sP 2 (QT (Qc (Q2 3 1) (ZZ (Q2 4 0) 0)))) QK)=some (.nx e')/\e'=[some BS,some TT,some (W7 (kv++Ye (x,pls))),some x.d,some (QV pls)]:=by cases x with
   |chapter t l=>exact hit t .non rfl rfl rfl hq|heading t k l=>exact hit t .non rfl rfl rfl hq|para is=>exact eD rfl rfl|table r l=>exact eD rfl rfl|plates n l=>exact eD rfl rfl
  obtain⟨e',h1,h2⟩:=h;exact⟨e',.inl h1,_,_,h2⟩
 ·rintro e⟨a,b,rfl⟩;rw[ZX];exact ret rfl
def Qkg(i:Int):NW [.int i]=QL true:=by unfold NW KR;exact Qy rfl (ret (Za (Sl (t:="int") (x:=.int i) rfl rfl) (WR (b:=false) (Sl (t:="bool") (x:=.int i) rfl rfl))))
inductive Op where|ln(q:Plc)(B:List Str)|wd(q:Plc)(x:Str)(M:List Str)
noncomputable def Op.p:Op->Plc|.ln q _=>q|.wd q _ _=>q
def Zh(m:SM):Op->SM|.ln q B=>YW (λx=>(x.1++B,x.2)) m q.p|.wd q x M=>YW (Rc (decide (q.c=0)) x M) m q.p
def OB(L N:List Str):Op->List Str×List Str|.ln _ B=>(L++B,N)|.wd q x M=>Rc (decide (q.c=0)) x M (L,N)
def Cur(m:SM)(g:Int)(r:SM)(L N:List Str):Prop:=(m=r/\L=[]/\N=[]\/m=r++[(g,L,N)])/\∀x∈r,x.1<g
theorem QaO(f:List Str×List Str->List Str×List Str):∀(m:SM)(g:Int),(∀x∈m,x.1<g)->YW f m g=m++[(g,f ([],[]))]|[],_,_=>rfl|x::m,g,h=>by have h1:=h x JN;show(if x.1=g then(x.1,f x.2)::m else x::YW f m g)=_;rw[if_neg (by omega),QaO f m g λy hy=>h y (JH _ hy)];rfl
theorem QaN(f:List Str×List Str->List Str×List Str)(a:List Str×List Str):∀(r:SM)(g:Int),(∀x∈r,x.1<g)->YW f (r++[(g,a)]) g=r++[(g,f a)]|[],g,_=>by show(if g=g then[(g,f a)]else _)=_;rw[if_pos rfl];rfl|x::r,g,h=>by have h1:=h x JN;show(if x.1=g then(x.1,f x.2)::(r++[(g,a)])else x::YW f (r++[(g,a)]) g)=_;rw[if_neg (by omega),QaN f a r g λy hy=>h y (JH _ hy)];rfl
section
variable{m r:SM}{g:Int}{L N:List Str}
def Cur.upd(c:Cur m g r L N)(f:List Str×List Str->List Str×List Str):YW f m g=r++[(g,f (L,N))]:=by
 obtain⟨e|e,h⟩:=c
 ·obtain⟨rfl,rfl,rfl⟩:=e;exact QaO f _ g h
 ·rw[e];exact QaN f _ r g h
theorem DS:∀(m:SM)(g:Int),ens m g=YW id m g|[],_=>rfl|x::m,g=>by show(if x.1=g then x::m else x::ens m g)=(if x.1=g then(x.1,id x.2)::m else x::YW id m g);rw[DS m g];rfl
theorem Cur.ens(c:Cur m g r L N):ens m g=r++[(g,L,N)]:=by rw[DS,c.upd];rfl
def Cur.nxt(c:Cur m g r L N)(L2 N2:List Str):Cur (r++[(g,L2,N2)]) g r L2 N2:=⟨.inr rfl,c.2⟩
def Cur.sub(c:Cur m g r L N):∀x∈m,x∈r\/x=(g,L,N):=by
 intro x hx;obtain⟨e|e,h⟩:=c;·rw[e.1]at hx;exact .inl hx
 ·rw[e]at hx;exact(q_7.mp hx).imp id q_1.mp
def Cur.le(c:Cur m g r L N):∀x∈m,x.1<=g:=by
 intro x hx;rcases c.sub x hx with z|z;·exact RG (c.2 x z)
 ·rw[z];exact JW _
def Cur.new(c:Cur m g r L N){g':Int}(h:g<g'):Cur m g' m [] []:=⟨.inl ⟨rfl,rfl,rfl⟩,λx hx=>by have:=c.le x hx;omega⟩
def Cur.len(c:Cur m g r L N):r.length<=m.length:=by
 obtain⟨e|e,_⟩:=c;·rw[e.1];exact Qx _
 ·rw[e];simp
def OA{o:Op}(c:Cur m o.p.p r L N):Zh m o=r++[(o.p.p,OB L N o)]:=by cases o with|ln q B=>exact c.upd _|wd q x M=>exact c.upd _
end
noncomputable def Sits(L:List Str):Op->Prop|.ln q B=>q.c=0/\q.l=L.length/\B.length<=1000|.wd q x M=>x.length<=1000/\M.length<=1000/\(q.c=0/\q.l=L.length\/0<q.c/\∃L' y,L=L'++[y]/\q.l=L'.length/\q.c=y.length+1)
def okOp(m:SM)(o:Op):Prop:=∃r L N,Cur m o.p.p r L N/\(∀x∈r,x.2.1.length<=1000/\x.2.2.length<=1000)/\L.length<=1000/\N.length<=1000/\(∀y∈L,y.length<=1000)/\Sits L o
def Good:SM->List Op->Prop|_,[]=>True|m,o::os=>okOp m o/\Good (Zh m o) os
theorem Good.app:∀{os qs:List Op}{m:SM},Good m os->Good (os.foldl Zh m) qs->Good m (os++qs)|[],_,_,_,h=>h|_::_,_,_,h1,h2=>⟨h1.1,Good.app h1.2 h2⟩
theorem Good.len:∀{os:List Op}{m:SM},Good m os->(os.foldl Zh m).length<=m.length+os.length|[],_,_=>Qx _|o::os,m,h=>by have ih:=Good.len h.2;obtain⟨r,L,N,c,_⟩:=h.1;have e:=OA c;have:=c.len;rw[e,Qg]at ih;rw[Zq,JM,e];simp at ih;omega
theorem Good.pages:∀{os:List Op}{m:SM},Good m os->∀e∈os.foldl Zh m,e.1∈m.map (·.1)\/∃o∈os,o.p.p=e.1
 |[],_,_,e,he=>.inl (List.mem_map_of_mem he)|o::os,m,h,e,he=>by
  rcases Good.pages h.2 e he with z|⟨q,hq,eq⟩
  ·obtain⟨r,L,N,c,_⟩:=h.1;rw[OA c,Zr,q_7]at z;rcases z with z|z
   ·left;obtain⟨x,hx,ex⟩:=q_20.mp z;rw[<-ex];refine List.mem_map_of_mem ?_;obtain⟨w|w,_⟩:=c;·rw[w.1];exact hx
    ·rw[w];exact V0 _ hx
   ·exact .inr ⟨o,JN,(q_1.mp z).symm⟩
  ·exact .inr ⟨q,JH _ hq,eq⟩
def S5(x:Str):x++Str.ofString ""=x:=by have:(Str.ofString "").cps=#[]:=rfl;show(⟨x.cps++(Str.ofString "").cps⟩:Str)=x;rw[this,Array.append_empty]
def BL(x:Str):Str.ofString ""++x=x:=by have:(Str.ofString "").cps=#[]:=rfl;show(⟨(Str.ofString "").cps++x.cps⟩:Str)=x;rw[this,Array.empty_append]
def N6(x y z:Str):x++y++z=x++(y++z):=by show(⟨x.cps++y.cps++z.cps⟩:Str)=⟨x.cps++(y.cps++z.cps)⟩;rw[Array.append_assoc]
def Ext(L L':List Str):Prop:=∀(i:Nat)(row:Str),L[i]?=some row->∃b,L'[i]?=some (row++b)
def Dj(L:List Str):Ext L L:=λi row h=>⟨Str.ofString "",by rw[S5];exact h⟩
def Di(L B:List Str):Ext L (L++B):=λi row h=>⟨Str.ofString "",by rw[S5,YH (q_22.mp h).1];exact h⟩
def Qd5(L:List Str)(y b:Str):Ext (L++[y]) (L++[y++b]):=λi row h=>by
 by_cases z:i<L.length;·rw[YH z]at h;exact⟨Str.ofString "",by rw[S5,YH z];exact h⟩
 ·have hl:i<(L++[y]).length:=(q_22.mp h).1;have e:i=L.length:=by simp at hl;omega
  subst e;rw[Mn]at h;cases h;exact⟨b,Mn⟩
def Ext.trans{A B C:List Str}(h1:Ext A B)(h2:Ext B C):Ext A C:=λi row h=>by obtain⟨b,hb⟩:=h1 i row h;obtain⟨c,hc⟩:=h2 i _ hb;exact⟨b++c,by rw[hc,N6]⟩
def Iv(x y:Str)(L:List Str):XN x (L++[y])=L++[y++Str.ofString " "++x]:=by unfold XN;rw[List.getLast?_concat];show(L++[y]).set ((L++[y]).length-1) _=_;rw[Qg,RC,Nat.add_sub_cancel,List.set_append_right _ _ (Qx _),sub_self];rfl
def Grow(m m':SM):Prop:=∀e∈m,∃e'∈m',e'.1=e.1/\Ext e.2.1 e'.2.1
def Qep(m:SM):Grow m m:=λe he=>⟨e,he,rfl,Dj _⟩
theorem Grow.trans{A B C:SM}(h1:Grow A B)(h2:Grow B C):Grow A C:=λe he=>by obtain⟨x,hx,ex,gx⟩:=h1 e he;obtain⟨y,hy,ey,gy⟩:=h2 x hx;exact⟨y,hy,ey.trans ex,gx.trans gy⟩
def Sits.ext{L:List Str}(N:List Str){o:Op}(s:Sits L o):Ext L (OB L N o).1:=by cases o with
 |ln q B=>exact Di _ _|wd q x M=>
  obtain⟨_,_,⟨hc,_⟩|⟨hc,L',y,e,_⟩⟩:=s
  ·show Ext L (if decide (q.c=0)=true then L++[x]else XN x L);rw[if_pos (Jf hc)];exact Di _ _
  ·show Ext L (if decide (q.c=0)=true then L++[x]else XN x L);rw[if_neg (by simp;omega),e,Iv,N6];exact Qd5 _ _ _
def okOp.grow{m:SM}{o:Op}(h:okOp m o):Grow m (Zh m o):=by
 obtain⟨r,L,N,c,_,_,_,_,s⟩:=h;rw[OA c];intro e he;rcases c.sub e he with z|z;·exact⟨e,V0 _ z,rfl,Dj _⟩
 ·exact⟨_,YF _ (q_1.mpr rfl),by rw[z],by rw[z];exact s.ext N⟩
def Stand(m:SM)(q:Plc)(x:Str):Prop:=∃e∈m,e.1=q.p/\0<=q.l/\∃row,e.2.1[q.l.toNat]?=some row/\∃a b:Str,row=a++x++b/\(a.length:Int)=q.c/\(0<q.c->∃a',a=a'++(Str.ofString " "))
def Stand.grow{m m':SM}{q:Plc}{x:Str}(h:Stand m q x)(g:Grow m m'):Stand m' q x:=by obtain⟨e,he,e1,h0,row,h1,a,b,h2,h3,h4⟩:=h;obtain⟨e',mJ,e2,ex⟩:=g e he;obtain⟨c,hc⟩:=ex _ _ h1;exact⟨e',mJ,e2.trans e1,h0,_,hc,a,b++c,by rw[h2,N6 (a++x)],h3,h4⟩
def T2:Op->List (Plc×Str×List Str)|.ln q B=>B.mapIdx λj x=>(⟨q.p,q.l+j,q.c⟩,x,[])|.wd q x M=>[(q,x,M)]
def okOp.stand{m:SM}{o:Op}(h:okOp m o):∀t∈T2 o,Stand (Zh m o) t.1 t.2.1:=by
 obtain⟨r,L,N,c,_,_,_,_,s⟩:=h;rw[OA c];have mem:(o.p.p,OB L N o)∈r++[(o.p.p,OB L N o)]:=YF _ (q_1.mpr rfl);cases o with
 |ln q B=>
  intro t ht;obtain⟨j,hj,rfl⟩:=List.mem_mapIdx.mp ht;obtain⟨s1,s2,_⟩:=s;refine⟨_,mem,rfl,by show 0<=q.l+(j:Int);omega,B[j],?_,Str.ofString "",Str.ofString "",by rw[BL,S5],?_,λz=>?_⟩
  ·show(L++B)[(q.l+(j:Int)).toNat]?=_;rw[show(q.l+(j:Int)).toNat=L.length+j by omega,Vk (by omega),Nat.add_sub_cancel_left];exact Qk hj
  ·show(((Str.ofString "").length:Nat):Int)=q.c;rw[s1];rfl
  ·have:(0:Int)<q.c:=z;omega|wd q x M=>
  intro t ht;have et:t=(q,x,M):=q_1.mp ht;subst et;obtain⟨_,_,⟨hc,hl⟩|⟨hc,L',y,e,hl,hy⟩⟩:=s
  ·refine⟨_,mem,rfl,by show 0<=q.l;omega,x,?_,Str.ofString "",Str.ofString "",by rw[BL,S5],?_,λz=>?_⟩
   ·show(if decide (q.c=0)=true then L++[x]else XN x L)[q.l.toNat]?=_;rw[if_pos (Jf hc),show q.l.toNat=L.length by omega];exact Mn
   ·show(((Str.ofString "").length:Nat):Int)=q.c;rw[hc];rfl
   ·have:(0:Int)<q.c:=z;omega
  ·refine⟨_,mem,rfl,by show 0<=q.l;omega,y++(Str.ofString " ")++x,?_,y++(Str.ofString " "),Str.ofString "",by rw[S5],?_,λ_=>⟨y,rfl⟩⟩
   ·show(if decide (q.c=0)=true then L++[x]else XN x L)[q.l.toNat]?=_;rw[if_neg (by simp;omega),e,Iv,show q.l.toNat=L'.length by omega];exact Mn
   ·show(((y++(Str.ofString " ")).length:Nat):Int)=q.c;rw[Yx,hy];rfl
theorem Good.all:∀{os:List Op}{m:SM},Good m os->Grow m (os.foldl Zh m)/\∀o∈os,∀t∈T2 o,Stand (os.foldl Zh m) t.1 t.2.1
 |[],m,_=>⟨Qep m,λ_ h=>nomatch h⟩|o::os,m,h=>by
  obtain⟨i1,i2⟩:=Good.all h.2;refine⟨(okOp.grow h.1).trans i1,λq hq t ht=>?_⟩;rcases q_5.mp hq with z|z;·subst z;exact(okOp.stand h.1 t ht).grow i1
  ·exact i2 q z t ht
structure Ink(w h:Int)(s:Sta)(m r:SM)(L N:List Str):Prop where
 cur:Cur m s.p r L N
 ll:(L.length:Int)=s.l+(if s.u=0 then 0 else 1)ln:(N.length:Int)=s.f
 la:s.u≠0->∃L' y,L=L'++[y]/\(y.length:Int)=s.u
 up:r.Pairwise λa b=>a.1<b.1
 hi:∀x∈r,(x.2.1.length:Int)+x.2.2.length<=h
 wd:∀y∈L,(y.length:Int)<=w
 wr:∀x∈r,∀y∈x.2.1,(y.length:Int)<=w
def ShOk(w h:Int)(s:Sta)(m:SM):Prop:=∃r L N,Ink w h s m r L N
def Ink.hi'{w h:Int}{s:Sta}{m r:SM}{L N:List Str}(i:Ink w h s m r L N)(hs:J9 w h s):(L.length:Int)+N.length<=h:=by obtain⟨h0,h1,h2,h3,h4,h5⟩:=hs;have a:=i.ll;have b:=i.ln;split at a<;>omega
def Ink.all{w h:Int}{s:Sta}{m r:SM}{L N:List Str}(i:Ink w h s m r L N)(hs:J9 w h s):m.Pairwise (λa b=>a.1<b.1)/\(∀x∈m,(x.2.1.length:Int)+x.2.2.length<=h)/\∀x∈m,∀y∈x.2.1,(y.length:Int)<=w:=by
 refine⟨?_,λx hx=>?_,λx hx=>?_⟩
 ·obtain⟨e|e,c⟩:=i.cur;·rw[e.1];exact i.up
  ·rw[e,List.pairwise_append];exact⟨i.up,List.pairwise_singleton _ _,λa ha b hb=>by rw[q_1.mp hb];exact c a ha⟩
 ·rcases i.cur.sub x hx with z|z;·exact i.hi x z
  ·rw[z];exact i.hi' hs
 ·rcases i.cur.sub x hx with z|z;·exact i.wr x z
  ·rw[z];exact i.wd
theorem Ink.new{w h:Int}{s:Sta}{m r:SM}{L N:List Str}(i:Ink w h s m r L N)(hs:J9 w h s){g:Int}(hg:s.p<g):Ink w h (Jl g) m m [] []:=⟨i.cur.new hg,rfl,rfl,λz=>absurd rfl z,(i.all hs).1,(i.all hs).2.1,(λ_ z=>nomatch z),(i.all hs).2.2⟩
theorem ShOk.new{w h:Int}{s:Sta}{m:SM}(i:ShOk w h s m)(hs:J9 w h s){g:Int}(hg:s.p<g):ShOk w h (Jl g) m:=by obtain⟨r,L,N,i⟩:=i;exact⟨m,[],[],i.new hs hg⟩
def ShOk.end_{w h:Int}{s:Sta}{m:SM}(i:ShOk w h s m)(hs:J9 w h s):ShOk w h (endLine s) m:=by
 unfold endLine;by_cases z:s.u=0;·rw[if_pos z];exact i
 ·rw[if_neg z];obtain⟨r,L,N,i⟩:=i;refine⟨r,L,N,i.cur,?_,i.ln,λz=>absurd rfl z,i.up,i.hi,i.wd,i.wr⟩;have:=i.ll;rw[if_neg z]at this;rw[this];exact(add_zero _).symm
def ShOk.page{w h:Int}{s:Sta}{m:SM}(i:ShOk w h s m)(hs:J9 w h s):ShOk w h (JR s) m:=by
 unfold JR;split;·exact i
 ·exact i.new hs (by omega)
def Qf7(s:Sta):JR s=Jl (JR s).p:=by
 unfold JR;split;·rename_i z;obtain⟨a,b,c⟩:=z;cases s;dsimp only at a b c;subst a b c;rfl
 ·rfl
def NA{w h g:Int}(hw:0<=w)(hh:0<=h):J9 w h (Jl g):=⟨JW _,JW _,hw,JW _,hh,λz=>absurd z (Int.lt_irrefl _)⟩
def HY{w h:Int}(s:Sta)(hw:0<=w)(hh:0<=h):J9 w h (JR s):=by rw[Qf7];exact NA hw hh
def ShOk.chapter{w h:Int}{s:Sta}{m:SM}(o:Bool)(i:ShOk w h s m)(hs:J9 w h s)(hw:0<=w)(hh:0<=h):ShOk w h (Z2 o s) m:=by
 unfold Z2;split;·exact(i.page hs).new (HY s hw hh) (by omega)
 ·exact i.page hs
def BG{w h:Int}(o:Bool)(s:Sta)(hw:0<=w)(hh:0<=h):J9 w h (Z2 o s):=by
 unfold Z2;split;·exact NA hw hh
 ·exact HY s hw hh
structure Run(w h:Int)(m:SM)(os:List Op)(s':Sta):Prop where
 good:Good m os
 ok:ShOk w h s' (os.foldl Zh m)st:J9 w h s'
section
variable{w h:Int}{s s1 s2 s':Sta}{m:SM}
theorem Run.app{os qs:List Op}(a:Run w h m os s1)(b:Run w h (os.foldl Zh m) qs s2):Run w h m (os++qs) s2:=⟨a.good.app b.good,by rw[Ts];exact b.ok,b.st⟩
def RH{o:Op}{r:SM}{L N L2 N2:List Str}(hb:w<=100/\h<=100)(c:Cur m o.p.p r L N)(hl:(L.length:Int)+N.length<=h)(hy:∀y∈L,(y.length:Int)<=w)(si:Sits L o)(e:OB L N o=(L2,N2))(k:Ink w h s' (r++[(o.p.p,L2,N2)]) r L2 N2)(st:J9 w h s'):Run w h m [o] s':=⟨⟨⟨r,L,N,c,λx hx=>by have:=k.hi x hx;omega,by omega,by omega,λy z=>by have:=hy y z;omega,si⟩,trivial⟩,⟨r,L2,N2,by show Ink w h s' (Zh m o) r L2 N2;rw[OA c,e];exact k⟩,st⟩
def QaU(i:ShOk w h s m)(hs:J9 w h s)(hb:w<=100/\h<=100)(x:Str)(M:List Str)(hn:1<=x.length/\(x.length:Int)<=w)(hr:(M.length:Int)<h):Run w h m [.wd (JE w h s x.length M.length).1 x M] (JE w h s x.length M.length).2:=by
 obtain⟨r,L,N,i⟩:=i;have cc:=Og (n:=x.length) (r:=M.length) hs ⟨by omega,hn.2⟩ ⟨by omega,hr⟩;have hh:=i.hi' hs;have kc:=hs;obtain⟨h0,h1,h2,h3,h4,h5⟩:=hs;have ll:=i.ll;have ln:=i.ln;have sx:x.length<=1000/\M.length<=1000:=by omega
 have wx:∀y∈L++[x],(y.length:Int)<=w:=λy hy=>(q_7.mp hy).elim (i.wd y) λz=>by rw[q_1.mp z];exact hn.2
 rcases Ht w h s x.length M.length h1 with⟨c1,c2,c,hc,e⟩|⟨c1,⟨c2,c3,e⟩|⟨c2,e⟩⟩
 ·rw[e]at cc⊢;rcases hc with⟨u0,c0⟩|⟨u0,c0⟩
  ·subst c0;rw[if_pos u0]at ll;refine RH (o:=.wd ⟨s.p,s.l,0⟩ x M) (L2:=L++[x]) (N2:=N++M) hb i.cur hh i.wd ⟨sx.1,sx.2,.inl ⟨rfl,by show s.l=_;omega⟩⟩ rfl ⟨i.cur.nxt _ _,?_,?_,λ_=>⟨L,x,rfl,by show _=(0:Int)+_;omega⟩,i.up,i.hi,wx,i.wr⟩ cc
   ·show((L++[x]).length:Int)=s.l+(if(0:Int)+(x.length:Int)=0 then 0 else 1);rw[if_neg (by omega),Qg,RC];omega
   ·show((N++M).length:Int)=s.f+M.length;rw[Qg];omega
  ·subst c0;have un:s.u≠0:=by omega
   rw[if_neg un]at ll;obtain⟨L',y,eL,ly⟩:=i.la un;have lL:L.length=L'.length+1:=by rw[eL];simp
   refine RH (o:=.wd ⟨s.p,s.l,s.u+1⟩ x M) (L2:=L'++[y++(Str.ofString " ")++x]) (N2:=N++M) hb i.cur hh i.wd ⟨sx.1,sx.2,.inr ⟨by show 0<s.u+1;omega,L',y,eL,by show s.l=_;omega,by show s.u+1=_;omega⟩⟩ ?_ ⟨i.cur.nxt _ _,?_,?_,λ_=>⟨L',_,rfl,?_⟩,i.up,i.hi,λz hz=>?_,i.wr⟩ cc
   ·show(if decide (s.u+1=0)=true then L++[x]else XN x L,N++M)=_;rw[if_neg (by simp;omega),eL,Iv]
   ·show((L'++[y++(Str.ofString " ")++x]).length:Int)=s.l+(if s.u+1+(x.length:Int)=0 then 0 else 1);rw[if_neg (by omega),Qg,RC];omega
   ·show((N++M).length:Int)=s.f+M.length;rw[Qg];omega
   ·show _=s.u+1+(x.length:Int);rw[Yx,Yx,show(Str.ofString " ").length=1 from rfl];omega
   ·rcases q_7.mp hz with q|q;·exact i.wd z (by rw[eL];exact V0 _ q)
    ·rw[q_1.mp q,Yx,Yx,show(Str.ofString " ").length=1 from rfl];rcases c1 with c1|c1<;>omega
 ·rw[e]at cc⊢;have un:s.u≠0:=by omega
  rw[if_neg un]at ll;refine RH (o:=.wd ⟨s.p,s.l+1,0⟩ x M) (L2:=L++[x]) (N2:=N++M) hb i.cur hh i.wd ⟨sx.1,sx.2,.inl ⟨rfl,by show s.l+1=_;omega⟩⟩ rfl ⟨i.cur.nxt _ _,?_,?_,λ_=>⟨L,x,rfl,by show _=(0:Int)+_;omega⟩,i.up,i.hi,wx,i.wr⟩ cc
  ·show((L++[x]).length:Int)=s.l+1+(if(0:Int)+(x.length:Int)=0 then 0 else 1);rw[if_neg (by omega),Qg,RC];omega
  ·show((N++M).length:Int)=s.f+M.length;rw[Qg];omega
 ·rw[e]at cc⊢;have j:=i.new kc (g:=s.p+1) (by omega);refine RH (o:=.wd ⟨s.p+1,0,0⟩ x M) (L2:=[]++[x]) (N2:=[]++M) hb j.cur (by simp;omega) j.wd ⟨sx.1,sx.2,.inl ⟨rfl,rfl⟩⟩ rfl ⟨j.cur.nxt _ _,?_,?_,λ_=>⟨[],x,rfl,by show _=(0:Int)+_;omega⟩,j.up,j.hi,λy hy=>?_,j.wr⟩ cc
  ·show(([]++[x]:List Str).length:Int)=0+(if(0:Int)+(x.length:Int)=0 then 0 else 1);rw[if_neg (by omega)];rfl
  ·show(([]++M:List Str).length:Int)=M.length;simp
  ·rw[q_1.mp hy];exact hn.2
def NC(i:ShOk w h s m)(hs:J9 w h s)(hb:w<=100/\h<=100)(B:List Str)(keep:Int)(h1:1<=B.length)(hk:0<=keep)(hr:(B.length:Int)+keep<=h)(hw:∀y∈B,(y.length:Int)<=w):Run w h m [.ln (Jc h s B.length keep).1 B] (Jc h s B.length keep).2:=by
 have cc:=Up (a:=B.length) (b:=keep) hs (by omega) hk hr;have eo:=TX hs;have i':=i.end_ hs;unfold Jc at cc⊢;generalize endLine s=t at*;obtain⟨ts,t0⟩:=eo;obtain⟨r,L,N,i⟩:=i';have ll:=i.ll;rw[if_pos t0]at ll;have ln:=i.ln;by_cases z:t.l+t.f+((B.length:Int)+keep)<=h
 ·rw[if_pos z]at cc⊢;refine RH (o:=.ln ⟨t.p,t.l,0⟩ B) (L2:=L++B) (N2:=N) hb i.cur (i.hi' ts) i.wd ⟨rfl,by show t.l=_;omega,by omega⟩ rfl ⟨i.cur.nxt _ _,?_,i.ln,λz=>absurd rfl z,i.up,i.hi,(λy hy=>(q_7.mp hy).elim (i.wd y) (hw y)),i.wr⟩ cc;show((L++B).length:Int)=t.l+B.length+0;rw[Qg];omega
 ·rw[if_neg z]at cc⊢;have j:=i.new ts (g:=t.p+1) (by omega);refine RH (o:=.ln ⟨t.p+1,0,0⟩ B) (L2:=[]++B) (N2:=[]) hb j.cur (by simp;omega) j.wd ⟨rfl,rfl,by omega⟩ rfl ⟨j.cur.nxt _ _,?_,rfl,λz=>absurd rfl z,j.up,j.hi,hw,j.wr⟩ cc;show(([]++B:List Str).length:Int)=0+B.length+0;simp
end
noncomputable def Y5(n:Int):Str:=Str.ofString (toString n)
def Gd{n:Int}(h:0<=n):(Y5 n).length=Jw n.toNat:=by have:=Ge n.toNat;rw[Int.toNat_of_nonneg h]at this;exact this
def XO(kv:List (Str×Int))(i:It)(q:Plc):Op:=match i with|.ref l a b=>.wd q (a++Y5 (JL kv l)++b) []|.word x ns=>.wd q x ns|_=>.wd q (Str.ofString "") []
def R0(kv:List (Str×Int))(is:List It)(pls:List Plc):List Op:=((is.filter Qs).zip pls).map λx=>XO kv x.1 x.2
def Ym(kv:List (Str×Int))(b:Bk×List Plc):List Op:=match b.1 with|.para is=>R0 kv is b.2|.table rs _=>[.ln (b.2.getD 0 ⟨0,0,0⟩) rs]|.chapter t _=>[.ln (b.2.getD 0 ⟨0,0,0⟩) [t]]|.heading t _ _=>[.ln (b.2.getD 0 ⟨0,0,0⟩) [t]]|.plates _ _=>[]
section
variable{w h:Int}{s s1 s2 s':Sta}{m:SM}
def Run.nil(i:ShOk w h s m)(hs:J9 w h s):Run w h m [] s:=⟨trivial,i,hs⟩
def Run.cons{o:Op}{os:List Op}(a:Run w h m [o] s1)(b:Run w h (Zh m o) os s2):Run w h m (o::os) s2:=Run.app a b
theorem Pu(af:Int)(kv:List (Str×Int))(ae:List Int)(hb:w<=100/\h<=100)(hh:1<=h):∀(is:List It)(pls:List Plc)(k:Nat)(s:Sta)(m:SM),ShOk w h s m->J9 w h s->(∀i∈is,U0 af w h i)->(∀i∈is,La i)->(∀(j:Nat)(l:Str),(Qt is)[j]?=some l->ae.getD (k+j) 0=(Jw (JL kv l).toNat:Int)/\1<=JL kv l/\(Jw (JL kv l).toNat:Int)<=af)->∃new,(is.foldl (Jo w h ae) (pls,k,s)).1=pls++new/\new.length=JZ is/\Run w h m (R0 kv is new) (is.foldl (Jo w h ae) (pls,k,s)).2.2
 |[],pls,k,s,m,i,hs,_,_,_=>⟨[],(Zp _).symm,rfl,Run.nil i hs⟩|.word x ns::is,pls,k,s,m,i,hs,hf,hw,hR=>by
  have f1:=hf _ JN;have w1:=hw _ JN;have r1:=QaU i hs hb x ns ⟨w1,f1.1⟩ (by have:=f1.2.1;omega);obtain⟨new,e1,e0,e2⟩:=Pu af kv ae hb hh is (pls++[(JE w h s x.length ns.length).1]) k _ _ r1.ok r1.st (λy hy=>hf y (JH _ hy)) (λy hy=>hw y (JH _ hy)) hR;refine⟨(JE w h s x.length ns.length).1::new,?_,?_,?_⟩;·rw[Zq];refine e1.trans ?_;simp
  ·rw[Uo,JM,e0];simp[Qs,Y2];omega
  ·exact Run.cons r1 e2|.ref l a b::is,pls,k,s,m,i,hs,hf,hw,hR=>by
  have f1:=hf _ JN;obtain⟨g1,g2,g3⟩:=hR 0 l rfl;have lx:((a++Y5 (JL kv l)++b).length:Int)=(a.length:Int)+ae.getD k 0+b.length:=by
   rw[Yx,Yx,Gd (by omega)];have:ae.getD k 0=(Jw (JL kv l).toNat:Int):=g1;omega
  have jg:(a.length:Int)+af+b.length<=w:=f1;have g1':ae.getD k 0=(Jw (JL kv l).toNat:Int):=g1;have dp:=SO (JL kv l).toNat;have r1:=QaU i hs hb (a++Y5 (JL kv l)++b) [] ⟨by omega,by omega⟩ (by show((0:Nat):Int)<h;omega);rw[lx,show((([]:List Str).length:Nat):Int)=0 from rfl]at r1;obtain⟨new,e1,e0,e2⟩:=Pu af kv ae hb hh is (pls++[(JE w h s ((a.length:Int)+ae.getD k 0+b.length) 0).1]) (k+1) _ _ r1.ok r1.st (λy hy=>hf y (JH _ hy)) (λy hy=>hw y (JH _ hy)) (λj l' hj=>by have:=hR (j+1) l' hj;rw[show k+1+j=k+(j+1)by omega];exact this);refine⟨(JE w h s ((a.length:Int)+ae.getD k 0+b.length) 0).1::new,?_,?_,?_⟩;·rw[Zq];refine e1.trans ?_;simp
  ·rw[Uo,JM,e0];simp[Qs,ZT];omega
  ·exact Run.cons r1 e2|.mark l::is,pls,k,s,m,i,hs,hf,hw,hR=>by obtain⟨new,e1,e0,e2⟩:=Pu af kv ae hb hh is pls k s m i hs (λy hy=>hf y (JH _ hy)) (λy hy=>hw y (JH _ hy)) hR;exact⟨new,e1,by rw[Uo,e0];simp[Qs,Y2,ZT],e2⟩|.key l::is,pls,k,s,m,i,hs,hf,hw,hR=>by obtain⟨new,e1,e0,e2⟩:=Pu af kv ae hb hh is pls k s m i hs (λy hy=>hf y (JH _ hy)) (λy hy=>hw y (JH _ hy)) hR;exact⟨new,e1,by rw[Uo,e0];simp[Qs,Y2,ZT],e2⟩
theorem Run.end_{os:List Op}(r:Run w h m os s'):Run w h m os (endLine s'):=⟨r.good,r.ok.end_ r.st,(TX r.st).1⟩
def Qen(xs:List Int)(k j:Nat):(xs.drop k).getD j 0=xs.getD (k+j) 0:=by simp[YU,List.getElem?_drop]
theorem Ef(af:Int)(kv:List (Str×Int))(ae:List Int)(o:Bool)(hb:w<=100/\h<=100)(f6:0<=w)(hh:1<=h)(h0:0<=af):∀(bs:List Bk)(acc:List (List Plc))(s:Sta)(k:Nat)(m:SM),ShOk w h s m->J9 w h s->(∀b∈bs,Vq af w h b)->(∀b∈bs,Rg h b)->(∀(j:Nat)(l:Str),(rO bs)[j]?=some l->ae.getD (k+j) 0=(Jw (JL kv l).toNat:Int)/\1<=JL kv l/\(Jw (JL kv l).toNat:Int)<=af)->∃new,(bs.foldl (JU w h o ae) (acc,s,k)).1=acc++new/\new.length=bs.length/\Run w h m ((bs.zip new).flatMap (Ym kv)) (bs.foldl (JU w h o ae) (acc,s,k)).2.1
 |[],acc,s,k,m,i,hs,_,_,_=>⟨[],(Zp _).symm,rfl,Run.nil i hs⟩|x::bs,acc,s,k,m,i,hs,hf,hw,hR=>by
  have f1:=hf x JN;have w1:=hw x JN;have rf:rO (x::bs)=Qt (iO x)++rO bs:=Zi;have key:∃pls s',JU w h o ae (acc,s,k) x=(acc++[pls],s',k+(Qt (iO x)).length)/\Run w h m (Ym kv (x,pls)) s':=by cases x with
   |para is=>
    obtain⟨new,e1,_,e2⟩:=Pu af kv (ae.drop k) hb hh is [] 0 s m i hs f1 w1 (λj l hj=>by
     have i6:(rO (Bk.para is::bs))[j]?=some l:=by rw[rf];show(Qt is++rO bs)[j]?=some l;rw[YH (q_22.mp hj).1];exact hj
     have:=hR j l i6;rw[Qen,show k+(0+j)=k+j by omega];exact this);refine⟨_,_,rfl,?_⟩;have e3:(V2 w h s (ae.drop k) is).1=new:=e1;rw[e3];exact e2.end_|chapter t l=>refine⟨_,_,rfl,?_⟩;have jg:(t.length:Int)+2+af<=w:=f1;exact NC (i.chapter o hs f6 (by omega)) (BG o s f6 (by omega)) hb [t] 0 (by simp) (by omega) (by simp;omega) (λy hy=>by rw[q_1.mp hy];omega)|heading t k' l=>
    refine⟨_,_,rfl,?_⟩;obtain⟨f2,f3⟩:=(show(t.length:Int)+2+af<=w/\k'+1<=h from f1);obtain⟨w2,w3⟩:=(show 0<=k'/\1+k'<=h from w1);exact NC i hs hb [t] k' (by simp) w2 (by simp;omega) (λy hy=>by rw[q_1.mp hy];omega)|table rs l=>
    refine⟨_,_,rfl,?_⟩;obtain⟨f2,f3⟩:=(show(rs.length:Int)<=h/\∀r∈rs,(r.length:Int)<=w from f1);obtain⟨w2,w3⟩:=(show 1<=rs.length/\(rs.length:Int)<=h from w1);exact NC i hs hb rs 0 w2 (by omega) (by omega) f3|plates n l=>
    refine⟨_,_,rfl,?_⟩;have w2:1<=n:=w1;exact Run.nil ((i.page hs).new (HY s f6 (by omega)) (by show(JR s).p<(JR s).p+n;omega)) (NA f6 (by omega))
  obtain⟨pls,s',k1,k2⟩:=key;obtain⟨new,e1,e0,e2⟩:=Ef af kv ae o hb f6 hh h0 bs (acc++[pls]) s' (k+(Qt (iO x)).length) _ k2.ok k2.st (λy hy=>hf y (JH _ hy)) (λy hy=>hw y (JH _ hy)) (λj l hj=>by have:=hR ((Qt (iO x)).length+j) l (by rw[rf,Vk (by omega),Nat.add_sub_cancel_left];exact hj);rw[Nat.add_assoc];exact this);rw[Zq,k1];exact⟨pls::new,by rw[e1];simp,by rw[JM,JM,e0],k2.app e2⟩
def T9(t:Str)(p w:Int):Str:=t++Str.ofString " "++YC (Str.ofString ".") (w-t.length-2-(Y5 p).length)++Str.ofString " "++Y5 p
def Hg(w:Int)(q:Plc)(t:Str×Int):Op:=.ln q [T9 t.1 t.2 w]
def WS(w:Int)(c:List Plc)(T:List (Str×Int)):List Op:=(c.zip T).map λx=>Hg w x.1 x.2
def DJ(n:Int):(YC (Str.ofString ".") n).length=n.toNat:=by rw[HS,show(Str.ofString ".").length=1 from by decide+kernel];omega
def QbJ{t:Str}{p w:Int}(h:(t.length:Int)+2+(Y5 p).length<=w):((T9 t p w).length:Int)=w:=by unfold T9;rw[Yx,Yx,Yx,Yx,DJ,show(Str.ofString " ").length=1 from rfl];omega
theorem IY(hb:w<=100/\h<=100)(hh:1<=h):∀(bs:List Bk)(T:List (Str×Int))(pls:List Plc)(s:Sta)(m:SM),ShOk w h s m->J9 w h s->T.length=(bs.filter Vx).length->(∀t∈T,(t.1.length:Int)+2+(Y5 t.2).length<=w)->∃new,(bs.foldl (Zb h) (pls,s)).1=pls++new/\new.length=T.length/\Run w h m (WS w new T) (bs.foldl (Zb h) (pls,s)).2
 |[],T,pls,s,m,i,hs,hT,_=>by have:T=[]:=List.length_eq_zero_iff.mp hT;subst this;exact⟨[],(Zp _).symm,rfl,Run.nil i hs⟩|x::bs,T,pls,s,m,i,hs,hT,hw=>by
  by_cases z:Vx x=true
  ·rw[List.filter_cons_of_pos z,JM]at hT;cases T with
   |nil=>cases hT|cons t T=>
    have ht:=hw t JN;have r1:=NC i hs hb [T9 t.1 t.2 w] 0 (by simp) (by omega) (by simp;omega) (λy hy=>by rw[q_1.mp hy,QbJ ht];omega);obtain⟨new,e1,e0,e2⟩:=IY hb hh bs T (pls++[(Jc h s 1 0).1]) _ _ r1.ok r1.st (by simpa using hT) (λy hy=>hw y (JH _ hy));refine⟨(Jc h s 1 0).1::new,?_,by rw[JM,JM,e0],?_⟩;·rw[Zq,Zb,if_pos z];refine e1.trans ?_;simp
    ·rw[Zq,Zb,if_pos z];exact Run.cons r1 e2
  ·rw[List.filter_cons_of_neg (by simpa using z)]at hT;obtain⟨new,e⟩:=IY hb hh bs T pls s m i hs hT hw;exact⟨new,by rw[Zq,Zb,if_neg z];exact e⟩
end
theorem Gg:∀L:List Str,UU (L.map .str)=some L|[]=>rfl|x::L=>by show(UU (L.map .str)).map (x::·)=_;rw[Gg L];rfl
def N4(q:Plc)(B:List Str)(m:SM)(h:okOp m (.ln q B))(hm:m.length<1000):Xg [q.d,QM B] m=some (Zh m (.ln q B)):=by
 obtain⟨r,L,N,c,hr,hl,hn,hy,si⟩:=h;have en:=c.ens;have key:Rt [none,some q.d,some (QM B)] m=some ([none,some q.d,some (QM B)],Zh m (.ln q B)):=by
  unfold Rt N7;show Option.bind (UU (B.map .str)) _=_;rw[Gg,ZA];refine if_pos ⟨by simp,hm,by have:=si.2.2;omega,λx hx=>?_⟩;have bg:Wd.ens m q.p=r++[(q.p,L,N)]:=en;rw[bg]at hx;rcases q_7.mp hx with z|z;·have:=(hr x z).1;omega
  ·rw[q_1.mp z];show L.length<=_;omega
 unfold Xg XD;rw[if_pos ⟨rfl,by decide,by decide⟩];show(Rt [none,some q.d,some (QM B)] m).map (·.2)=_;rw[key];rfl
def EI(q:Plc)(x:Str)(M:List Str)(m:SM)(h:okOp m (.wd q x M))(hm:m.length<1000):Wt [q.d,.str x,QM M] m=some (Zh m (.wd q x M)):=by
 obtain⟨r,L,N,c,hr,hl,hn,hy,s1,s2,s3⟩:=h;have en:=c.ens;have key:Ru [none,some q.d,QP x,some (QM M),none,none] m=some ([none,some q.d,QP x,some (QM M),none,none],Zh m (.wd q x M)):=by
  unfold Ru K5;have e1:Q2 1 0 [none,some q.d,QP x,some (QM M),none,none]=Q1 q.p:=rfl;have e2:QG (Q2 1 2) (Q5 0) [none,some q.d,QP x,some (QM M),none,none]=QL (decide (q.c=0)):=Q0 (x:=.int q.c) (y:=.int 0) rfl rfl (by simp[D.eqO,Z5,ZC,D.cmp]);rw[e1,e2];show Option.bind (UU (M.map .str)) _=_;rw[Gg,ZA];refine if_pos ⟨⟨hm,by omega,by omega,λt ht=>?_⟩,rfl,rfl,rfl⟩;have bg:Wd.ens m q.p=r++[(q.p,L,N)]:=en;rw[bg]at ht;rcases q_7.mp ht with z|z;·have h1:=hr t z;have h2:t.1<q.p:=c.2 t z;exact⟨by omega,by omega,λw=>by omega⟩
  ·rw[q_1.mp z];refine⟨by show L.length<=_;omega,by show N.length<=_;omega,λ_ w=>⟨?_,λy lH=>by have:=hy y lH;omega⟩⟩;rcases s3 with⟨s4,_⟩|⟨_,L',y,e,_⟩;·rw[Jf s4]at w;cases w
   ·show L≠[];rw[e];simp
 unfold Wt XD;rw[if_pos ⟨rfl,by decide,by decide⟩];show(Ru [none,some q.d,QP x,some (QM M),none,none] m).map (·.2)=_;rw[key];rfl
theorem Good.split:∀{os qs:List Op}{m:SM},Good m (os++qs)->Good m os/\Good (os.foldl Zh m) qs|[],_,_,h=>⟨trivial,h⟩|_::_,_,_,h=>⟨⟨h.1,(Good.split h.2).1⟩,(Good.split h.2).2⟩
theorem Nv{α:Type}{g:Jk}{b:ZB SM}(d:α->D)(op:α->List Op)(R:QD->Prop):∀(xs:List α)(e:QD)(m:SM),R e->(∀a∈xs,∀e m,R e->Good m (op a)->m.length+(op a).length<1000->∃e1,g (d a) e=some e1/\∃e2,b e1 m=some (e2,(op a).foldl Zh m)/\R e2)->Good m (xs.flatMap op)->m.length+(xs.flatMap op).length<1000->∃e',Wd.loopR g b (xs.map d) e m=some (e',(xs.flatMap op).foldl Zh m)/\R e'|[],e,m,hR,_,_,_=>⟨e,rfl,hR⟩|a::xs,e,m,hR,hb,hg,hm=>by rw[Zi]at hg hm⊢;rw[Qg]at hm;obtain⟨g1,g2⟩:=hg.split;obtain⟨e1,h1,e2,h2,h3⟩:=hb a JN e m hR g1 (by omega);have ln:=g1.len;obtain⟨e',h4,h5⟩:=Nv d op R xs e2 _ h3 (λx hx=>hb x (JH _ hx)) g2 (by omega);refine⟨e',?_,h5⟩;rw[ZQ,Ts];show((g (d a) e).bind λe1=>(b e1 m).bind λr=>Wd.loopR g b (xs.map d) r.1 r.2)=_;rw[h1,ZA,h2];exact h4
def Ga{n:Int}(h0:0<=n)(h:n<10^60):D.strI (.int n)=QP (Y5 n):=by
 refine if_pos ?_;obtain⟨m,rfl⟩:∃m:Nat,n=m:=⟨n.toNat,by omega⟩;have h':m<10^60:=by
  have:((10^60:Nat):Int)=10^60:=by decide
  omega
 exact lt_trans h' (by decide+kernel)
def Gb{n:Int}(h0:0<=n)(h:n<10^60):(Y5 n).length<=60:=by
 rw[Gd h0];refine DE _ ?_;have:((10^60:Nat):Int)=10^60:=by decide
 omega
def N5{x y:Str}(h:x.length+y.length<=1000000):D.add (.str x) (.str y)=QP (x++y):=if_pos (lB h)
def S1(kv:List (Str×Int))(l:Str):Prop:=D.dget (JK kv) (.str l)=Q1 (JL kv l)/\1<=JL kv l/\JL kv l<10^60
def Cz{is:List It}{l a b:Str}(h:It.ref l a b∈is):l∈Qt is:=q_20.mpr ⟨_,q_45.mpr ⟨h,rfl⟩,rfl⟩
abbrev iE(is:List It)(pls:List Plc)(kv:List (Str×Int))(a b c:Option D):QD:=[none,QB (is.map It.d),some (QV pls),some (JK kv),a,b,c]
def Qbr(is:List It)(pls:List Plc)(kv:List (Str×Int))(m:SM)(hl:is.length<=100000)(ht:∀i∈is,X9 i)(hk:∀l∈Qt is,S1 kv l)(hg:Good m (R0 kv is pls))(hm:m.length+(R0 kv is pls).length<1000):PU [.lst (is.map It.d),QV pls,JK kv] m=some ((R0 kv is pls).foldl Zh m):=by
 have eo:R0 kv is pls=((is.filter Qs).zip pls).flatMap λx=>[XO kv x.1 x.2]:=List.map_eq_flatMap;rw[eo]at hg hm⊢;have hc:JB 1 [] (Ql (eV 1)) (gS 0) (eK WL (QZ (eV 0))) (eV 0) (iE is pls kv none none none)=QB ((is.filter Qs).map It.d):=GU is rfl (by omega);obtain⟨e',h1,h2⟩:=Nv (g:=Jb [gS 5,gS 6]) (b:=Wf (QG (Q2 5 0) (Q6 "ref")) (Va Wt (Qu (eV 6) (QJ (QJ (Q2 5 2) (QE D.strI (Q4 D.dget (eV 3) (Q2 5 1)))) (Q2 5 3)) (QS (lN)))) (Va Wt (Qu (eV 6) (Q2 5 1) (Q2 5 2)))) (λx:It×Plc=>D.tup [x.1.d,x.2.d]) (λx=>[XO kv x.1 x.2]) (λe=>∃u v,e=(iE is pls kv (QB ((is.filter Qs).map It.d)) u v)) ((is.filter Qs).zip pls) (iE is pls kv (QB ((is.filter Qs).map It.d)) none none) m ⟨none,none,rfl⟩ (by
  rintro⟨i,q⟩hx e m⟨u,v,rfl⟩hg hm;have hi:=q_45.mp (WT hx).1;refine⟨(iE is pls kv (QB ((is.filter Qs).map It.d)) (some i.d) (some q.d)),rfl,(iE is pls kv (QB ((is.filter Qs).map It.d)) (some i.d) (some q.d)),?_,_,_,rfl⟩;have tg:QG (Q2 5 0) (Q6 "ref") (iE is pls kv (QB ((is.filter Qs).map It.d)) (some i.d) (some q.d))=QL (ZT i):=by
   rw[<-L7];exact Q0 (Q0 (x:=i.d) rfl rfl (Uj i)) rfl (QO _ _)
  have tt:=ht i hi.1;have dj:m.length<1000:=by omega
  unfold Wf;rw[tg];cases i with
  |word x ns=>
   have wa:=EI q x ns m hg.1 dj;show(if _ then(Option.bind _ λds=>(Wt ds m).map λm'=>(_,m'))else none)=_;rw[if_pos (by simp)];show((Wt [q.d,.str x,QM ns] m).map λm'=>(_,m'))=_;rw[wa];rfl|ref l a b=>obtain⟨k1,k2,k3⟩:=hk l (Cz hi.1);have wa:=EI q (a++Y5 (JL kv l)++b) [] m hg.1 dj;have t1:a.length<=1000/\b.length<=1000:=tt;have sl:=Gb (n:=JL kv l) (by omega) k3;have ex:QJ (QJ (Q2 5 2) (QE D.strI (Q4 D.dget (eV 3) (Q2 5 1)))) (Q2 5 3) (iE is pls kv (QB ((is.filter Qs).map It.d)) (some (It.ref l a b).d) (some q.d))=QP (a++Y5 (JL kv l)++b):=Q0 (Q0 (x:=.str a) rfl (JO (Q0 (x:=JK kv) (y:=.str l) rfl rfl k1) (Ga (by omega) k3)) (N5 (by omega))) (y:=.str b) rfl (N5 (by rw[Yx];omega));show(if _ then(Option.bind _ λds=>(Wt ds m).map λm'=>(_,m'))else none)=_;rw[if_pos (by simp)];have ll:(Qu (eV 6) (QJ (QJ (Q2 5 2) (QE D.strI (Q4 D.dget (eV 3) (Q2 5 1)))) (Q2 5 3)) (QS (lN))) (iE is pls kv (QB ((is.filter Qs).map It.d)) (some (It.ref l a b).d) (some q.d))=some [q.d,.str (a++Y5 (JL kv l)++b),QM []]:=lc rfl (lc ex rfl);rw[ll,ZA,wa];rfl|mark l=>cases hi.2|key l=>cases hi.2) hg hm;have z:WN (eV 4) (eV 2) (iE is pls kv (QB ((is.filter Qs).map It.d)) none none)=some (((is.filter Qs).zip pls).map λx=>D.tup [x.1.d,x.2.d]):=by show some (V5 ((is.filter Qs).map It.d) (pls.map Plc.d))=_;rw[Rf]
 have key:Rr (iE is pls kv none none none) m=some (e',(((is.filter Qs).zip pls).flatMap λx=>[XO kv x.1 x.2]).foldl Zh m):=by
  unfold Rr U3 N8;rw[Qf (e1:=(iE is pls kv (QB ((is.filter Qs).map It.d)) none none)) hc rfl];show(Option.bind (if _ then some (_,m)else none) λr=>_)=_;rw[if_pos (by simp),ZA];unfold RJ;dsimp only;rw[z,ZA];exact h1
 unfold PU XD;rw[if_pos ⟨rfl,by decide,by decide⟩];show(Rr (iE is pls kv none none none) m).map (·.2)=_;rw[key];rfl
def SA{f:List D->SM->Option SM}{l:Z4}{e:QD}{m m':SM}{ds:List D}(hl:l e=some ds)(hf:f ds m=some m')(he:e.length<=1000):Va f l e m=some (e,m'):=by unfold Va;rw[if_pos he,hl,ZA,hf];rfl
def Nl{cv:Q8}{a b:ZB SM}{e:QD}{m:SM}{r:Option (QD×SM)}(h:cv e=QL true)(ha:a e m=r):Wf cv a b e m=r:=by unfold Wf;rw[h];exact ha
def Uh{cv:Q8}{a b:ZB SM}{e:QD}{m:SM}{r:Option (QD×SM)}(h:cv e=QL false)(ha:b e m=r):Wf cv a b e m=r:=by unfold Wf;rw[h];exact ha
def Th{pls:List Plc}(h:pls.length=1):∃q,pls=[q]:=List.length_eq_one_iff.mp h
def BC(x y:Str):D.neO (.str x) (.str y)=QL (!decide (x=y)):=by simp[D.neO,Zu,YS,D.cmpN]
def Qbq(b:Bk)(pls:List Plc)(kv:List (Str×Int))(m:SM)(hq:pls.length=VR b)(hl:(iO b).length<=100000)(ht:∀i∈iO b,X9 i)(hk:∀l∈Qt (iO b),S1 kv l)(hg:Good m (Ym kv (b,pls)))(hm:m.length+(Ym kv (b,pls)).length<1000):Sa [b.d,QV pls,JK kv] m=some ((Ym kv (b,pls)).foldl Zh m):=by
 have dj:m.length<1000:=by omega
 have tg:∀(x:Str),QG (Q2 1 0) (eC (.str x)) [none,some b.d,some (QV pls),some (JK kv)]=QL (decide (VH b=x)):=λx=>Q0 (Q0 (x:=b.d) rfl rfl (Ui b)) rfl (QO _ _);have tn:Yc (Q2 1 0) (Q6 "plates") [none,some b.d,some (QV pls),some (JK kv)]=QL (!decide (VH b=Str.ofString "plates")):=Q0 (Q0 (x:=b.d) rfl rfl (Ui b)) rfl (BC _ _);have key:Rq [none,some b.d,some (QV pls),some (JK kv)] m=some ([none,some b.d,some (QV pls),some (JK kv)],(Ym kv (b,pls)).foldl Zh m):=by unfold Rq;cases b with
  |para is=>
   refine Nl (tg _) (SA (ds:=[.lst (is.map It.d),QV pls,JK kv]) rfl ?_ (by simp));exact Qbr is pls kv m hl ht hk hg hm|table rs l=>obtain⟨q,rfl⟩:=Th hq;refine Uh (tg _) (Nl (tg _) (SA (ds:=[q.d,QM rs]) rfl ?_ (by simp)));exact N4 q rs m hg.1 dj|plates n l=>exact Uh (tg _) (Uh (tg _) (Uh tn rfl))|chapter t l=>obtain⟨q,rfl⟩:=Th hq;refine Uh (tg _) (Uh (tg _) (Nl tn (SA (ds:=[q.d,QM [t]]) rfl ?_ (by simp))));exact N4 q [t] m hg.1 dj|heading t k l=>obtain⟨q,rfl⟩:=Th hq;refine Uh (tg _) (Uh (tg _) (Nl tn (SA (ds:=[q.d,QM [t]]) rfl ?_ (by simp))));exact N4 q [t] m hg.1 dj
 unfold Sa XD;rw[if_pos ⟨rfl,by decide,by decide⟩];show(Rq [none,some b.d,some (QV pls),some (JK kv)] m).map (·.2)=_;rw[key];rfl
def QbI{t:Str}{p w:Int}(ht:t.length<=1000)(h0:0<=p)(hp:p<10^60)(hw:0<=w/\w<=1000):PY [.str t,.int p,.int w]=QP (T9 t p w):=by
 have sl:=Gb h0 hp;have l1:=Yw (x:=t) (by omega);have l2:=Yw (x:=Y5 p) (by omega);have dl:=DJ (w-t.length-2-(Y5 p).length);unfold PY KY;refine Qy rfl ?_;refine st (Qf (JO (x:=.int p) rfl (Ga h0 hp)) rfl) ?_;refine st (Qf (Q0 (x:=.str (Str.ofString ".")) rfl (Q0 (Q0 (Q0 (x:=.int w) rfl (JO (x:=.str t) rfl l1) rfl) rfl rfl) (JO (x:=.str (Y5 p)) rfl l2) rfl) (HR ⟨by omega,by omega,lB ?_⟩)) rfl) ?_;·rw[show(Str.ofString ".").length=1 from by decide+kernel];omega
 ·refine ret ?_;show D.fs3 (.str t) (.str (YC (Str.ofString ".") (w-t.length-2-(Y5 p).length))) (.str (Y5 p))=_;refine if_pos ⟨by omega,by rw[dl];omega,by omega⟩
noncomputable def YX(h:Int)(x:Int×List Str×List Str):List Str:=x.2.1++List.replicate (h-x.2.1.length-x.2.2.length).toNat (Str.ofString "")++x.2.2
def Qea(x:Int×List Str×List Str)(h:Int)(hh:0<=h/\h<=1000)(hx:(x.2.1.length:Int)+x.2.2.length<=h):NX [VY x,.int h]=some (QM (YX h x)):=by
 have lL:∀L:List Str,D.len (QM L)=Q1 L.length:=λL=>by show some (D.int ((L.map D.str).length:Int))=_;rw[Qm]
 have mu:D.mulA (.lst [.str (Str.ofString "")]) (.int (h-x.2.1.length-x.2.2.length))=some (QM (List.replicate (h-x.2.1.length-x.2.2.length).toNat (Str.ofString ""))):=by
  rw[B6 ⟨by omega,by omega,lB (by simp;omega)⟩];unfold QM;rw[List.map_replicate];simp
 unfold NX Kc;refine Qy rfl ?_;refine st (Qf (Q0 (Q0 (x:=.int h) rfl (JO (Q0 (x:=VY x) (y:=.int 0) rfl rfl (show D.ix (VY x) (.int 0)=some (QM x.2.1)from rfl)) (lL _)) rfl) (JO (Q0 (x:=VY x) (y:=.int 1) rfl rfl (show D.ix (VY x) (.int 1)=some (QM x.2.2)from rfl)) (lL _)) rfl) rfl) ?_;refine ret (Q0 (Q0 (Q0 (x:=VY x) (y:=.int 0) rfl rfl (show D.ix (VY x) (.int 0)=some (QM x.2.1)from rfl)) (Q0 (x:=.lst [.str (Str.ofString "")]) rfl rfl mu) (S3 (f:=D.str) (lB (by simp;omega)))) (Q0 (x:=VY x) (y:=.int 1) rfl rfl (show D.ix (VY x) (.int 1)=some (QM x.2.2)from rfl)) (S3 (f:=D.str) (lB (by simp;omega))))
theorem DB:∀(m:SM),m.Pairwise (λa b=>a.1<b.1)->∀x∈m,D.dget (Uz m) (.int x.1)=some (VY x)
 |[],_,_,h=>nomatch h|y::m,hp,x,hx=>by
  obtain⟨h1,h2⟩:=List.pairwise_cons.mp hp;show(if(Sum.inl y.1:Kd)=.inl x.1 then some (VY y)else XC (m.map λx=>.inl x.1) (m.map VY) (.inl x.1))=_;rcases q_5.mp hx with z|z;·subst z;rw[if_pos rfl]
  ·have:=h1 x z;rw[if_neg (λw=>by have:=Sum.inl.inj w;omega)];exact DB m h2 x z
def VX(h:Int)(x:Int×List Str×List Str):D:=.tup [.int x.1,QM (YX h x)]
abbrev rE(bs:List Bk)(w h:Int)(o li:Bool)(c:List Plc)(rows:List (List Plc))(kv:List (Str×Int))(a b d e f:Option D):QD:=[some (Q7 bs),some (QR w h o li),some (J0 (c::rows)),some (JK kv),a,b,d,e,f]
def QhO(w h:Int)(o li:Bool)(bs:List Bk)(c:List Plc)(rows:List (List Plc))(kv T:List (Str×Int))(hw:0<=w/\w<=100)(hh:0<=h/\h<=100)(sl:Pl [Q7 bs,QR w h o li]=some (J0 (c::rows)))(lp:UE [Q7 bs,J0 (c::rows)]=some (JK kv))(tp:Sh [Q7 bs,J0 (c::rows)]=some (W7 T))(hf:YM bs)(hq:∀q∈bs.zip rows,q.2.length=VR q.1)(ht:∀b∈bs,T4 b)(hk:∀l∈rO bs,S1 kv l)(hT:∀t∈T,t.1.length<=1000/\0<=t.2/\t.2<10^60)(hg:Good [] (WS w c T++(bs.zip rows).flatMap (Ym kv)))(hm:(WS w c T).length+((bs.zip rows).flatMap (Ym kv)).length<1000)(M:SM)(eM:M=(WS w c T++(bs.zip rows).flatMap (Ym kv)).foldl Zh [])(up:M.Pairwise λa b=>a.1<b.1)(hi:∀x∈M,(x.2.1.length:Int)+x.2.2.length<=h):Se [Q7 bs,QR w h o li]=QB (M.map (VX h)):=by
 obtain⟨g1,g2⟩:=hg.split;have eo:WS w c T=(c.zip T).flatMap λx=>[Hg w x.1 x.2]:=List.map_eq_flatMap;have Ml:M.length<1000:=by rw[eM];have:=hg.len;rw[Qg,WU]at this;omega
 have ku:=g1.len;rw[Ts]at eM;rw[eo]at g1 hm g2 eM ku;obtain⟨e1,h1,u1,v1,mI⟩:=Nv (g:=Jb [gS 5,gS 6]) (b:=Va Xg (lC (eV 5) (lC (QS (QZ (eK PY (Qu (Q2 6 0) (Q2 6 1) (Q2 1 0))))) lN))) (λx:Plc×(Str×Int)=>D.tup [x.1.d,Tu x.2.1 x.2.2]) (λx=>[Hg w x.1 x.2]) (λe=>∃u v,e=(rE bs w h o li c rows kv none u v none none)) (c.zip T) (rE bs w h o li c rows kv none none none none none) [] ⟨none,none,rfl⟩ (by rintro⟨q,t⟩hx e m⟨u,v,rfl⟩hg hm;have cQ:t∈T:=(WT hx).2;obtain⟨t1,t2,t3⟩:=hT t cQ;refine⟨(rE bs w h o li c rows kv none (some q.d) (some (Tu t.1 t.2)) none none),rfl,_,SA (ds:=[q.d,QM [T9 t.1 t.2 w]]) (lc rfl (lc (QfE (Zk (x:=.str t.1) (y:=.int t.2) (z:=.int w) rfl rfl rfl (QbI t1 t2 t3 ⟨hw.1,by omega⟩))) rfl)) (N4 q [T9 t.1 t.2 w] m hg.1 (by omega)) (by simp),_,_,rfl⟩) g1 (by simp only[WU,zero_add];omega);subst mI;obtain⟨e2,h2,u2,v2,cW⟩:=Nv (g:=Jb [gS 7,gS 8]) (b:=Va Sa (Qu (eV 7) (eV 8) (eV 3))) (λq:Bk×List Plc=>D.tup [q.1.d,QV q.2]) (Ym kv) (λe=>∃u v,e=(rE bs w h o li c rows kv none u1 v1 u v)) (bs.zip rows) (rE bs w h o li c rows kv none u1 v1 none none) _ ⟨none,none,rfl⟩ (by rintro⟨b,pls⟩hx e m⟨u,v,rfl⟩hg hm;have hb:=(WT hx).1;refine⟨(rE bs w h o li c rows kv none u1 v1 (some b.d) (some (QV pls))),rfl,_,SA (ds:=[b.d,QV pls,JK kv]) rfl (Qbq b pls kv m (hq _ hx) (Wv hf b hb) (ht b hb) (λl hl=>hk l (q_52.mpr ⟨b,hb,hl⟩)) hg hm) (by simp),_,_,rfl⟩) g2 (by simp only[WU,zero_add]at ku;omega);subst cW;rw[<-eM]at h2;unfold Se Ky;refine Qy rfl ?_;refine st (e1:=[some (Q7 bs),some (QR w h o li),some (J0 (c::rows)),none,none,none,none,none,none]) (Qf (Z0 rfl rfl sl) rfl) ?_;refine st (e1:=(rE bs w h o li c rows kv none none none none none)) (Qf (Z0 rfl rfl lp) rfl) ?_;refine st (e1:=(rE bs w h o li c rows kv (some (.dic [] [])) none none none none)) rfl ?_;refine st (e1:=(rE bs w h o li c rows kv (some (Uz M)) u1 v1 u2 v2)) ?_ ?_
 ·unfold RK;show(if _ then Option.bind (U3 _ _ (rE bs w h o li c rows kv none none none none none) []) _ else none)=_;rw[if_pos (by simp)];have z1:WN (Q2 2 0) (eK Sh (Qc (eV 0) (eV 2))) (rE bs w h o li c rows kv none none none none none)=some ((c.zip T).map λx=>D.tup [x.1.d,Tu x.2.1 x.2.2]):=by
   have hx:Q2 2 0 (rE bs w h o li c rows kv none none none none none)=some (QV c):=Q0 (x:=J0 (c::rows)) (y:=.int 0) rfl rfl (LA (c::rows) 0 (by simp));unfold WN;rw[hx,Z0 (x:=Q7 bs) (y:=J0 (c::rows)) rfl rfl tp];show some (V5 (c.map Plc.d) (T.map λx=>Tu x.1 x.2))=_;rw[Rf]
  have z2:WN (eV 0) (ZK (eV 2) (Z9 (Q5 1)) Zz) (rE bs w h o li c rows kv none u1 v1 none none)=some ((bs.zip rows).map λq=>D.tup [q.1.d,QV q.2]):=by
   have hc:ZK (eV 2) (Z9 (Q5 1)) Zz (rE bs w h o li c rows kv none u1 v1 none none)=some (J0 rows):=Ia c rows;unfold WN;rw[hc];show some (V5 (bs.map Bk.d) (rows.map QV))=_;rw[Rf]
  unfold U3 RJ;rw[z1,ZA,h1,ZA];dsimp only;rw[z2,ZA,h2];rfl
 ·refine ret (Eq.trans (Yh (λx:Int×List Str×List Str=>D.int x.1) M (λe=>∃a,e=[a,some (Uz M),some (QR w h o li)]) (λ_=>true) (VX h) ?_ (lB (by omega)) ⟨none,rfl⟩ ?_) (by rw[XM]))
  ·show some ((M.map λx=>(Sum.inl x.1:Kd)).map kD)=_;rw[W5];rfl
  ·rintro x hx e⟨a,rfl⟩;exact⟨[Q1 x.1,some (Uz M),some (QR w h o li)],rfl,⟨_,rfl⟩,rfl,λ_=>Ov rfl (Z0 (Q0 (x:=Uz M) (y:=.int x.1) rfl rfl (DB M up x hx)) (Q0 (x:=QR w h o li) (y:=.int 1) rfl rfl rfl) (Qea x h ⟨hh.1,by omega⟩ (hi x hx)))⟩
theorem QaG:∀(bs:List Bk)(rows:List (List Plc)),rows.length=bs.length->((bs.zip rows).flatMap Ye).length=(bs.filter Vx).length|[],_,_=>rfl|b::bs,[],h=>by cases h|b::bs,r::rows,h=>by have ih:=QaG bs rows (by simpa using h);rw[Ur,Zi,Qg,ih];cases b<;>simp[Ye,filter_cons,Vx]<;>omega
def QfI{q:Bk×List Plc}{t:Str×Int}(h:t∈Ye q):((∃l,q.1=.chapter t.1 l)\/∃k l,q.1=.heading t.1 k l)/\t.2=(q.2.getD 0 ⟨0,0,0⟩).p:=by obtain⟨b,r⟩:=q;cases b with|chapter a l=>rw[show Ye (Bk.chapter a l,r)=[(a,(r.getD 0 ⟨0,0,0⟩).p)]from rfl,q_1]at h;subst h;exact⟨.inl ⟨l,rfl⟩,rfl⟩|heading a k l=>rw[show Ye (Bk.heading a k l,r)=[(a,(r.getD 0 ⟨0,0,0⟩).p)]from rfl,q_1]at h;subst h;exact⟨.inr ⟨k,l,rfl⟩,rfl⟩|_=>cases h
def Qb6{w h:Int}(o li:Bool)(bs:List Bk)(T:List (Str×Int))(hb:w<=100/\h<=100)(hw:0<=w)(hh:1<=h)(hT:T.length=(bs.filter Vx).length)(ht:∀t∈T,(t.1.length:Int)+2+(Y5 t.2).length<=w):Run w h [] (WS w (ZR h o li bs).1 T) (ZR h o li bs).2/\(ZR h o li bs).1.length=if li then T.length else 0:=by
 have i0:ShOk w h (Jl 1) []:=⟨[],[],[],⟨⟨.inl ⟨rfl,rfl,rfl⟩,λ_ z=>nomatch z⟩,rfl,rfl,λz=>absurd rfl z,.nil,(λ_ z=>nomatch z),(λ_ z=>nomatch z),(λ_ z=>nomatch z)⟩⟩;have s0:J9 w h (Jl 1):=NA hw (by omega);unfold ZR;cases li with
 |false=>exact⟨Run.nil i0 s0,rfl⟩|true=>
  obtain⟨new,e1,e2,e3⟩:=IY hb hh bs T [] (Jl 1) [] i0 s0 hT ht;have iD:(Yi h bs).1=new:=e1;have iB:Run w h [] (WS w new T) (Yi h bs).2:=e3;rw[if_pos rfl];show Run w h [] (WS w (Yi h bs).1 T) (if(Yi h bs).1.length>0 then Z2 o (Yi h bs).2 else(Yi h bs).2)/\(Yi h bs).1.length=T.length;rw[iD];refine⟨?_,e2⟩;split;·exact⟨iB.good,iB.ok.chapter o iB.st hw (by omega),BG o _ hw (by omega)⟩
  ·exact iB
structure Book(ns lo:List Int)(c:List Plc)(rows:List (List Plc))(T:List (Str×Int))(M:SM):Prop where
 set_:Ux ns lo=c::rows
 len:rows.length=(QH ns).length
 pls:∀q∈(QH ns).zip rows,q.2.length=VR q.1/\∀x∈q.2,1<=x.p/\x.p<=Z1 ns
 eT:T=((QH ns).zip rows).flatMap Ye
 tit:∀t∈T,(t.1.length:Int)+2+(Y5 t.2).length<=dW ns/\1<=t.2/\t.2<=Z1 ns
 cl:c.length=if JI ns then T.length else 0
 good:Good [] (WS (dW ns) c T++((QH ns).zip rows).flatMap (Ym (ZD ns lo)))eM:M=(WS (dW ns) c T++((QH ns).zip rows).flatMap (Ym (ZD ns lo))).foldl Zh []up:M.Pairwise λa b=>a.1<b.1
 hi:∀x∈M,(x.2.1.length:Int)+x.2.2.length<=dH ns
 wid:∀x∈M,∀y∈x.2.1,(y.length:Int)<=dW ns
def HH(ns lo:List Int)(b4:Box ns lo):∀l∈rO (QH ns),S1 (ZD ns lo) l/\(Jw (JL (ZD ns lo) l).toNat:Int)<=dR ns:=λl hl=>by obtain⟨_,_,k1,k2⟩:=Uy ns lo b4.1;obtain⟨a1,a2,a3,a4,a5⟩:=Iq ns (ZD ns lo) k1 k2 l hl;exact⟨⟨a1,a2,a3⟩,a5⟩
def QbH(ns lo:List Int)(b4:Box ns lo)(fx:ZS ns lo=lo):∃c rows T M,Book ns lo c rows T M:=by
 have hh:=Wi ns;have hw:=UY ns;have hr:=TJ ns;obtain⟨c,rows,e1,e2,e3⟩:=GS (dW ns) (dH ns) (dO ns) (JI ns) lo (QH ns) (by omega) (λb hb=>(XB ns b hb).2.2);rw[NH]at e3;have tit:∀t∈((QH ns).zip rows).flatMap Ye,(t.1.length:Int)+2+(Y5 t.2).length<=dW ns/\1<=t.2/\t.2<=Z1 ns:=λt ht=>by
  obtain⟨q,hq,l6⟩:=q_52.mp ht;obtain⟨m1,m2⟩:=QfI l6;obtain⟨p1,p2⟩:=e3 q hq;have f1:=Ry ns q.1 (WT hq).1;have n1:VR q.1=1:=by rcases m1 with⟨l,z⟩|⟨k,l,z⟩<;>rw[z]<;>rfl
  obtain⟨y,hy⟩:=Th (p1.trans n1);have py:=p2 y (by rw[hy];exact q_1.mpr rfl);rw[hy]at m2;have m2':t.2=y.p:=m2;have dl:(Jw t.2.toNat:Int)<=dR ns:=by unfold dR;exact Int.ofNat_le.mpr (DF (by omega))
  refine⟨?_,by omega,by omega⟩;rw[Gd (by omega)];rcases m1 with⟨l,z⟩|⟨k,l,z⟩;·rw[z]at f1;have:(t.1.length:Int)+2+dR ns<=dW ns:=f1;omega
  ·rw[z]at f1;have:(t.1.length:Int)+2+dR ns<=dW ns:=f1.1;omega
 obtain⟨cr,cl⟩:=Qb6 (w:=dW ns) (h:=dH ns) (dO ns) (JI ns) (QH ns) (((QH ns).zip rows).flatMap Ye) ⟨by omega,by omega⟩ (by omega) (by omega) (QaG _ _ e2) (λt ht=>(tit t ht).1);obtain⟨new,f1,f2,f3⟩:=Ef (w:=dW ns) (h:=dH ns) (dR ns) (ZD ns lo) lo (dO ns) ⟨by omega,by omega⟩ (by omega) (by omega) (by omega) (QH ns) [(ZR (dH ns) (dO ns) (JI ns) (QH ns)).1] _ 0 _ cr.ok cr.st (Ry ns) (NF ns) (λj l hj=>by
  have hl:l∈rO (QH ns):=Yo hj;obtain⟨⟨k1,k2,k3⟩,k4⟩:=HH ns lo b4 l hl;refine⟨?_,k2,k4⟩;have:lo.getD (0+j) 0=(ZS ns lo).getD j 0:=by rw[fx,zero_add]
  rw[this];unfold ZS;rw[YU,Yb,hj];rfl);have jg:c::rows=(ZR (dH ns) (dO ns) (JI ns) (QH ns)).1::new:=e1.symm.trans f1;obtain⟨rfl,rfl⟩:=List.cons.inj jg;have run:=cr.app f3;obtain⟨r,L,N,ik⟩:=run.ok;have al:=ik.all run.st;exact⟨_,_,_,_,e1,e2,e3,rfl,tit,cl,run.good,rfl,al.1,al.2.1,al.2.2⟩
def QhM(kv:List (Str×Int))(q:Bk×List Plc):(Ym kv q).length<=1+(iO q.1).length:=by obtain⟨b,r⟩:=q;cases b with|para is=>show(((is.filter Qs).zip r).map _).length<=1+is.length;rw[Qm,WY];have:=Ut Qs is;omega|_=>simp[Ym]
theorem BY(kv:List (Str×Int)):∀(bs:List Bk)(rows:List (List Plc)),((bs.zip rows).flatMap (Ym kv)).length<=bs.length+(bs.flatMap iO).length|[],_=>WV _|_::_,[]=>WV _|b::bs,r::rows=>by have ih:=BY kv bs rows;have h1:=QhM kv (b,r);have fg:(Ym kv (b,r)).length<=1+(iO b).length:=h1;rw[Ur,Zi,Zi,Qg,Qg,JM];omega
def Pn(ns:List Int):(QH ns).length<=119/\((QH ns).flatMap iO).length<=119:=by have h1:=TU ns (dW ns) (dH ns) (JI ns);have h2:=SG ns;unfold QH;rw[YI,Qg,Qg];omega
section
variable{ns lo:List Int}{c:List Plc}{rows:List (List Plc)}{T:List (Str×Int)}{M:SM}
def Book.ops(k:Book ns lo c rows T M):(WS (dW ns) c T).length+(((QH ns).zip rows).flatMap (Ym (ZD ns lo))).length<=400:=by
 have h1:=BY (ZD ns lo) (QH ns) rows;have h2:=Pn ns;have h3:(WS (dW ns) c T).length<=T.length:=by unfold WS;rw[Qm,WY];omega
 have h4:T.length<=(QH ns).length:=by rw[k.eT];have:=Gk ((QH ns).zip rows);rw[WY]at this;omega
 omega
def QfN(ns:List Int):Z1 ns<10^60:=by
 have h1:=(P0 ns).2;have h2:(10:Int)^42<10^60:=by decide
 omega
def Book.rows_at(k:Book ns lo c rows T M)(b4:Box ns lo)(la:Tb [Q7 (QH ns),S0 ns]=QB (lo.map .int)):Se [Q7 (QH ns),S0 ns]=QB (M.map (VX (dH ns))):=by
 have hh:=Wi ns;have hw:=UY ns;have sb:=Uy ns lo b4.1;rw[k.set_]at sb;have fw:=Xb ns;have sl:Pl [Q7 (QH ns),S0 ns]=some (J0 (c::rows)):=by
  unfold Pl IK;exact Qy rfl (ret (Zk rfl rfl (Z0 rfl rfl la) sb.1))
 have tp:=Qj1 (QH ns) c rows fw k.len (λq hq=>(k.pls q hq).1);rw[<-k.eT]at tp;have ko:=k.ops;have m60:=QfN ns;exact QhO (dW ns) (dH ns) (dO ns) (JI ns) (QH ns) c rows (ZD ns lo) T ⟨by omega,by omega⟩ ⟨by omega,by omega⟩ sl sb.2.1 tp fw (λq hq=>(k.pls q hq).1) (λb hb=>(XB ns b hb).2.1) (λl hl=>(HH ns lo b4 l hl).1) (λt ht=>by obtain⟨t1,t2,t3⟩:=k.tit t ht;exact⟨by omega,by omega,by omega⟩) k.good (by omega) M k.eM k.up k.hi
end
def C6{it:ZH}{g:Jk}{b:QF}{e:QD}(n:Nat)(R:Nat->QD->Prop)(hit:it e=some (rD 0 n))(h0:R 0 e)(hb:∀i,i<n->∀e,R i e->∃e',((g (.int (0+(i:Int))) e).bind b=some (.nx e')\/(g (.int (0+(i:Int))) e).bind b=some (.ct e'))/\R (i+1) e'):∃e',Qz it g b e=some (.nx e')/\R n e':=by obtain⟨e',h1,h2⟩:=Ct n R hb e h0;refine⟨e',?_,h2⟩;unfold Qz;rw[hit,ZA,h1]
def tD(t:Plc×Str×List Str):D:=.tup [t.1.d,.str t.2.1,QM t.2.2]
def V4(kv:List (Str×Int))(q:Bk×List Plc):List (Plc×Str×List Str):=(Ym kv q).flatMap T2
def RZ(kv:List (Str×Int))(x:It×Plc):Plc×Str×List Str:=match x.1 with|.ref l a b=>(x.2,a++Y5 (JL kv l)++b,[])|.word y ns=>(x.2,y,ns)|_=>(x.2,Str.ofString "",[])
def QaD(kv:List (Str×Int))(x:It×Plc):T2 (XO kv x.1 x.2)=[RZ kv x]:=by obtain⟨i,q⟩:=x;cases i<;>rfl
def QaC(kv:List (Str×Int))(is:List It)(pls:List Plc):V4 kv (.para is,pls)=((is.filter Qs).zip pls).map (RZ kv):=by show(((is.filter Qs).zip pls).map λx=>XO kv x.1 x.2).flatMap T2=_;rw[List.flatMap_map];simp only[QaD];exact List.map_eq_flatMap.symm
abbrev Ou:Q8:=J7 (eV 1) (QJ (eV 6) (Q5 1))
abbrev T1(x:Str):Q8:=QG (Q2 7 0) (eC (.str x))
abbrev th1:QF:=QC (J8 (T1 "chapter") (T1 "heading")) (sP 5 (QT (Qu (ZZ Ou 0) (Q2 7 1) (QS lN)))) QK
abbrev th2:QF:=QC (T1 "table") (sQ (QA (ZZ Ou 0) (Jb [gS 4,gS 8,gS 9])) (Qz (ZM (QE D.len (Q2 7 1))) (gS 10) (sP 5 (QT (Qu (QT (Qu (eV 4) (QJ (eV 8) (eV 10)) (eV 9))) (J7 (Q2 7 1) (eV 10)) (QS lN)))))) QK
abbrev QaB:QF:=QC (QG (ZZ (J7 (eV 11) (eV 10)) 0) (Q6 "word")) (sP 5 (QT (Qu (J7 Ou (eV 10)) (ZZ (J7 (eV 11) (eV 10)) 1) (ZZ (J7 (eV 11) (eV 10)) 2)))) (sQ (QA (J7 (eV 11) (eV 10)) (Jb [gS 12,gS 3,gS 13,gS 14])) (sP 5 (QT (Qu (J7 Ou (eV 10)) (QJ (QJ (eV 13) (QE D.strI (Q4 D.dget (eV 2) (eV 3)))) (eV 14)) (QS lN)))))
abbrev th3:QF:=QC (T1 "para") (sQ (QA (JB 1 [] (Ql (Q2 7 1)) (gS 0) (J8 (QG (Q2 0 0) (Q6 "word")) (QG (Q2 0 0) (Q6 "ref"))) (eV 0)) (gS 11)) (Qz (ZM (QE D.len (eV 11))) (gS 10) QaB)) QK
def Cp(L:List Str):D.len (QM L)=Q1 L.length:=by show some (D.int ((L.map D.str).length:Int))=_;rw[Qm]
def Ca(L:List Str)(j:Nat)(h:j<L.length):D.ix (QM L) (.int (0+(j:Int)))=some (.str L[j]):=by have:=WO (f:=D.str) L (0+(j:Int)) (Str.ofString "") (by omega) (by omega);unfold QM;rw[this,show(0+(j:Int)).toNat=j by omega,YU,Qk h];rfl
def QeS(L:List It)(j:Nat)(h:j<L.length):D.ix (.lst (L.map It.d)) (.int (0+(j:Int)))=some L[j].d:=by have:=WO (f:=It.d) L (0+(j:Int)) (.mark (Str.ofString "")) (by omega) (by omega);rw[this,show(0+(j:Int)).toNat=j by omega,YU,Qk h];rfl
def QeV(L:List Plc)(j:Nat)(h:j<L.length):D.ix (QV L) (.int (0+(j:Int)))=some L[j].d:=by rw[CY L j h,YU,Qk h];rfl
def Qaz{α β:Type}(f:α->β)(xs:List α)(F:List β)(j:Nat)(h:j<xs.length):F++(xs.take (j+1)).map f=F++(xs.take j).map f++[f xs[j]]:=by rw[<-Ol h,Zr,VF];rfl
abbrev wE(B T:D)(kv:List (Str×Int))(a b:Option D)(F:List (Plc×Str×List Str))(c d e f g i j k l:Option D):QD:=[some B,some T,some (JK kv),a,b,QB (F.map tD),c,d,e,f,g,i,j,k,l]
def QjZ(BS TT:D)(kv:List (Str×Int))(b:Bk)(pls:List Plc)(K:Int)(F:List (Plc×Str×List Str))(hT:D.ix TT (.int (K+1))=some (QV pls))(hq:pls.length=VR b)(hl:(iO b).length<=100000)(ht:∀i∈iO b,X9 i)(hs:UW b)(hk:∀l∈Qt (iO b),S1 kv l)(hF:F.length<=300000)(a3 a4 a8 a9 cG bN bY bX bW:Option D):∃b3 b4 b8 b9 jr jq jo jn jm,sQ th1 (sQ th2 th3) (wE BS TT kv a3 a4 F (Q1 K) (some b.d) a8 a9 cG bN bY bX bW)=some (.nx (wE BS TT kv b3 b4 ((F++V4 kv (b,pls))) (Q1 K) (some b.d) b8 b9 jr jq jo jn jm)):=by
 have tg:∀(x:Str)(c0 c1 c2 c3 c4 c5 c6:Option D)(t:QD),T1 x (c0::c1::c2::c3::c4::c5::c6::some b.d::t)=QL (decide (VH b=x)):=λx c0 c1 c2 c3 c4 c5 c6 t=>Q0 (Q0 (x:=b.d) rfl rfl (Ui b)) rfl (QO _ _);have hP:∀(c0 c2 c3 c4 c5:Option D)(t:QD),Ou (c0::some TT::c2::c3::c4::c5::Q1 K::t)=some (QV pls):=λc0 c2 c3 c4 c5 t=>Q0 (x:=TT) (y:=.int (K+1)) rfl rfl hT;have dY:decide (VH b=Str.ofString "table")=false->∀e:QD,(∀x,T1 x e=QL (decide (VH b=x)))->th2 e=some (.nx e):=λh e he=>QN (by rw[he,h]) rfl;have dZ:decide (VH b=Str.ofString "para")=false->∀e:QD,(∀x,T1 x e=QL (decide (VH b=x)))->th3 e=some (.nx e):=λh e he=>QN (by rw[he,h]) rfl;have fk:decide (VH b=Str.ofString "chapter")=false->decide (VH b=Str.ofString "heading")=false->∀e:QD,(∀x,T1 x e=QL (decide (VH b=x)))->th1 e=some (.nx e):=λh h' e he=>QN (VV (by rw[he,h]) (by rw[he,h'])) rfl;cases b with
 |chapter t l=>
  obtain⟨q,rfl⟩:=Th hq;refine⟨a3,a4,a8,a9,cG,bN,bY,bX,bW,?_⟩;refine st (e1:=(wE BS TT kv a3 a4 ((F++V4 kv (.chapter t l,[q]))) (Q1 K) (some (Bk.chapter t l).d) a8 a9 cG bN bY bX bW)) (Qr (R1 (tg _ _ _ _ _ _ _ _ _)) ?_) (st (dY rfl _ λx=>tg x _ _ _ _ _ _ _ _) (dZ rfl _ λx=>tg x _ _ _ _ _ _ _ _));have e:V4 kv (.chapter t l,[q])=[(⟨q.p,q.l+((0:Nat):Int),q.c⟩,t,[])]:=rfl;rw[e,show q.l+((0:Nat):Int)=q.l from add_zero _];exact Zt (x:=.lst (F.map tD)) (d:=tD (q,t,[])) rfl (W8 (Q0 (hP _ _ _ _ _ _) rfl (pl0 q [])) (Q0 (x:=(Bk.chapter t l).d) rfl rfl rfl) rfl) (WA (f:=tD) (q,t,[]) (Zx (by omega)))|heading t k l=>obtain⟨q,rfl⟩:=Th hq;refine⟨a3,a4,a8,a9,cG,bN,bY,bX,bW,?_⟩;refine st (e1:=(wE BS TT kv a3 a4 ((F++V4 kv (.heading t k l,[q]))) (Q1 K) (some (Bk.heading t k l).d) a8 a9 cG bN bY bX bW)) (Qr (VV (tg _ _ _ _ _ _ _ _ _) (tg _ _ _ _ _ _ _ _ _)) ?_) (st (dY rfl _ λx=>tg x _ _ _ _ _ _ _ _) (dZ rfl _ λx=>tg x _ _ _ _ _ _ _ _));have e:V4 kv (.heading t k l,[q])=[(⟨q.p,q.l+((0:Nat):Int),q.c⟩,t,[])]:=rfl;rw[e,show q.l+((0:Nat):Int)=q.l from add_zero _];exact Zt (x:=.lst (F.map tD)) (d:=tD (q,t,[])) rfl (W8 (Q0 (hP _ _ _ _ _ _) rfl (pl0 q [])) (Q0 (x:=(Bk.heading t k l).d) rfl rfl rfl) rfl) (WA (f:=tD) (q,t,[]) (Zx (by omega)))|plates n l=>refine⟨a3,a4,a8,a9,cG,bN,bY,bX,bW,?_⟩;have e:V4 kv (.plates n l,pls)=[]:=rfl;rw[e,Zp];exact st (fk rfl rfl _ λx=>tg x _ _ _ _ _ _ _ _) (st (dY rfl _ λx=>tg x _ _ _ _ _ _ _ _) (dZ rfl _ λx=>tg x _ _ _ _ _ _ _ _))|table rs l=>
  obtain⟨q,rfl⟩:=Th hq;have kc:rs.length<=1000:=hs.1;have e:V4 kv (.table rs l,[q])=(rs.mapIdx λj x=>((⟨q.p,q.l+j,q.c⟩:Plc),x,([]:List Str))):=by show List.flatMap T2 [Op.ln q rs]=_;rw[List.flatMap_singleton];rfl
  rw[e];generalize hX:(rs.mapIdx λj x=>((⟨q.p,q.l+j,q.c⟩:Plc),x,([]:List Str)))=X;have lX:X.length=rs.length:=by rw[<-hX,List.length_mapIdx]
  obtain⟨e',h1,dP,h2⟩:=C6 (it:=ZM (QE D.len (Q2 7 1))) (g:=gS 10) (b:=sP 5 (QT (Qu (QT (Qu (eV 4) (QJ (eV 8) (eV 10)) (eV 9))) (J7 (Q2 7 1) (eV 10)) (QS (lN))))) (e:=(wE BS TT kv a3 (Q1 q.p) F (Q1 K) (some (Bk.table rs l).d) (Q1 q.l) (Q1 q.c) cG bN bY bX bW)) rs.length (λj e=>∃dP,e=(wE BS TT kv a3 (Q1 q.p) ((F++(X.take j).map id)) (Q1 K) (some (Bk.table rs l).d) (Q1 q.l) (Q1 q.c) dP bN bY bX bW)) (by unfold ZM;rw[JO (Q0 (x:=(Bk.table rs l).d) (y:=.int 1) rfl rfl rfl) (Cp rs)];exact if_pos (show(rs.length:Int).natAbs<4611686018427387904 by omega)) ⟨cG,by rw[take_zero,map_nil,Zp]⟩ (by
    rintro j hj e⟨dP,rfl⟩;refine⟨_,.inl (J6 (e1:=(wE BS TT kv a3 (Q1 q.p) ((F++(X.take j).map id)) (Q1 K) (some (Bk.table rs l).d) (Q1 q.l) (Q1 q.c) (Q1 (0+(j:Int))) bN bY bX bW)) rfl (Zt (x:=.lst ((F++(X.take j).map id).map tD)) (d:=tD (⟨q.p,q.l+(0+(j:Int)),q.c⟩,rs[j],[])) rfl (W8 (W8 rfl (Q0 rfl rfl rfl) rfl) (Q0 (Q0 (x:=(Bk.table rs l).d) (y:=.int 1) rfl rfl rfl) rfl (Ca rs j hj)) rfl) (WA (f:=tD) _ (Zx (by rw[Qg,Qm,YG];omega))))),Q1 (0+(j:Int)),?_⟩;have ex:X[j]'(by omega)=(⟨q.p,q.l+(0+(j:Int)),q.c⟩,rs[j],[]):=by
     subst hX;rw[List.getElem_mapIdx,Int.zero_add]
    rw[Qaz id X F j (by omega),ex];rfl);rw[<-lX,ZX,List.map_id]at h2;refine⟨a3,Q1 q.p,Q1 q.l,Q1 q.c,dP,bN,bY,bX,bW,?_⟩;refine st (fk rfl rfl _ λx=>tg x _ _ _ _ _ _ _ _) (st (Qr (tg _ _ _ _ _ _ _ _ _) (st (e1:=(wE BS TT kv a3 (Q1 q.p) F (Q1 K) (some (Bk.table rs l).d) (Q1 q.l) (Q1 q.c) cG bN bY bX bW)) (Qf (Q0 (hP _ _ _ _ _ _) rfl (pl0 q [])) rfl) (h2▸h1))) (dZ rfl _ λx=>tg x _ _ _ _ _ _ _ _))|para is=>
  rw[QaC];generalize hx:is.filter Qs=xs;have lx:xs.length=pls.length:=by rw[hq,<-hx];rfl
  have lz:(xs.zip pls).length=xs.length:=by rw[WY];omega
  have hxl:xs.length<=100000:=by rw[<-hx];exact ZP (Ut _ _) hl
  have hc:∀t:QD,JB 1 [] (Ql (Q2 7 1)) (gS 0) (J8 (QG (Q2 0 0) (Q6 "word")) (QG (Q2 0 0) (Q6 "ref"))) (eV 0) (wE BS TT kv a3 a4 F (Q1 K) (some (Bk.para is).d) a8 a9 cG bN bY bX bW)=QB (xs.map It.d):=λt=>by
   rw[<-hx];exact Qam is rfl (by have:is.length<=100000:=hl;omega)
  obtain⟨e',h1,x3,dP,d9,d8,d7,h2⟩:=C6 (it:=ZM (QE D.len (eV 11))) (g:=gS 10) (b:=QaB) (e:=(wE BS TT kv a3 a4 F (Q1 K) (some (Bk.para is).d) a8 a9 cG (QB (xs.map It.d)) bY bX bW)) xs.length (λj e=>∃x3 dP d9 d8 d7,e=(wE BS TT kv x3 a4 ((F++((xs.zip pls).take j).map (RZ kv))) (Q1 K) (some (Bk.para is).d) a8 a9 dP (QB (xs.map It.d)) d9 d8 d7)) (by unfold ZM;rw[JO (x:=.lst (xs.map It.d)) rfl (HI xs)];exact if_pos (show(xs.length:Int).natAbs<4611686018427387904 by omega)) ⟨a3,cG,bY,bX,bW,by rw[take_zero,map_nil,Zp]⟩ (by
    rintro j hj e⟨x3,dP,d9,d8,d7,rfl⟩;have mC:j<pls.length:=by omega
    have ap:=λy=>WA (f:=tD) (xs:=F++((xs.zip pls).take j).map (RZ kv)) y (Zx (by rw[Qg,Qm,YG];omega));rw[Qaz (RZ kv) (xs.zip pls) F j (by omega),getElem_zip];generalize F++((xs.zip pls).take j).map (RZ kv)=G at*;have hi:xs[j]∈is.filter Qs:=by rw[hx];exact ZY hj
    obtain⟨iq,eX⟩:=q_45.mp hi;have ii:=QeS xs j hj;have ip:=QeV pls j mC;generalize pls[j]=q at*;generalize xs[j]=it at*;have hI:∀(c0 c1 c2 c3 c4 c5 c6 c7 c8 c9:Option D)(t:QD),J7 (eV 11) (eV 10) (c0::c1::c2::c3::c4::c5::c6::c7::c8::c9::Q1 (0+(j:Int))::QB (xs.map It.d)::t)=some it.d:=λ_ _ _ _ _ _ _ _ _ _ _=>Q0 (x:=.lst (xs.map It.d)) (y:=.int (0+(j:Int))) rfl rfl ii;have jT:QG (ZZ (J7 (eV 11) (eV 10)) 0) (Q6 "word") (wE BS TT kv x3 a4 G (Q1 K) (some (Bk.para is).d) a8 a9 (Q1 (0+(j:Int))) (QB (xs.map It.d)) d9 d8 d7)=QL (Y2 it):=by
     rw[<-L8];exact Q0 (Q0 (hI _ _ _ _ _ _ _ _ _ _ _) rfl (Uj it)) rfl (QO _ _)
    cases it with|word x ns=>refine⟨_,.inl (J6 (e1:=(wE BS TT kv x3 a4 G (Q1 K) (some (Bk.para is).d) a8 a9 (Q1 (0+(j:Int))) (QB (xs.map It.d)) d9 d8 d7)) rfl (Qr jT (Zt (x:=.lst (G.map tD)) (d:=tD (q,x,ns)) rfl (W8 (Q0 (hP _ _ _ _ _ _) rfl ip) (Q0 (hI _ _ _ _ _ _ _ _ _ _ _) rfl rfl) (Q0 (hI _ _ _ _ _ _ _ _ _ _ _) rfl rfl)) (ap _)))),x3,Q1 (0+(j:Int)),d9,d8,d7,rfl⟩|ref l a b=>obtain⟨k1,k2,k3⟩:=hk l (Cz iq);have t1:a.length<=1000/\b.length<=1000:=ht _ iq;have sl:=Gb (n:=JL kv l) (by omega) k3;refine⟨_,.inl (J6 (e1:=(wE BS TT kv x3 a4 G (Q1 K) (some (Bk.para is).d) a8 a9 (Q1 (0+(j:Int))) (QB (xs.map It.d)) d9 d8 d7)) rfl (QN jT (st (e1:=(wE BS TT kv (QP l) a4 G (Q1 K) (some (Bk.para is).d) a8 a9 (Q1 (0+(j:Int))) (QB (xs.map It.d)) (QP "ref") (QP a) (QP b))) (Qf (hI _ _ _ _ _ _ _ _ _ _ _) rfl) (Zt (x:=.lst (G.map tD)) (d:=tD (q,a++Y5 (JL kv l)++b,[])) rfl (W8 (Q0 (hP _ _ _ _ _ _) rfl ip) (Q0 (Q0 (x:=.str a) rfl (JO (Q0 (x:=JK kv) (y:=.str l) rfl rfl k1) (Ga (by omega) k3)) (N5 (by omega))) (y:=.str b) rfl (N5 (by rw[Yx];omega))) rfl) (ap _))))),QP l,Q1 (0+(j:Int)),QP "ref",QP a,QP b,rfl⟩|mark l=>cases eX|key l=>cases eX);rw[<-lz,ZX]at h2;refine⟨x3,a4,a8,a9,dP,QB (xs.map It.d),d9,d8,d7,?_⟩;exact st (fk rfl rfl _ λx=>tg x _ _ _ _ _ _ _ _) (st (dY rfl _ λx=>tg x _ _ _ _ _ _ _ _) (Qr (tg _ _ _ _ _ _ _ _ _) (st (e1:=(wE BS TT kv a3 a4 F (Q1 K) (some (Bk.para is).d) a8 a9 cG (QB (xs.map It.d)) bY bX bW)) (Qf (hc []) rfl) (h2▸h1))))
def NN{i:Nat}{key val:Q8}{e:QD}{x y v z:D}(hv:val e=some v)(hx:eV i e=some x)(hy:key e=some y)(h:D.put x y v=some z):WZ i key val e=some (.nx (e.set i (some z))):=by unfold WZ;rw[hv,ZA,hx,ZA,hy,ZA,h];rfl
def QjY(bs:List Bk)(c:List Plc)(rows:List (List Plc))(kv:List (Str×Int))(ek:kv=(bs.zip rows).flatMap Jg)(hf:YM bs)(hr:rows.length=bs.length)(hs:∀q∈bs.zip rows,q.2.length=VR q.1)(ht:∀b∈bs,V7 (iO b))(hn:(kv.map (·.1)).Nodup)(hL:kv.length<=200000)(hS:∀b∈bs,UW b/\T4 b)(hk:∀l∈rO bs,S1 kv l)(hTL:((bs.zip rows).flatMap (V4 kv)).length<=200000):PR [Q7 bs,J0 (c::rows)]=QB (((bs.zip rows).flatMap (V4 kv)).map tD):=by
 have ha:=Qet bs c rows hf hr hs ht (by rw[<-ek];exact hL);rw[<-ek]at ha;have hz:(bs.zip rows).length=bs.length:=by rw[WY];omega
 have mH:=hf.1;unfold PR KQ;refine Qy rfl ?_;refine st (e1:=[some (Q7 bs),some (J0 (c::rows)),some (JK []),none,none,none,none,none,none,none,none,none,none,none,none]) rfl ?_;refine Vn Jj kv (λi e=>∃a b,e=[some (Q7 bs),some (J0 (c::rows)),some (JK (kv.take i)),a,b,none,none,none,none,none,none,none,none,none,none]) ?_ ⟨none,none,rfl⟩ ?_ ?_;·unfold Ql;rw[Z0 (x:=Q7 bs) (y:=J0 (c::rows)) rfl rfl ha];rfl
 ·rintro i hi e⟨a,b,rfl⟩;have mh:kv[i].1∉(kv.take i).map (·.1):=λz=>by
   have:=List.nodup_iff_pairwise_ne.mp hn;rw[<-RE i kv,Zr,List.pairwise_append]at this;have w:=this.2.2 _ z kv[i].1 (List.mem_map_of_mem (by rw[RD hi];exact JN));exact w rfl
  have hp:=Hv (kv:=kv.take i) (l:=kv[i].1) (p:=kv[i].2) mh (Zx (by rw[YG];omega));rw[Ol hi]at hp;exact⟨_,.inl (J6 rfl (NN rfl rfl rfl hp)),_,_,rfl⟩
 rintro e⟨a3,a4,rfl⟩;rw[ZX];refine st (e1:=(wE (Q7 bs) (J0 (c::rows)) kv a3 a4 (([]:List (Plc×Str×List Str))) none none none none none none none none none)) rfl ?_;refine L0 bs.length (λi e=>∃a3 a4 a6 a7 a8 a9 cG bN bY bX bW,e=(wE (Q7 bs) (J0 (c::rows)) kv a3 a4 ((((bs.zip rows).take i).flatMap (V4 kv))) a6 a7 a8 a9 cG bN bY bX bW)) ?_ ⟨a3,a4,none,none,none,none,none,none,none,none,none,rfl⟩ ?_ ?_;·have lt:QE D.len (eV 0) (wE (Q7 bs) (J0 (c::rows)) kv a3 a4 (([]:List (Plc×Str×List Str))) none none none none none none none none none)=Q1 bs.length:=JO (x:=Q7 bs) rfl (by show some (D.int (bs.map Bk.d).length)=_;rw[Qm]);unfold ZM;rw[lt];exact if_pos (show(bs.length:Int).natAbs<4611686018427387904 by omega)
 ·rintro i hi e⟨a3,a4,a6,a7,a8,a9,cG,bN,bY,bX,bW,rfl⟩;have hi':i<(bs.zip rows).length:=by omega
  have ig:i<rows.length:=by omega
  have hle:=Sj (V4 kv) (bs.zip rows) i;rw[fT _ _ _ hi'];have hq:=hs (bs.zip rows)[i] (ZY hi');have hx:=Eb bs i hi;have hT:D.ix (J0 (c::rows)) (.int (0+(i:Int)+1))=some (QV rows[i]):=by
   have:=LA (c::rows) (i+1) (by simp;omega);rw[show(0+((i+1:Nat):Int))=0+(i:Int)+1 by omega]at this;rw[this,List.getD_cons_succ,YU,Qk ig];rfl
  rw[getElem_zip]at hq⊢;have e9:bs[i]∈bs:=ZY hi;obtain⟨b3,b4,b8,b9,jr,jq,jo,jn,jm,h⟩:=QjZ (Q7 bs) (J0 (c::rows)) kv bs[i] rows[i] (0+(i:Int)) (((bs.zip rows).take i).flatMap (V4 kv)) hT hq (Wv hf _ e9) (hS _ e9).2 (hS _ e9).1 (λl hl=>hk l (q_52.mpr ⟨_,e9,hl⟩)) (by omega) a3 a4 a8 a9 cG bN bY bX bW;exact⟨_,.inl (J6 (e1:=(wE (Q7 bs) (J0 (c::rows)) kv a3 a4 ((((bs.zip rows).take i).flatMap (V4 kv))) (Q1 (0+(i:Int))) a7 a8 a9 cG bN bY bX bW)) rfl (st (Qf (Q0 rfl rfl hx) rfl) h)),b3,b4,_,_,b8,b9,jr,jq,jo,jn,jm,rfl⟩
 ·rintro e⟨a3,a4,a6,a7,a8,a9,cG,bN,bY,bX,bW,rfl⟩;rw[<-hz,ZX];exact ret rfl
def Qd9{h:Int}{x:Int×List Str×List Str}(hx:(x.2.1.length:Int)+x.2.2.length<=h):((YX h x).length:Int)=h:=by unfold YX;rw[Qg,Qg,RB];omega
def QeU(h:Int)(M:SM)(i:Nat)(hi:i<M.length):D.ix (.lst (M.map (VX h))) (.int (0+(i:Int)))=some (VX h M[i]):=by have:=WO (f:=VX h) M (0+(i:Int)) (0,[],[]) (by omega) (by omega);rw[this,show(0+(i:Int)).toNat=i by omega,YU,Qk hi];rfl
def B8(i j:Int):D.neO (.int i) (.int j)=QL (!decide (i=j)):=by simp[D.neO,Z5,ZC,D.cmpN]
def Qjm(h:Int)(hh:0<=h/\h<=1000)(M:SM)(hM:M.length<=1000)(up:M.Pairwise λa b=>a.1<b.1)(hi:∀x∈M,(x.2.1.length:Int)+x.2.2.length<=h):PQ [.lst (M.map (VX h)),.int h]=QL true:=by
 have lM:D.len (.lst (M.map (VX h)))=Q1 M.length:=by show some (D.int (M.map (VX h)).length)=_;rw[Qm]
 have ix:=QeU h M;unfold PQ KN;generalize mV:D.lst (M.map (VX h))=FD at*;refine Qy rfl ?_;refine st (QN (WR (b:=true) (Sl (x:=FD) rfl (by rw[<-mV];rfl))) rfl) ?_;refine L0 M.length (λi e=>∃a b,e=[some FD,Q1 h,a,b]) ?_ ⟨none,none,rfl⟩ ?_ ?_
 ·unfold ZM;rw[JO (x:=FD) rfl lM];exact if_pos (show(M.length:Int).natAbs<4611686018427387904 by omega)
 ·rintro i hi' e⟨a,b,rfl⟩;refine⟨[some FD,Q1 h,Q1 (0+(i:Int)),some (QM (YX h M[i]))],.inl (J6 rfl ?_),_,_,rfl⟩;have hx:∀t:QD,J7 (eV 0) (eV 2) (some FD::Q1 h::Q1 (0+(i:Int))::t)=some (VX h M[i]):=λt=>Q0 (x:=FD) (y:=.int (0+(i:Int))) rfl rfl (ix i hi');have hm:=hi M[i] (ZY hi');have fl:=Qd9 hm;refine st (QN (VV (WR (b:=true) (Sl (hx _) rfl)) (VV (Q0 (x:=.int 2) (y:=.int 2) (JO (hx _) rfl) rfl (by rw[B8];rfl)) (WR (b:=true) (JA (x:=.int M[i].1) (Q0 (hx _) rfl rfl) (Qkg _))))) rfl) ?_;refine st (QN ?_ rfl) ?_
  ·by_cases z:i=0;·subst z;exact Y6 (Q0 (x:=.int (0+((0:Nat):Int))) (y:=.int 0) rfl rfl rfl)
   ·have eX:i-1<M.length:=by omega
    have lt:M[i-1].1<M[i].1:=List.pairwise_iff_getElem.mp up (i-1) i eX hi' (by omega);refine Za (Q0 (x:=.int (0+(i:Int))) (y:=.int 0) rfl rfl (by show some (D.bl (decide ((0:Int)<0+(i:Int))))=_;rw[Jf (by omega)])) ?_;refine Q0 (x:=.int M[i].1) (y:=.int M[i-1].1) (Q0 (hx _) rfl rfl) (Q0 (Q0 (x:=FD) (y:=.int (0+((i-1:Nat):Int))) rfl (Q0 (x:=.int (0+(i:Int))) (y:=.int 1) rfl rfl ?_) (ix (i-1) eX)) rfl rfl) ?_;·show some (D.int (0+(i:Int)-1))=_;rw[show 0+(i:Int)-1=0+((i-1:Nat):Int)by omega]
    ·show some (D.bl (decide (M[i].1<=M[i-1].1)))=_;rw[JF (by omega)]
  refine st (Qf (Q0 (hx _) rfl rfl) rfl) ?_;refine st (QN (VV (WR (b:=true) (Sl (x:=QM (YX h M[i])) rfl rfl)) (Q0 (y:=.int h) (JO (x:=QM (YX h M[i])) rfl (Cp _)) rfl (by rw[fl,B8,Jf rfl];rfl))) rfl) ?_;refine QN ?_ rfl;refine Q0 (x:=.lst []) (y:=.lst []) ?_ rfl (by simp[D.neO,VA,Vd,Ws,WJ,D.cmpN]);refine Eq.trans (Yh D.str (YX h M[i]) (λe=>∃a,e=[a]) (λ_=>false) D.str rfl (lB (by omega)) ⟨none,rfl⟩ ?_) ?_
  ·rintro x hx e⟨a,rfl⟩;exact⟨[QP x],rfl,⟨_,rfl⟩,WR (b:=true) (Sl (x:=.str x) rfl rfl),λz=>by cases z⟩
  ·rw[List.filter_eq_nil_iff.mpr (by simp)];rfl
 ·rintro e⟨a,b,rfl⟩;exact ret rfl
def Ez(a x b:Str):V8 (a++x++b) (some (a.length:Int)) (some ((a.length:Int)+x.length))=x:=by
 have e:(a++x++b).cps.toList=a.cps.toList++x.cps.toList++b.cps.toList:=by show(a.cps++x.cps++b.cps).toList=_;simp
 have la:a.length=a.cps.toList.length:=rfl;have lx:x.length=x.cps.toList.length:=rfl;unfold V8 Zc YL;rw[e];simp only[];rw[if_neg (by omega),if_neg (by omega)];rw[show min (a.length:Int).toNat (a.cps.toList++x.cps.toList++b.cps.toList).length=a.cps.toList.length by simp only[Qg];omega,show min ((a.length:Int)+x.length).toNat (a.cps.toList++x.cps.toList++b.cps.toList).length=a.cps.toList.length+x.cps.toList.length by simp only[Qg];omega,VF,List.drop_left,Nat.add_sub_cancel_left,List.take_left]
def Qjy(row x:Str)(col:Int)(hr:row.length<=1000)(hx:∃a b:Str,row=a++x++b/\(a.length:Int)=col/\(0<col->∃a',a=a'++(Str.ofString " "))):NV [.str row,.int col,.str x]=QL true:=by
 obtain⟨a,b,e1,e2,e3⟩:=hx;have lx:x.length<=1000:=by rw[e1,Yx,Yx]at hr;omega
 have cu:∀lo hi,Vb (.str row) (some lo) (some hi)=QP (V8 row (some lo) (some hi)):=λlo hi=>if_pos (lB (by omega));unfold NV KP;refine Qy rfl ?_;refine st (QN ?_ rfl) (ret ?_)
 ·by_cases z:0<col
  ·obtain⟨a',ea⟩:=e3 z;have la:a.length=a'.length+1:=by rw[ea,Yx];rfl
   refine Za (Q0 (x:=.int col) (y:=.int 0) rfl rfl (by show some (D.bl (decide (0<col)))=_;rw[Jf z])) ?_;refine Q0 (x:=.str (Str.ofString " ")) (y:=.str (Str.ofString " ")) (SE (x:=.str row) (l:=some (col-1)) (h:=some col) rfl rfl rfl ?_) rfl (by rw[BC];simp);rw[cu];have:=Ez a' (Str.ofString " ") (x++b);rw[show((Str.ofString " ").length:Int)=1 from rfl,<-N6,<-ea,<-e1,show(a'.length:Int)=col-1 by omega,show col-1+1=col by omega]at this;rw[this]
  ·exact Y6 (Q0 (x:=.int col) (y:=.int 0) rfl rfl (by show some (D.bl (decide (0<col)))=_;rw[JF z]))
 ·refine Q0 (x:=.str x) (y:=.str x) (SE (x:=.str row) (l:=some col) (h:=some (col+x.length)) rfl rfl (Rp (Q0 rfl (JO (x:=.str x) rfl (Yw (by omega))) rfl)) ?_) rfl (by rw[QO,Jf rfl]);rw[cu,<-e2,e1,Ez]
def Yz(h:Int)(M:SM):D:=.dic (M.map λx=>.inl x.1) (M.map λx=>QM (YX h x))
def CG(k:Int)(M:SM):hasK (.inl k) (M.map λx=>(Sum.inl x.1:Kd))=true↔∃x∈M,x.1=k:=by
 unfold hasK;rw[List.any_map,any_eq_true];constructor;·rintro⟨x,hx,e⟩;exact⟨x,hx,by simpa using e⟩
 ·rintro⟨x,hx,e⟩;exact⟨x,hx,by simpa using e⟩
def QiF{h:Int}{r:SM}(x:Int×List Str×List Str)(hn:∀y∈r,y.1<x.1)(hl:r.length<=1000):D.put (Yz h r) (.int x.1) (QM (YX h x))=some (Yz h (r++[x])):=by show(if(r.map λx=>(Sum.inl x.1:Kd)).length<lI then some (Wj _ _ (.inl x.1) (QM (YX h x)))else none)=_;rw[if_pos (by rw[Qm];exact Zx (by omega))];unfold Wj;rw[if_neg (λz=>by obtain⟨y,hy,e⟩:=(CG _ _).mp z;have:=hn y hy;omega)];unfold Yz;rw[Zr,Zr];rfl
theorem CA{h:Int}:∀{M:SM},M.Pairwise (λa b=>a.1<b.1)->∀x∈M,D.dget (Yz h M) (.int x.1)=some (QM (YX h x))
 |[],_,_,hx=>nomatch hx|y::M,hp,x,hx=>by
  obtain⟨h1,h2⟩:=List.pairwise_cons.mp hp;show(if(Sum.inl y.1:Kd)=.inl x.1 then some (QM (YX h y))else XC (M.map λx=>.inl x.1) (M.map λx=>QM (YX h x)) (.inl x.1))=_;rcases q_5.mp hx with z|z;·subst z;rw[if_pos rfl]
  ·have:=h1 x z;rw[if_neg (λw=>by have:=Sum.inl.inj w;omega)];exact CA h2 x z
def CF(k:Kd)(ks:List Kd):hasK k ks=true↔k∈ks:=by
 unfold hasK;rw[any_eq_true];constructor
 ·rintro⟨x,hx,e⟩;have:x=k:=by simpa using e
  exact this▸hx
 ·intro hx;exact⟨k,hx,by simp⟩
def Bs(ks:List Kd)(ds:List D)(k:Int)(v:D)(hl:ks.length<=500000):∃cO bV,D.put (.dic ks ds) (.int k) v=some (.dic cO bV)/\cO.length<=ks.length+1/\Sum.inl k∈cO/\∀y∈ks,y∈cO:=by
 have e:D.put (.dic ks ds) (.int k) v=some (Wj ks ds (.inl k) v):=if_pos (Zx (by omega));rw[e];unfold Wj;by_cases z:hasK (.inl k) ks=true;·rw[if_pos z];exact⟨_,_,rfl,by omega,(CF _ _).mp z,λ_ h=>h⟩
 ·rw[if_neg z];exact⟨_,_,rfl,by simp,by simp,λy h=>V0 _ h⟩
theorem Dx{α β:Type}(f:α->List β)(n:Nat):∀(xs:List α),(∀x∈xs,(f x).length<=n)->(xs.flatMap f).length<=xs.length*n|[],_=>WV _|x::xs,h=>by have h1:=h x JN;have h2:=Dx f n xs λy hy=>h y (JH _ hy);rw[Zi,Qg,JM,Nat.succ_mul];omega
def QjX{ns:List Int}{kv:List (Str×Int)}{q:Bk×List Plc}(hb:q.1∈QH ns):(V4 kv q).length<=200:=by
 have w:=NF ns q.1 hb;have hh:=Wi ns;obtain⟨b,pls⟩:=q;cases b with
 |para is=>
  rw[QaC,Qm,WY];have h1:=Ut Qs is;have h2:is.length<=((QH ns).flatMap iO).length:=by
   obtain⟨a,b,e⟩:=List.append_of_mem hb;have eG:Bk.para is∈QH ns:=hb;rw[show QH ns=a++Bk.para is::b from e,YI,Zi,Qg,Qg];show is.length<=_+(is.length+_);omega
  have h3:=(Pn ns).2;omega|table rs l=>
  have w':1<=rs.length/\(rs.length:Int)<=dH ns:=w;show(List.flatMap T2 [Op.ln _ rs]).length<=200;rw[List.flatMap_singleton];show(rs.mapIdx _).length<=200;rw[List.length_mapIdx];omega|chapter t l=>show 1<=200;omega|heading t k l=>show 1<=200;omega|plates n l=>show 0<=200;omega
def QhL{ns:List Int}{kv:List (Str×Int)}{q:Bk×List Plc}(hb:q.1∈QH ns){o:Op}(ho:o∈Ym kv q):∃t∈T2 o,t.1.p=o.p.p:=by have w:=NF ns q.1 hb;obtain⟨b,pls⟩:=q;cases b with|para is=>obtain⟨x,_,rfl⟩:=q_20.mp ho;rw[QaD];refine⟨_,q_1.mpr rfl,?_⟩;obtain⟨i,q⟩:=x;cases i<;>rfl|table rs l=>have e:=q_1.mp ho;subst e;have w':1<=rs.length/\(rs.length:Int)<=dH ns:=w;exact⟨_,List.mem_mapIdx.mpr ⟨0,by omega,rfl⟩,rfl⟩|chapter t l=>have e:=q_1.mp ho;subst e;exact⟨_,List.mem_mapIdx.mpr ⟨0,by simp,rfl⟩,rfl⟩|heading t k l=>have e:=q_1.mp ho;subst e;exact⟨_,List.mem_mapIdx.mpr ⟨0,by simp,rfl⟩,rfl⟩|plates n l=>cases ho
def Py(ns lo:List Int)(b4:Box ns lo):(ZD ns lo).length<=119+119:=by
 have h1:=(Uy ns lo b4.1).2.2.1;have h2:(ZD ns lo).length=(J4 (QH ns)).length:=by rw[<-h1,Qm]
 rw[h2];have:=IU (QH ns);have:=Pn ns;omega
abbrev lE(ns:List Int)(B S:D)(R:Int)(TT:D)(M:SM)(h:Int)(a b c d e f g i j:Option D):QD:=[some (.scr ns),some B,some S,Q1 R,some TT,some B,QB (M.map (VX h)),a,b,c,d,e,f,g,i,j]
def Qfm(ns:List Int)(B S TT LO:D)(R h:Int)(c:List Plc)(M:SM)(TH:List (Plc×Str×List Str))(dr:SX [.scr ns]=some (.tup [B,S,.int R]))(la:Tb [B,S]=some LO)(hZ:Pa [B,S,LO]=some TT)(cp:PJ [B]=some B)(pr:Se [B,S]=QB (M.map (VX h)))(iH:D.ix S (.int 1)=Q1 h)(sh:PQ [.lst (M.map (VX h)),.int h]=QL true)(nb:D.neO B B=QL false)(iC:D.ix TT (.int 0)=some (QV c))(th:PR [B,TT]=QB (TH.map tD))(up:M.Pairwise λa b=>a.1<b.1)(Ml:M.length<=1000)(cl:c.length<=400)(tl:TH.length<=119*200)(iJ:∀t∈TH,Stand M t.1 t.2.1)(wd:∀e∈M,∀y∈e.2.1,y.length<=1000)(iN:∀e∈M,(∃q∈c,q.p=e.1)\/∃t∈TH,t.1.p=e.1):Ta [.scr ns]=QL true:=by
 unfold Ta Kq;refine Qy rfl ?_;refine st (Qf (JA rfl dr) rfl) ?_;refine st (Qf (Zk rfl rfl (Z0 rfl rfl la) hZ) rfl) ?_;refine st (Qf (JA rfl cp) rfl) ?_;refine st (e1:=(lE ns B S R TT M h none none none none none none none none none)) (Qf (Z0 rfl rfl pr) rfl) ?_;refine st (e1:=(lE ns B S R TT M h none none none none none none none none none)) (QN (VV (WR (b:=true) (Z0 (x:=.lst (M.map (VX h))) (y:=.int h) rfl (Q0 (x:=S) rfl rfl iH) sh)) (Q0 (x:=B) (y:=B) rfl rfl nb)) rfl) ?_;refine st (e1:=(lE ns B S R TT M h (some (Yz h [])) none none none none none none none none)) rfl ?_;refine Vn (VX h) M (λi e=>∃a8 a9,e=(lE ns B S R TT M h (some (Yz h (M.take i))) a8 a9 none none none none none none)) rfl ⟨none,none,rfl⟩ ?_ ?_
 ·rintro i hi' e⟨a8,a9,rfl⟩;have hp:=QiF (h:=h) (r:=M.take i) M[i] (λy hy=>by
   obtain⟨j,hj,rfl⟩:=List.mem_iff_getElem.mp hy;rw[YG]at hj;rw[List.getElem_take];exact List.pairwise_iff_getElem.mp up j i (by omega) hi' (by omega)) (by rw[YG];omega);rw[Ol hi']at hp;exact⟨_,.inl (J6 (e1:=(lE ns B S R TT M h (some (Yz h (M.take i))) (some (.int M[i].1)) (some (QM (YX h M[i]))) none none none none none none)) rfl (NN rfl rfl rfl hp)),_,_,rfl⟩
 rintro e⟨a8,a9,rfl⟩;rw[ZX];refine st (e1:=(lE ns B S R TT M h (some (Yz h M)) a8 a9 (some (.dic [] [])) none none none none none)) rfl ?_;refine Vn Plc.d c (λi e=>∃ks ds bN,e=(lE ns B S R TT M h (some (Yz h M)) a8 a9 (some (.dic ks ds)) bN none none none none)/\ks.length<=i/\∀q∈c.take i,(Sum.inl q.p:Kd)∈ks) ?_ ⟨[],[],none,rfl,Qx _,by simp⟩ ?_ ?_;·exact congrArg (λo:Option D=>o.bind D.its) (Q0 (x:=TT) (y:=.int 0) rfl rfl iC)
 ·rintro i hi' e⟨ks,ds,bN,rfl,kl,km⟩;obtain⟨cO,bV,p1,p2,p3,p4⟩:=Bs ks ds c[i].p (.bl true) (by omega);refine⟨_,.inl (J6 (e1:=(lE ns B S R TT M h (some (Yz h M)) a8 a9 (some (.dic ks ds)) (some c[i].d) none none none none)) rfl (NN (y:=.int c[i].p) rfl rfl rfl p1)),cO,bV,_,rfl,by omega,λq hq=>?_⟩;rw[<-Ol hi']at hq;rcases q_7.mp hq with z|z;·exact p4 _ (km q z)
  ·rw[q_1.mp z];exact p3
 rintro e⟨ks,ds,bN,rfl,kl,km⟩;rw[ZX]at km;refine Vn tD TH (λi e=>∃ks ds a8 bN bY bX bW iI,e=(lE ns B S R TT M h (some (Yz h M)) a8 a9 (some (.dic ks ds)) bN bY bX bW iI)/\ks.length<=c.length+i/\(∀q∈c,(Sum.inl q.p:Kd)∈ks)/\∀t∈TH.take i,(Sum.inl t.1.p:Kd)∈ks) ?_ ⟨ks,ds,a8,bN,none,none,none,none,rfl,by omega,km,by simp⟩ ?_ ?_
 ·unfold Ql;rw[Z0 (x:=B) (y:=TT) rfl rfl th];rfl
 ·rintro i hi' e⟨ks,ds,a8,bN,bY,bX,bW,iI,rfl,kl,km,kt⟩;have lS:=iJ TH[i] (ZY hi');generalize hq:TH[i]=t at*;obtain⟨q,x,N⟩:=t;obtain⟨e,he,h1,h2,row,h3,h4⟩:=lS;obtain⟨cO,bV,p1,p2,p3,p4⟩:=Bs ks ds q.p (.bl true) (by omega);have fg:e.1=q.p:=h1;have hd:=CA (h:=h) up e he;rw[fg]at hd;have gb:D.dNotIn (.int q.p) (Yz h M)=QL false:=by
   show some (D.bl (!hasK (.inl q.p) (M.map λx=>(Sum.inl x.1:Kd))))=_;rw[(CG q.p M).mpr ⟨e,he,h1⟩];rfl
  have jd:0<=q.l:=h2;have lt:q.l.toNat<e.2.1.length:=(q_22.mp h3).1;have ky:(YX h e)[q.l.toNat]?=some row:=by
   unfold YX;rw[VF,YH lt];exact h3
  have hl:q.l.toNat<(YX h e).length:=(q_22.mp ky).1;have mE:D.ix (QM (YX h e)) (.int q.l)=QP row:=by
   have:=Ca (YX h e) q.l.toNat hl;rw[show 0+((q.l.toNat:Nat):Int)=q.l by omega,(q_22.mp ky).2]at this;exact this
  have sa:=Qjy row x q.c (wd e he row (Yo h3)) h4;refine⟨(lE ns B S R TT M h (some (Yz h M)) (Q1 q.p) a9 (some (.dic cO bV)) (some q.d) (QP x) (some (QM N)) (Q1 q.l) (Q1 q.c)),.inl (J6 (e1:=(lE ns B S R TT M h (some (Yz h M)) a8 a9 (some (.dic ks ds)) (some q.d) (QP x) (some (QM N)) bW iI)) rfl ?_),cO,bV,_,_,_,_,_,_,rfl,by omega,λy hy=>p4 _ (km y hy),λt ht=>?_⟩
  ·refine st (e1:=(lE ns B S R TT M h (some (Yz h M)) (Q1 q.p) a9 (some (.dic ks ds)) (some q.d) (QP x) (some (QM N)) (Q1 q.l) (Q1 q.c))) (Qf (d:=q.d) rfl rfl) ?_;refine st (e1:=(lE ns B S R TT M h (some (Yz h M)) (Q1 q.p) a9 (some (.dic cO bV)) (some q.d) (QP x) (some (QM N)) (Q1 q.l) (Q1 q.c))) (NN (y:=.int q.p) rfl rfl rfl p1) ?_;exact QN (VV (Q0 (x:=.int q.p) (y:=Yz h M) rfl rfl gb) (WR (b:=true) (Zk (x:=.str row) (y:=.int q.c) (z:=.str x) (Q0 (Q0 (x:=Yz h M) (y:=.int q.p) rfl rfl hd) (y:=.int q.l) rfl mE) rfl rfl sa))) rfl
  ·rw[<-Ol hi']at ht;rcases q_7.mp ht with z|z;·exact p4 _ (kt t z)
   ·rw[q_1.mp z,hq];exact p3
 rintro e⟨ks,ds,a8,bN,bY,bX,bW,iI,rfl,kl,km,kt⟩;rw[ZX]at kt;refine ret (Q0 (x:=.lst []) (y:=.lst []) ?_ rfl (by simp[D.eqO,VA,Vd,Ws,WJ,D.cmp]));refine Eq.trans (Yh (λx:Int×List Str×List Str=>D.int x.1) M (λe=>∃a,e=[a,some (.dic ks ds)]) (λ_=>false) (λx:Int×List Str×List Str=>D.int x.1) ?_ (lB (by omega)) ⟨none,rfl⟩ ?_) ?_
 ·show some ((M.map λx=>(Sum.inl x.1:Kd)).map kD)=_;rw[W5];rfl
 ·rintro x hx e⟨a,rfl⟩;refine⟨[Q1 x.1,some (.dic ks ds)],rfl,⟨_,rfl⟩,?_,λz=>by cases z⟩;have gb:(Sum.inl x.1:Kd)∈ks:=by
   rcases iN x hx with⟨q,hq,e⟩|⟨t,ht,e⟩;·rw[<-e];exact km q hq
   ·rw[<-e];exact kt t ht
  refine Q0 (x:=.int x.1) (y:=.dic ks ds) rfl rfl ?_;show some (D.bl (!hasK (.inl x.1) ks))=_;rw[(CF _ _).mpr gb];rfl
 ·rw[List.filter_eq_nil_iff.mpr (by simp)];rfl
def Qfo(ns:List Int):Ta [.scr ns]=QL true:=by
 have dr:SX [.scr ns]=some (.tup [Q7 (QH ns),S0 ns,.int (dR ns)]):=QdF ns;have fw:=Xb ns;have cp:=Qb8 (QH ns) fw;have nb:=QfX (QH ns);have hh:=Wi ns;obtain⟨lo,la,b4,fx,mn⟩:=Qfs ns;have hZ:=Qfk ns lo b4.1;obtain⟨c,rows,T,M,k⟩:=QbH ns lo b4 fx;rw[k.set_]at hZ;have pr:=k.rows_at b4 la;have ops:=k.ops;have Ml:M.length<=1000:=by
  rw[k.eM];have:=k.good.len;rw[Qg,WU]at this;omega
 have sh:=Qjm (dH ns) ⟨by omega,by omega⟩ M Ml k.up k.hi;have zl:((QH ns).zip rows).length<=119:=by rw[WY];have:=(Pn ns).1;omega
 have tl:(((QH ns).zip rows).flatMap (V4 (ZD ns lo))).length<=119*200:=ZP (Dx _ 200 _ λq hq=>QjX (WT hq).1) (Nat.mul_le_mul_right _ zl);have ek:ZD ns lo=((QH ns).zip rows).flatMap Jg:=by unfold ZD;rw[k.set_];rfl
 have th:=QjY (QH ns) c rows (ZD ns lo) ek fw k.len (λq hq=>(k.pls q hq).1) (SF ns) (by rw[(Uy ns lo b4.1).2.2.1];exact NG ns) (by have:=Py ns lo b4;omega) (λb hb=>⟨(XB ns b hb).1,(XB ns b hb).2.1⟩) (λl hl=>(HH ns lo b4 l hl).1) (by omega);have ga:=k.good.all;rw[<-k.eM]at ga;have iJ:∀t∈((QH ns).zip rows).flatMap (V4 (ZD ns lo)),Stand M t.1 t.2.1:=λt ht=>by
  obtain⟨q,hq,h1⟩:=q_52.mp ht;obtain⟨o,ho,h2⟩:=q_52.mp h1;exact ga.2 o (YF _ (q_52.mpr ⟨q,hq,ho⟩)) t h2
 have iN:∀e∈M,(∃q∈c,q.p=e.1)\/∃t∈((QH ns).zip rows).flatMap (V4 (ZD ns lo)),t.1.p=e.1:=λe he=>by
  rw[k.eM]at he;rcases k.good.pages e he with z|⟨o,ho,eo⟩;·cases z
  ·rcases q_7.mp ho with z|z
   ·obtain⟨x,hx,rfl⟩:=q_20.mp z;exact .inl ⟨x.1,(WT hx).1,eo⟩
   ·obtain⟨q,hq,h1⟩:=q_52.mp z;obtain⟨t,ht,h2⟩:=QhL (WT hq).1 h1;exact .inr ⟨t,q_52.mpr ⟨q,hq,q_52.mpr ⟨o,h1,ht⟩⟩,h2.trans eo⟩
 have wd:∀e∈M,∀y∈e.2.1,y.length<=1000:=λe he y hy=>by have:=k.wid e he y hy;have:=(UY ns).2.2;omega
 have cl:c.length<=400:=by
  have h1:=k.cl;have h2:T.length<=(QH ns).length:=by rw[k.eT];have:=Gk ((QH ns).zip rows);rw[WY]at this;omega
  have:=(Pn ns).1;split at h1<;>omega
 exact Qfm ns (Q7 (QH ns)) (S0 ns) (J0 (c::rows)) (.lst (lo.map .int)) (dR ns) (dH ns) c M _ dr la hZ cp pr rfl sh nb (LA (c::rows) 0 (by simp)) th k.up Ml cl tl iJ wd iN
end
section
open PySem PySem.Spec PyProof.Rows L2 Wd
noncomputable def Qo(i:Nat):Stmt:=PySem.Challenge.pw_leastbook_k22_words_on_lines.main.body.getD i (.Pass ⟨0,0,0,0⟩)
abbrev AQ:Stmt:=Qo 18
abbrev AM:Stmt:=Qo 19
abbrev AU:Stmt:=Qo 20
abbrev AV:Stmt:=Qo 21
abbrev Az:Stmt:=Qo 22
abbrev Ap:Stmt:=Qo 23
abbrev AO:Stmt:=Qo 24
abbrev An:Stmt:=Qo 25
abbrev Al:Stmt:=Qo 26
abbrev Ak:Stmt:=Qo 27
abbrev Ao:Stmt:=Qo 28
abbrev AZ:Stmt:=Qo 30
abbrev Aa:Stmt:=Qo 31
abbrev AY:Stmt:=Qo 32
abbrev Ae:Stmt:=Qo 33
abbrev Ad:Stmt:=Qo 34
abbrev GP:Stmt:=Qo 35
abbrev GO:Stmt:=Qo 36
abbrev GN:Stmt:=Qo 37
abbrev Aq:Stmt:=Qo 38
abbrev GH:Stmt:=Qo 39
abbrev Ab:Stmt:=Qo 40
abbrev Ac:Stmt:=Qo 41
abbrev AW:Stmt:=Qo 42
abbrev AX:Stmt:=Qo 43
abbrev GD:Stmt:=Qo 44
abbrev GJ:Stmt:=Qo 45
abbrev GK:Stmt:=Qo 46
abbrev Mw:Stmt:=Qo 47
abbrev Aj:Stmt:=Qo 48
abbrev Ai:Stmt:=Qo 49
abbrev Au:Stmt:=Qo 51
abbrev Av:Stmt:=Qo 52
abbrev Ar:Stmt:=Qo 53
abbrev As:Stmt:=Qo 54
abbrev Am:Stmt:=Qo 55
abbrev Af:Stmt:=Qo 56
abbrev Ay:Stmt:=Qo 57
abbrev Ag:Stmt:=Qo 58
abbrev GI:Stmt:=Qo 60
abbrev Ax:Stmt:=Qo 61
abbrev Ah:Stmt:=Qo 62
abbrev Aw:Stmt:=Qo 63
abbrev GQ:Stmt:=Qo 65
abbrev GF:Stmt:=Qo 66
abbrev GG:Stmt:=Qo 67
abbrev Mv:Stmt:=Qo 68
abbrev GC:Stmt:=Qo 69
abbrev AN:Stmt:=Qo 70
abbrev AR:Stmt:=Qo 71
abbrev GL:Stmt:=Qo 72
abbrev AA:Stmt:=Qo 74
abbrev AL:Stmt:=Qo 75
abbrev AG:Stmt:=Qo 76
abbrev AF:Stmt:=Qo 77
abbrev AH:Stmt:=Qo 78
abbrev AJ:Stmt:=Qo 79
abbrev Mt:Stmt:=Qo 80
abbrev AI:Stmt:=Qo 81
abbrev AD:Stmt:=Qo 82
abbrev G7:Stmt:=Qo 83
abbrev Uw:Stmt:=Qo 84
abbrev G8:Stmt:=Qo 85
abbrev Mu:Stmt:=Qo 86
abbrev AB:Stmt:=Qo 87
abbrev AE:Stmt:=Qo 88
abbrev GA:Stmt:=Qo 89
abbrev G9:Stmt:=Qo 90
abbrev AK:Stmt:=Qo 91
abbrev Om:Stmt:=Qo 92
structure Txt(K:Fg)(mg:Str->Option Value):Prop where
 g_COLUMN:∃t,mg "COLUMN"=some (.int 2 t)g_FOOT:∃t,mg "FOOT"=some (.int 3 t)g_HEIGHT:∃t,mg "HEIGHT"=some (.int 1 t)g_LINE:∃t,mg "LINE"=some (.int 1 t)g_LISTED:∃t,mg "LISTED"=some (.int 3 t)g_ODD:∃t,mg "ODD"=some (.int 2 t)g_PAGE:∃t,mg "PAGE"=some (.int 0 t)g_USED:∃t,mg "USED"=some (.int 2 t)g_WIDTH:∃t,mg "WIDTH"=some (.int 0 t)b_any:mg "any"=none
 b_bool:mg "bool"=none
 b_enumerate:mg "enumerate"=none
 b_int:mg "int"=none
 b_isinstance:mg "isinstance"=none
 b_len:mg "len"=none
 b_list:mg "list"=none
 b_max:mg "max"=none
 b_range:mg "range"=none
 b_str:mg "str"=none
 b_sum:mg "sum"=none
 b_tuple:mg "tuple"=none
 b_zip:mg "zip"=none
 z:True
section
variable{P:Program}{w:World}{K:Fg}{mg:Str->Option Value}{ab:Heap}
abbrev OJ:List Str:=["number"]
abbrev OH:List Str:=["page"]
noncomputable abbrev OM:List Str:=["style","state","lines"]
noncomputable abbrev ON:List Str:=["style","state","size"]
noncomputable abbrev Od:List Str:=["page","line","column","size","foot"]
noncomputable abbrev Ma:List Str:=["style","state","size","rows"]
noncomputable abbrev Qbh:List Str:=["style","state","size","rows","page","line","used","foot","column"]
abbrev OI:List Str:=["state"]
noncomputable abbrev MY:List Str:=["style","state","rows","keep"]
noncomputable abbrev Qbf:List Str:=["style","state","rows","keep","start","place"]
abbrev OZ:List Str:=["state"]
abbrev MV:List Str:=["style","state"]
noncomputable abbrev Qbd:List Str:=["style","state","start"]
abbrev MZ:List Str:=["state","many"]
noncomputable abbrev Qbg:List Str:=["state","many","page"]
abbrev OR:List Str:=["style"]
abbrev OS:List Str:=["block"]
abbrev OQ:List Str:=["item"]
abbrev OV:List Str:=["block"]
abbrev OU:List Str:=["block"]
abbrev Mb:List Str:=["book"]
noncomputable abbrev EF:List Str:=["book","labels","block"]
abbrev R5:List Str:=["block","style"]
abbrev R4:List Str:=["book","style"]
abbrev Oa:List Str:=["book","style"]
abbrev R3:List Str:=["texts","width"]
noncomputable abbrev MR:List Str:=["block","style","room"]
noncomputable abbrev Qa9:List Str:=["block","style","room","beside"]
noncomputable abbrev OT:List Str:=["item","style","room"]
abbrev OO:List Str:=["block","style"]
abbrev OP:List Str:=["item","style"]
noncomputable abbrev Tj:List Str:=["label","number","known"]
noncomputable abbrev Tn:List Str:=["block","number","style","room","known"]
noncomputable abbrev To:List Str:=["item","number","style","room","known"]
noncomputable abbrev OY:List Str:=["items","number","style","room","known"]
noncomputable abbrev Lh:List Str:=["items","number","style","room","known","words_left","item"]
abbrev MU:List Str:=["book","known"]
noncomputable abbrev Qbc:List Str:=["book","known","number","block","label"]
abbrev MT:List Str:=["book","style"]
noncomputable abbrev Qbb:List Str:=["book","style","room","known","number","block"]
abbrev Md:List Str:=["book","style"]
abbrev Qbj:List Str:=["book","style","places","state","block","put"]
noncomputable abbrev Me:List Str:=["items","style","state","rooms"]
abbrev Qbk:List Str:=["items","style","state","rooms","places","refs_set","item","size","put"]
noncomputable abbrev Ob:List Str:=["block","style","state"]
noncomputable abbrev Mc:List Str:=["book","style","rooms"]
abbrev Qbi:List Str:=["book","style","rooms","put","told","state","refs_set","block"]
noncomputable abbrev MX:List Str:=["items","places","kind"]
noncomputable abbrev Qbe:List Str:=["items","places","kind","found","words_set","item"]
abbrev MS:List Str:=["book","told"]
noncomputable abbrev Qba:List Str:=["book","told","pages","block","places","label","page"]
abbrev Mh:List Str:=["book","told"]
noncomputable abbrev Qbm:List Str:=["book","told","titles","block","places"]
noncomputable abbrev OW:List Str:=["book","style","rooms"]
noncomputable abbrev MP:List Str:=["book","style","rooms"]
noncomputable abbrev EC:List Str:=["book","style","rooms","pages"]
noncomputable abbrev Mf:List Str:=["book","style","first"]
noncomputable abbrev Qbl:List Str:=["book","style","first","rooms","wanted"]
abbrev OX:List Str:=["book","style"]
abbrev Oc:List Str:=["book","style"]
abbrev Mg:List Str:=["sheets","page"]
noncomputable abbrev OG:List Str:=["sheets","place","lines"]
noncomputable abbrev MN:List Str:=["sheets","place","text","notes"]
noncomputable abbrev Qa6:List Str:=["sheets","place","text","notes","sheet","lines"]
noncomputable abbrev MM:List Str:=["sheets","items","places","pages"]
noncomputable abbrev EA:List Str:=["sheets","items","places","pages","words","item","place"]
noncomputable abbrev OF:List Str:=["sheets","block","places","pages"]
noncomputable abbrev MO:List Str:=["title","page","width"]
noncomputable abbrev Qa7:List Str:=["title","page","width","number","dots"]
abbrev MQ:List Str:=["sheet","height"]
noncomputable abbrev Qa8:List Str:=["sheet","height","empty"]
abbrev MW:List Str:=["book","style"]
noncomputable abbrev EE:List Str:=["book","style","told","pages","sheets","place","titled","block","places"]
noncomputable abbrev OC:List Str:=["_law_script","_law_k"]
abbrev OE:List Str:=["_law_found"]
noncomputable abbrev ME:List Str:=["_law_cell","_law_turn"]
noncomputable abbrev Qa2:List Str:=["_law_cell","_law_turn","_law_number"]
abbrev MD:List Str:=["_law_k"]
noncomputable abbrev Qa1:List Str:=["_law_k","_law_some"]
noncomputable abbrev MH:List Str:=["_law_cell","_law_number"]
noncomputable abbrev Qa3:List Str:=["_law_cell","_law_number","_law_ten","_law_k"]
noncomputable abbrev MK:List Str:=["_law_number","_law_size","_law_gaps"]
noncomputable abbrev Qa5:List Str:=["_law_number","_law_size","_law_gaps","_law_some","_law_found","_law_k","_law_at","_law_sign"]
noncomputable abbrev M7:List Str:=["_law_cell","_law_k"]
noncomputable abbrev Le:List Str:=["_law_cell","_law_k","_law_number","_law_kind","_law_size","_law_many","_law_text","_law_word","_law_label_here","_law_name"]
noncomputable abbrev MI:List Str:=["_law_atoms","_law_cells"]
noncomputable abbrev Qa4:List Str:=["_law_atoms","_law_cells","_law_labels","_law_atom_here","_law_found","_law_k","_law_label_here"]
abbrev MB:List Str:=["_law_atoms"]
noncomputable abbrev QaZ:List Str:=["_law_atoms","_law_book","_law_row","_law_atom_here"]
noncomputable abbrev MA:List Str:=["_law_script","_law_style"]
noncomputable abbrev E6:List Str:=["_law_script","_law_style","_law_many","_law_ten","_law_k","_law_row"]
noncomputable abbrev MG:List Str:=["_law_book","_law_room"]
noncomputable abbrev T7:List Str:=["_law_book","_law_room","_law_wide","_law_high","_law_block","_law_notes","_law_rows"]
noncomputable abbrev MF:List Str:=["_law_book","_law_listed"]
noncomputable abbrev E7:List Str:=["_law_book","_law_listed","_law_most_here","_law_block"]
abbrev M9:List Str:=["_law_script"]
noncomputable abbrev Lf:List Str:=["_law_script","_law_every","_law_cells","_law_book","_law_listed","_law_edge_here","_law_room","_law_wide","_law_high","_law_width","_law_height","_law_style"]
abbrev M8:List Str:=["_law_book"]
noncomputable abbrev QaY:List Str:=["_law_book","_law_found","_law_block","_law_row","_law_item"]
noncomputable abbrev MC:List Str:=["_law_book","_law_places"]
noncomputable abbrev Qa0:List Str:=["_law_book","_law_places","_law_found","_law_k","_law_block","_law_many","_law_item"]
noncomputable abbrev ML:List Str:=["_law_book","_law_places"]
noncomputable abbrev E9:List Str:=["_law_book","_law_places","_law_pages","_law_label_here","_law_page","_law_found","_law_k","_law_block","_law_line","_law_column","_law_j","_law_there","_law_kind","_law_ahead","_law_behind"]
noncomputable abbrev MJ:List Str:=["_law_found","_law_height"]
noncomputable abbrev E8:List Str:=["_law_found","_law_height","_law_k","_law_rows"]
noncomputable abbrev OD:List Str:=["_law_row","_law_column","_law_text"]
abbrev BZ:List Str:=["_law_script"]
noncomputable abbrev Lg:List Str:=["_law_script","_law_book","_law_style","_law_room","_law_places","_law_handed","_law_found","_law_sheets","_law_page","_law_rows","_law_met","_law_place","_law_text","_law_notes","_law_line","_law_column"]
section
variable(P:Program)(w:World)(K:Fg)(mg:Str->Option Value)(ab:Heap)
abbrev LN:=Qi P w K mg ab 1 "figures" OJ (Qq K Sb)
abbrev Tw:=Qi P w K mg ab 1 "bare" OH (Qq K UD)
abbrev LP:=Qi P w K mg ab 1 "has_height" OM (Qq K Sd)
abbrev FQ:=Qi P w K mg ab 1 "has_width" ON (Qq K NY)
abbrev Fw:=Qi P w K mg ab 1 "word_at" Od (Qq K Si)
abbrev Fm:=Qi P w K mg ab 2 "put_word" Ma (Qq K Ph)
abbrev LM:=Qi P w K mg ab 1 "end_line" OI (Qq K PZ)
abbrev LY:=Qi P w K mg ab 2 "put_block" MY (Qq K Tc)
abbrev LX:=Qi P w K mg ab 2 "new_page" OZ (Qq K Pg)
abbrev LW:=Qi P w K mg ab 3 "new_chapter" MV (Qq K Pf)
abbrev Fj:=Qi P w K mg ab 3 "put_plates" MZ (Qq K Nf)
abbrev FU:=Qi P w K mg ab 1 "is_style" OR (Qq K Nb)
abbrev Ri:=Qi P w K mg ab 1 "is_titled" OS (Qq K Xh)
abbrev Tx:=Qi P w K mg ab 1 "is_set" OQ (Qq K WL)
abbrev LQ:=Qi P w K mg ab 1 "label_of" OV (Qq K Ue)
abbrev Rj:=Qi P w K mg ab 1 "items_of" OU (Qq K WM)
abbrev Rk:=Qi P w K mg ab 2 "refs" Mb (Qq K VL)
abbrev Fh:=Qi P w K mg ab 2 "pages_for" R5 (Qq K Sf)
abbrev Ff:=Qi P w K mg ab 3 "pages_at_most" R4 (Qq K Nd)
abbrev Fn:=Qi P w K mg ab 4 "room_at_most" Oa (Qq K Ng)
abbrev LL:=Qi P w K mg ab 1 "any_longer" R3 (Qq K PX)
abbrev FV:=Qi P w K mg ab 2 "is_wide_block" MR (Qq K Ud)
abbrev FW:=Qi P w K mg ab 2 "is_wide_item" OT (Qq K Nc)
abbrev FR:=Qi P w K mg ab 1 "is_high_block" OO (Qq K NZ)
abbrev FT:=Qi P w K mg ab 1 "is_high_item" OP (Qq K Na)
abbrev LK:=Qi P w K mg ab 1 "add_label" Tj (RT K PV)
abbrev FY:=Qi P w K mg ab 3 "look_at_block" Tn (RT K Pb)
abbrev FZ:=Qi P w K mg ab 3 "look_at_item" To (RT K Pc)
abbrev Fc:=Qi P w K mg ab 4 "look_at_items" OY (RT K Pd)
abbrev Fd:=Qi P w K mg ab 3 "look_at_refs" MU (Qq K Pe)
abbrev LV:=Qi P w K mg ab 5 "look" MT (Qq K Ug)
abbrev Fp:=Qi P w K mg ab 4 "set_contents" Md (Qq K Nh)
abbrev Fs:=Qi P w K mg ab 3 "set_items" Me (Qq K Pk)
abbrev Fo:=Qi P w K mg ab 4 "set_block" Ob (Qq K Pj)
abbrev Oy:=Qi P w K mg ab 5 "set_book" Mc (Qq K UG)
abbrev Fi:=Qi P w K mg ab 2 "pages_with" MX (Qq K Sg)
abbrev LR:=Qi P w K mg ab 3 "label_pages" MS (Qq K UE)
abbrev Fv:=Qi P w K mg ab 2 "title_pages" Mh (Qq K Sh)
abbrev FX:=Qi P w K mg ab 6 "laid" OW (Qq K Pa)
abbrev FO:=Qi P w K mg ab 6 "figures_told" MP (Qq K TZ)
abbrev Fu:=Qi P w K mg ab 7 "settled" Mf (Qq K Ni)
abbrev LU:=Qi P w K mg ab 8 "least" OX (Qq K Tb)
abbrev Ft:=Qi P w K mg ab 9 "set_least" Oc (Qq K Pl)
abbrev FN:=Qi P w K mg ab 1 "contents_row" MO (Qq K PY)
abbrev FP:=Qi P w K mg ab 1 "filled" MQ (Qq K NX)
abbrev Fe:=Qi P w K mg ab 10 "page_rows" MW (Qq K Se)
abbrev LJ:=Qi P w K mg ab 1 "_law_cell_at" OC (Qq K Yv)
abbrev FL:=Qi P w K mg ab 1 "_law_whole" OE (Qq K NW)
abbrev Rh:=Qi P w K mg ab 1 "_law_mix" ME (Qq K WK)
abbrev FA:=Qi P w K mg ab 1 "_law_label" MD (Qq K SY)
abbrev FF:=Qi P w K mg ab 1 "_law_plates" MH (Qq K PN)
abbrev FI:=Qi P w K mg ab 1 "_law_signs" MK (Qq K UC)
abbrev Gv:=Qi P w K mg ab 2 "_law_atom" M7 (Qq K Uc)
abbrev FG:=Qi P w K mg ab 2 "_law_pointed" MI (Qq K NU)
abbrev Gz:=Qi P w K mg ab 1 "_law_grouped" MB (Qq K TY)
abbrev Gy:=Qi P w K mg ab 2 "_law_edge" MA (Qq K PK)
abbrev FE:=Qi P w K mg ab 1 "_law_needs" MG (Qq K PM)
abbrev FC:=Qi P w K mg ab 1 "_law_most" MF (Qq K PL)
abbrev Gx:=Qi P w K mg ab 3 "_law_drawn" M9 (Qq K SX)
abbrev Gw:=Qi P w K mg ab 1 "_law_copy" M8 (Qq K PJ)
abbrev F9:=Qi P w K mg ab 1 "_law_heads" MC (Qq K NT)
abbrev FK:=Qi P w K mg ab 2 "_law_things" ML (Qq K PR)
abbrev FH:=Qi P w K mg ab 2 "_law_shaped" MJ (Qq K PQ)
abbrev FJ:=Qi P w K mg ab 1 "_law_stands" OD (Qq K NV)
end
section
variable(P:Program)(w:World)(K:Fg)(mg:Str->Option Value)(ab:Heap)
abbrev LZ:=Qi P w K mg ab 2 "add_lines" OG (RV K Xg)
abbrev E1:=Qi P w K mg ab 2 "add_word" MN (RV K Wt)
abbrev Fy:=Qi P w K mg ab 3 "add_items" MM (RV K PU)
abbrev Fx:=Qi P w K mg ab 4 "add_block" OF (RV K Sa)
end
def QgL(h:Df K mg "figures" AQ OJ)(T:Txt K mg):LN P w K mg ab:=J1 OJ OJ Ka 0 h λnd=>λhr=>So (QX (JJ JQ rfl T.b_len boot_len (dr (TL Rx rfl T.b_str boot_str (dv 0)))))
def QgI(h:Df K mg "bare" AM OH)(T:Txt K mg):Tw P w K mg ab:=J1 OH OH KW 0 h λnd=>λhr=>So (QX (JD (dn 0 (Dk J3 (Dk J3 (Dk J3 Dz)))) Wx))
def QgO(h:Df K mg "has_height" AU OM)(T:Txt K mg):LP P w K mg ab:=J1 OM OM Ke 0 h λnd=>λhr=>So (QX (YN (Ti hr.units0) (dr (Q9 QY (dr (Q9 QY (dr (QU (dv 1) (dr (JP T.g_LINE rfl)))) (dr (QU (dv 1) (dr (JP T.g_FOOT rfl)))))) (dv 2))) (dr (QU (dv 0) (dr (JP T.g_HEIGHT rfl)))) (Z8 _)))
def QgP(h:Df K mg "has_width" AV ON)(T:Txt K mg):FQ P w K mg ab:=J1 ON ON Kf 0 h λnd=>λhr=>So (QX (QdA (dr (YN (Wz hr.units) (dr (QU (dv 1) (dr (JP T.g_USED rfl)))) dq (Z8 _))) (TK (YN (Ti hr.units0) (dr (Q9 QY (dr (Q9 QY (dr (QU (dv 1) (dr (JP T.g_USED rfl)))) dq)) (dv 2))) (dr (QU (dv 0) (dr (JP T.g_WIDTH rfl)))) (Z8 _)))))
def Qhr(h:Df K mg "word_at" Az Od)(T:Txt K mg):Fw P w K mg ab:=J1 Od Od IP 0 h λnd=>λhr=>So (QX (JD (Dt (JD (dn 0 (dn 1 (dn 2 Dz))) Zf) (Dt (JD (dn 0 (dn 1 (Db (Q9 QY (dv 2) (dv 3)) (dn 4 Dz)))) Wx) Dz)) Zy))
def Qhg(h:Df K mg "put_word" Ap Ma)(T:Txt K mg)(av:LP P w K mg ab)(bA:FQ P w K mg ab)(bh:Fw P w K mg ab):Fm P w K mg ab:=J1 Qbh Ma ID 1 h (λnd=>λhr=>(by refine Ss (O1:=[]) ?_ ?_;exact(QW 4 nd (QU (dv 1) (dr (JP T.g_PAGE rfl))));refine Ss (O1:=[]) ?_ ?_;exact(QW 5 nd (QU (dv 1) (dr (JP T.g_LINE rfl))));refine Ss (O1:=[]) ?_ ?_;exact(QW 6 nd (QU (dv 1) (dr (JP T.g_USED rfl))));refine Ss (O1:=[]) ?_ ?_;exact(QW 7 nd (Q9 QY (dr (QU (dv 1) (dr (JP T.g_FOOT rfl)))) (dv 3)));refine Ss (O1:=[]) ?_ ?_;exact(Qd (PW.pt (Wo (Jx (dr (dc bA hr (dn 0 (dn 1 (dn 2 Dz)))))) (Zv (Jx (dr (dc av hr (dn 0 (dn 1 (Db (Q9 QY dq (dv 3)) Dz))))))))) (Ss (O1:=[]) (QW 8 nd (NL (dE hr (dv 6) dq) J3 (Q9 QY (dv 6) dq))) (So (QX (dc bh hr (dn 4 (dn 5 (dn 8 (dn 2 (dn 7 Dz))))))))) Sn);refine Ss (O1:=[]) ?_ ?_;exact(Qd (PW.pt (Wo (Vf Xr (dv 6) dq (Z8 _)) (Zv (Jx (dr (dc av hr (dn 0 (dn 1 (Db (Q9 QY dq (dv 3)) Dz))))))))) (So (QX (dc bh hr (dn 4 (Db (Q9 QY (dv 5) dq) (Dk J3 (dn 2 (dn 7 Dz)))))))) Sn);exact(So (QX (dc bh hr (Db (Q9 QY (dv 4) dq) (Dk J3 (Dk J3 (dn 2 (dn 3 Dz))))))))))
def QgK(h:Df K mg "end_line" AO OI)(T:Txt K mg):LM P w K mg ab:=J1 OI OI KZ 0 h λnd=>λhr=>Ss (O1:=[]) (Qd (dE hr (dr (QU (dv 0) (dr (JP T.g_USED rfl)))) dq) (So (QX (Qe 0))) Sn) (So (QX (JD (Du (QU (dv 0) (dr (JP T.g_PAGE rfl))) (Db (Q9 QY (dr (QU (dv 0) (dr (JP T.g_LINE rfl)))) dq) (Dk J3 (Du (QU (dv 0) (dr (JP T.g_FOOT rfl))) Dz)))) Wx)))
def Qhe(h:Df K mg "put_block" An MY)(T:Txt K mg)(aD:Tw P w K mg ab)(aK:LM P w K mg ab)(av:LP P w K mg ab):LY P w K mg ab:=J1 Qbf MY IB 1 h λnd=>λhr=>by refine Ss (O1:=[]) ? _ ? _;exact QW 4 nd (dc aK hr (dn 1 Dz));refine Ss (O1:=[]) ? _ ? _;exact Qd (Xd (Jx (dr (dc av hr (dn 0 (dn 4 (Db (Q9 QY (dv 2) (dv 3)) Dz))))))) (So (QW 4 nd (dc aD hr (Db (Q9 QY (dr (QU (dv 4) (dr (JP T.g_PAGE rfl)))) dq) Dz)))) Sn;exact Ss (O1:=[]) (QW 5 nd (JD (Du (QU (dv 4) (dr (JP T.g_PAGE rfl))) (Du (QU (dv 4) (dr (JP T.g_LINE rfl))) (Dk J3 Dz))) Zf)) (So (QX (JD (dn 5 (Dt (JD (Du (QU (dv 4) (dr (JP T.g_PAGE rfl))) (Db (Q9 QY (dr (QU (dv 4) (dr (JP T.g_LINE rfl)))) (dv 2)) (Dk J3 (Du (QU (dv 4) (dr (JP T.g_FOOT rfl))) Dz)))) Wx) Dz)) Zy)))
def Qg9(h:Df K mg "new_page" Al OZ)(T:Txt K mg)(aD:Tw P w K mg ab):LX P w K mg ab:=J1 OZ OZ Kx 1 h λnd=>λhr=>Ss (O1:=[]) (Qd (dE hr (dv 0) (dr (dc aD hr (Du (QU (dv 0) (dr (JP T.g_PAGE rfl))) Dz)))) (So (QX (Qe 0))) Sn) (So (QX (dc aD hr (Db (Q9 QY (dr (QU (dv 0) (dr (JP T.g_PAGE rfl)))) dq) Dz))))
def Qg8(h:Df K mg "new_chapter" Ak MV)(T:Txt K mg)(aD:Tw P w K mg ab)(aJ:LX P w K mg ab):LW P w K mg ab:=J1 Qbd MV Kw 2 h λnd=>λhr=>by refine Ss (O1:=[]) ? _ ? _;exact QW 2 nd (dc aJ hr (dn 1 Dz));refine Ss (O1:=[]) ? _ ? _;exact Qd (PW.pt (Wo (Jx (dr (QU (dv 0) (dr (JP T.g_ODD rfl))))) (Zv (dE hr (dr (Q9 Ji (dr (QU (dv 2) (dr (JP T.g_PAGE rfl)))) dq)) dq)))) (So (QX (dc aD hr (Db (Q9 QY (dr (QU (dv 2) (dr (JP T.g_PAGE rfl)))) dq) Dz)))) Sn;exact So (QX (Qe 2))
def Qhf(h:Df K mg "put_plates" Ao MZ)(T:Txt K mg)(aD:Tw P w K mg ab)(aJ:LX P w K mg ab):Fj P w K mg ab:=J1 Qbg MZ IC 2 h λnd=>λhr=>Ss (O1:=[]) (QW 2 nd (QU (dr (dc aJ hr (dn 0 Dz))) (dr (JP T.g_PAGE rfl)))) (So (QX (JD (Dt (JD (dn 2 (Dk J3 (Dk J3 Dz))) Zf) (Dl (dc aD hr (Db (Q9 QY (dv 2) (dv 1)) Dz)) Dz)) Zy)))
def QgT(h:Df K mg "is_style" AZ OR)(T:Txt K mg):FU P w K mg ab:=J1 OR OR Kj 0 h λnd=>λhr=>So (QX (SJ (dr (D4 (Ti hr.units0) (Ti hr.units0) dq (dr (QU (dv 0) (dr (JP T.g_WIDTH rfl)))) dq)) (TK (D4 (Ti hr.units0) (Ti hr.units0) dq (dr (QU (dv 0) (dr (JP T.g_HEIGHT rfl)))) dq))))
def QgU(h:Df K mg "is_titled" Aa OS)(T:Txt K mg):Ri P w K mg ab:=J1 OS OS Kk 0 h λnd=>λhr=>So (QX (YN M6 (dx 0) (dr (JD (Dk QI (Dk QI Dz)) Zy)) (by with_unfolding_all rfl)))
def QgS(h:Df K mg "is_set" AY OQ)(T:Txt K mg):Tx P w K mg ab:=J1 OQ OQ Ki 0 h λnd=>λhr=>So (QX (YN M6 (dx 0) (dr (JD (Dk QI (Dk QI Dz)) Zy)) (by with_unfolding_all rfl)))
def QgY(h:Df K mg "label_of" Ae OV)(T:Txt K mg):LQ P w K mg ab:=J1 OV OV Kn 0 h λnd=>λhr=>So (QX (NL (dE hr (dx 0) (dr QI)) QI (QU (dv 0) (dr (SN dq)))))
def QgX(h:Df K mg "items_of" Ad OU)(T:Txt K mg):Rj P w K mg ab:=J1 OU OU Km 0 h λnd=>λhr=>So (QX (NL (dE hr (dx 0) (dr QI)) (dy 0) (JX Dz Z7)))
def Qhh(h:Df K mg "refs" GP Mb)(T:Txt K mg)(ao:Rj P w K mg ab):Rk P w K mg ab:=J1 EF Mb IE 1 h (λnd=>λhr=>(by refine Ss (O1:=[1]) ?_ ?_;exact(YQ 1 nd (Vc Dz Z7));refine Ss (O1:=[1]) ?_ ?_;refine Ju rfl PassesOwn.never ?_ ?_ ?_;exact(Jn (Qe 0));exact Qb 2 nd;refine So ?_;refine QdI 1 (by decide) ?_;refine dr ?_;refine YO ?_;refine Yj rfl rfl (Y0 (show Zl (Qp GP) EF _ 1 ["item"] []=true by decide+kernel)) (by decide) ?_ ?_ ?_ ?_;exact(Y7 (Jn (dc ao hr (dn 2 Dz))));exact λ_ _ _ _ _ _=>Qb 0 (show List.Nodup (["item"]:List Str)by decide+kernel);exact λ_ _ _ _ _ _=>(XE (dE hr (dx 0) (dr QI)));exact λ_ _ _ _ _ _=>(dy 0);exact(YR 1 (So (QX (Qe 1))))))
def Qhc(h:Df K mg "pages_for" GO R5)(T:Txt K mg)(aq:Tx P w K mg ab)(aj:Ri P w K mg ab)(ao:Rj P w K mg ab):Fh P w K mg ab:=J1 R5 R5 I0 1 h (λnd=>λhr=>(by refine Ss (O1:=[]) ?_ ?_;exact(Qd (dE hr (dx 0) (dr QI)) (So (QX (Q9 QY dq (dx 0)))) Sn);refine Ss (O1:=[]) ?_ ?_;exact(Qd (PW.pt (Wo (Jx (dr (dc aj hr (dn 0 Dz)))) (Zv (Jx (dr (QU (dv 1) (dr (JP T.g_LISTED rfl)))))))) (So (QX J3)) Sn);refine So ?_;refine QX ?_;refine Q9 QY ?_ ?_;exact dq;refine dr ?_;refine Q9 Yy ?_ ?_;exact dq;refine dr ?_;refine JJ JQ rfl T.b_len boot_len ?_;refine dr ?_;refine YO ?_;refine Yj rfl rfl (Y0 (show Zl (Qp GO) R5 _ 1 ["item"] []=true by decide+kernel)) (by decide) ?_ ?_ ?_ ?_;exact(Y7 (Jn (dc ao hr (dn 0 Dz))));exact λ_ _ _ _ _ _=>Qb 0 (show List.Nodup (["item"]:List Str)by decide+kernel);exact λ_ _ _ _ _ _=>(XE (Jx (dr (dc aq hr (dn 0 Dz)))));exact λ_ _ _ _ _ _=>Qe 0))
def Qhb(h:Df K mg "pages_at_most" GN R4)(T:Txt K mg)(bx:Fh P w K mg ab):Ff P w K mg ab:=J1 R4 R4 Kz 2 h (λnd=>λhr=>(by refine So ?_;refine QX ?_;refine Q9 QY ?_ ?_;exact dq;refine dr ?_;refine JJ (QbU rfl) rfl T.b_sum boot_sum ?_;refine dr ?_;refine YO ?_;refine Yj rfl rfl (Y0 (show Zl (Qp GN) R4 _ 1 ["block","style"] [1]=true by decide+kernel)) (by decide) ?_ ?_ ?_ ?_;exact(Y7 (Jn (Qe 0)));exact λ_ _ _ _ _ _=>Qb 0 (show List.Nodup (["block","style"]:List Str)by decide+kernel);exact λ_ _ _ _ _ _=>Wn;exact λ_ _ _ _ _ _=>(dc bx hr (dn 0 (dn 1 Dz)))))
def Qhi(h:Df K mg "room_at_most" Aq Oa)(T:Txt K mg)(aR:LN P w K mg ab)(aM:Ff P w K mg ab):Fn P w K mg ab:=J1 Oa Oa IF 3 h λnd=>λhr=>So (QX (dc aR hr (Dl (dc aM hr (dn 0 (dn 1 Dz))) Dz)))
def QgH(h:Df K mg "any_longer" GH R3)(T:Txt K mg):LL P w K mg ab:=J1 R3 R3 KU 0 h (λnd=>λhr=>(by refine So ?_;refine QX ?_;refine JJ (QbK rfl) rfl T.b_any boot_any ?_;refine dr ?_;refine YO ?_;refine Yj rfl rfl (Y0 (show Zl (Qp GH) R3 _ 1 ["text","width"] [1]=true by decide+kernel)) (by decide) ?_ ?_ ?_ ?_;exact(Y7 (Jn (Qe 0)));exact λ_ _ _ _ _ _=>Qb 0 (show List.Nodup (["text","width"]:List Str)by decide+kernel);exact λ_ _ _ _ _ _=>Wn;exact λ_ _ _ _ _ _=>(YN Xr (dr (JJ JQ rfl T.b_len boot_len (dv 0))) (dv 1) (Z8 _))))
def QgV(h:Df K mg "is_wide_block" Ab MR)(T:Txt K mg)(aC:LL P w K mg ab)(aj:Ri P w K mg ab):FV P w K mg ab:=J1 Qa9 MR S7 1 h λnd=>λhr=>by refine Ss (O1:=[]) ? _ ? _;exact Qd (Jx (dr (dc aj hr (dn 0 Dz)))) (Ss (O1:=[]) (QW 3 nd (NL (Jx (dr (QU (dv 1) (dr (JP T.g_LISTED rfl))))) (Q9 QY dq (dv 2)) J3)) (So (QX (YN Xr (dr (Q9 QY (dr (JJ JQ rfl T.b_len boot_len (dx 0))) (dv 3))) (dr (QU (dv 1) (dr (JP T.g_WIDTH rfl)))) (Z8 _))))) Sn;exact So (QX (SJ (dr (YN (Wz hr.units) (dx 0) (dr QI) (Z8 _))) (TK (dc aC hr (Du (dy 0) (Du (QU (dv 1) (dr (JP T.g_WIDTH rfl))) Dz))))))
def QgW(h:Df K mg "is_wide_item" Ac OT)(T:Txt K mg)(aC:LL P w K mg ab):FW P w K mg ab:=J1 OT OT Kl 1 h λnd=>λhr=>by refine Ss (O1:=[]) ? _ ? _;exact Qd (dE hr (dx 0) (dr QI)) (So (QX (dc aC hr (Db (Q9 QY (dr (JX (Du (dy 0) Dz) VQ)) (dx 0)) (Du (QU (dv 1) (dr (JP T.g_WIDTH rfl))) Dz))))) Sn;refine So ? _;refine QX ? _;exact SJ (dr (YN (Wz hr.units) (dx 0) (dr QI) (Z8 _))) (TK (YN Xr (dr (Q9 QY (dr (Q9 QY (dr (JJ JQ rfl T.b_len boot_len (dx 0))) (dv 2))) (dr (JJ JQ rfl T.b_len boot_len (dx 0))))) (dr (QU (dv 1) (dr (JP T.g_WIDTH rfl)))) (Z8 _)))
def QgQ(h:Df K mg "is_high_block" AW OO)(T:Txt K mg):FR P w K mg ab:=J1 OO OO Kg 0 h λnd=>λhr=>Ss (O1:=[]) (Qd (dE hr (dx 0) (dr QI)) (So (QX (YN Xr (dr (Q9 QY (dx 0) dq)) (dr (QU (dv 1) (dr (JP T.g_HEIGHT rfl)))) (Z8 _)))) Sn) (So (QX (SJ (dr (YN (Wz hr.units) (dx 0) (dr QI) (Z8 _))) (TK (YN Xr (dr (JJ JQ rfl T.b_len boot_len (dx 0))) (dr (QU (dv 1) (dr (JP T.g_HEIGHT rfl)))) (Z8 _))))))
def QgR(h:Df K mg "is_high_item" AX OP)(T:Txt K mg):FT P w K mg ab:=J1 OP OP Kh 0 h λnd=>λhr=>So (QX (SJ (dr (YN (Wz hr.units) (dx 0) (dr QI) (Z8 _))) (TK (YN Xr (dr (Q9 QY (dr (JJ JQ rfl T.b_len boot_len (dx 0))) dq)) (dr (QU (dv 1) (dr (JP T.g_HEIGHT rfl)))) (Z8 _)))))
def Qac:FnScope Tj Tj (Qp GD):=by constructor<;>first|rfl|decide+kernel
def QgE(h:Df K mg "add_label" GD Tj)(T:Txt K mg):LK P w K mg ab:=have nd:=(Qac).nd
 Nz (b:=KS) (k:=0) (N:=Tj) (ps:=Tj) (O':=[2,1002]) (OL:=[]) h Qac (by decide) (by decide) (by decide) (by decide) (by decide) λf az A ag s H E hr=>Ss (O1:=[2,1002]) (Qd (QdP hr.units1 (dv 0) (Yt 2)) (So Ua) Sn) (So (TR 2 (by decide) hr.units1 (dv 0) WC))
def Qaf:FnScope Tn Tn (Qp GJ):=by constructor<;>first|rfl|decide+kernel
def Qg4(h:Df K mg "look_at_block" GJ Tn)(T:Txt K mg)(aF:LK P w K mg ab)(aQ:FR P w K mg ab)(aP:FV P w K mg ab)(aA:LQ P w K mg ab):FY P w K mg ab:=have nd:=(Qaf).nd
 Nz (b:=Kt) (k:=2) (N:=Tn) (ps:=Tn) (O':=[4,1004]) (OL:=[]) h Qaf (by decide) (by decide) (by decide) (by decide) (by decide) (λf az A ag s H E hr=>(by refine Ss (O1:=[4,1004]) ?_ ?_;exact(Qd (Jx (dr (dc aP hr (dn 0 (dn 2 (dn 3 Dz)))))) (So Ua) Sn);refine Ss (O1:=[4,1004]) ?_ ?_;exact(Qd (Jx (dr (dc aQ hr (dn 0 (dn 2 Dz))))) (So Ua) Sn);refine So ?_;refine Qd ?_ ?_ ?_;exact(dF hr (dr (dc aA hr (dn 0 Dz))) (dr QI));refine So ?_;refine P9 4 (by decide) aF (hr.mono (by decide)) rfl ?_;refine VI ?_ ?_ ?_;exact(dc aA hr (dn 0 Dz));refine VI ?_ ?_ ?_;exact Qe 1;exact(P4 4);exact Vm;exact GR;exact Sn))
def Qag:FnScope To To (Qp GK):=by constructor<;>first|rfl|decide+kernel
def Qg5(h:Df K mg "look_at_item" GK To)(T:Txt K mg)(aF:LK P w K mg ab)(aY:FT P w K mg ab)(aX:FW P w K mg ab):FZ P w K mg ab:=have nd:=(Qag).nd
 Nz (b:=Ku) (k:=2) (N:=To) (ps:=To) (O':=[4,1004]) (OL:=[]) h Qag (by decide) (by decide) (by decide) (by decide) (by decide) (λf az A ag s H E hr=>(by refine Ss (O1:=[4,1004]) ?_ ?_;exact(Qd (Jx (dr (dc aX hr (dn 0 (dn 2 (dn 3 Dz)))))) (So Ua) Sn);refine Ss (O1:=[4,1004]) ?_ ?_;exact(Qd (Jx (dr (dc aY hr (dn 0 (dn 2 Dz))))) (So Ua) Sn);refine So ?_;refine Qd ?_ ?_ ?_;exact(dE hr (dx 0) (dr QI));refine So ?_;refine P9 4 (by decide) aF (hr.mono (by decide)) rfl ?_;refine VI ?_ ?_ ?_;exact(dy 0);refine VI ?_ ?_ ?_;exact Qe 1;exact(P4 4);exact Vm;exact Qaj;exact Sn))
def Qah:FnScope Lh OY (Qp Mw):=by constructor<;>first|rfl|decide+kernel
def Qg6(h:Df K mg "look_at_items" Mw OY)(T:Txt K mg)(aq:Tx P w K mg ab)(aW:FZ P w K mg ab):Fc P w K mg ab:=have nd:=(Qah).nd
 Nz (b:=N9) (k:=3) (N:=Lh) (ps:=OY) (O':=[4,1004]) (OL:=[]) h Qah (by decide) (by decide) (by decide) (by decide) (by decide) (λf az A ag s H E hr=>(by refine Ss (O1:=[4,1004]) ?_ ?_;refine QW 5 nd ?_;refine JJ JQ rfl T.b_len boot_len ?_;refine dr ?_;refine YO ?_;refine Yj rfl rfl (Y0 (show Zl (Qp Mw) Lh _ 1 ["item"] []=true by decide+kernel)) (by decide) ?_ ?_ ?_ ?_;exact(Y7 (Jn (Qe 0)));exact λ_ _ _ _ _ _=>Qb 0 (show List.Nodup (["item"]:List Str)by decide+kernel);exact λ_ _ _ _ _ _=>(XE (Jx (dr (dc aq hr (dn 0 Dz)))));exact λ_ _ _ _ _ _=>Qe 0;refine So ?_;refine Ju rfl PassesOwn.never ?_ ?_ ?_;exact(Jn (Qe 0));exact Qb 6 nd;refine Ss (O1:=[4,1004]) ?_ ?_;refine P9 4 (by decide) aW (hr.mono (by decide)) rfl ?_;refine VI ?_ ?_ ?_;exact Qe 6;refine VI ?_ ?_ ?_;exact Qe 1;refine VI ?_ ?_ ?_;exact Qe 2;refine VI ?_ ?_ ?_;exact Qe 3;exact(P4 4);exact Vm;exact Vm;exact Vm;exact Vm;exact(So (Qd (Jx (dr (dc aq hr (dn 6 Dz)))) (So (NO 5 nd (by decide) dq QeM)) (So (Qd (dE hr (dv 5) dq) (So Ua) Sn))))))
def Qg7(h:Df K mg "look_at_refs" Aj MU)(T:Txt K mg)(aL:Rk P w K mg ab):Fd P w K mg ab:=J1 Qbc MU Kv 2 h λnd=>λhr=>by refine So ? _;exact Ju rfl PassesOwn.never (NM rfl T.b_enumerate (Qe 0)) (Yr rfl (JT (O1:=[]) (Qb 2 nd) (JT (O1:=[]) (Qb 3 nd) Ys)) rfl) (So (Ju rfl PassesOwn.never (Jn (dc aL hr (Wk (JX (dn 3 Dz) VQ) Dz))) (Qb 4 nd) (So (Qd (Ij hr.units1 (dv 4) (dv 1)) (So Ua) Sn))))
def Qg3(h:Df K mg "look" Ai MT)(T:Txt K mg)(bF:FU P w K mg ab)(ao:Rj P w K mg ab)(aO:FY P w K mg ab)(aN:Fc P w K mg ab)(aV:Fd P w K mg ab)(aU:Fn P w K mg ab):LV P w K mg ab:=J1 Qbb MT Ks 4 h (λnd=>λhr=>(by refine Ss (O1:=[]) ?_ ?_;exact(Qd (Xd (Jx (dr (dc bF hr (dn 1 Dz))))) (So Ua) Sn);refine Ss (O1:=[]) ?_ ?_;exact(QW 2 nd (dc aU hr (dn 0 (dn 1 Dz))));refine Ss (O1:=[3]) ?_ ?_;exact(YQ 3 nd SI);refine Ss (O1:=[3]) ?_ ?_;refine Ju rfl PassesOwn.never ?_ ?_ ?_;exact(NM rfl T.b_enumerate (Qe 0));exact(Yr rfl (JT (O1:=[3]) (Qb 4 nd) (JT (O1:=[3]) (Qb 5 nd) Ys)) rfl);refine Ss (O1:=[3]) ?_ ?_;refine P9 3 (by decide) aO (hr.mono (by decide)) rfl ?_;refine VI ?_ ?_ ?_;exact Qe 5;refine VI ?_ ?_ ?_;exact Qe 4;refine VI ?_ ?_ ?_;exact Qe 1;refine VI ?_ ?_ ?_;exact Qe 2;exact(P4 3);exact Vm;exact Vm;exact Vm;exact Vm;refine So ?_;refine P9 3 (by decide) aN (hr.mono (by decide)) rfl ?_;refine VI ?_ ?_ ?_;exact(dc ao hr (dn 5 Dz));refine VI ?_ ?_ ?_;exact Qe 4;refine VI ?_ ?_ ?_;exact Qe 1;refine VI ?_ ?_ ?_;exact Qe 2;exact(P4 3);exact Vm;exact Vm;exact Vm;exact GR;exact(YR 3 (So (Ih (dc aV hr (dn 0 (dn 3 Dz))))))))
def Qhl(h:Df K mg "set_contents" Au Md)(T:Txt K mg)(aD:Tw P w K mg ab)(aj:Ri P w K mg ab)(aw:LW P w K mg ab)(ar:LY P w K mg ab):Fp P w K mg ab:=J1 Qbj Md II 3 h (λnd=>λhr=>(by refine Ss (O1:=[2]) ?_ ?_;exact(YQ 2 nd (Vc Dz Z7));refine Ss (O1:=[2]) ?_ ?_;exact(QW 3 nd (dc aD hr (Dk J3 Dz)));refine Ss (O1:=[2]) ?_ ?_;exact(Qd (Xd (Jx (dr (QU (dv 1) (dr (JP T.g_LISTED rfl)))))) (YR 2 (So (QX (JD (dn 2 (dn 3 Dz)) Zy)))) Sn);refine Ss (O1:=[2]) ?_ ?_;refine Ju rfl PassesOwn.never ?_ ?_ ?_;exact(Jn (Qe 0));exact Qb 4 nd;refine So ?_;exact(Qd (Jx (dr (dc aj hr (dn 4 Dz)))) (Ss (O1:=[2]) (QW 5 nd (dc ar hr (dn 1 (dn 3 (Dk J3 (Dk J3 Dz)))))) (Ss (O1:=[2]) (Zd 2 (by decide) (dy 5)) (So (QW 3 nd (dy 5))))) Sn);exact(Ss (O1:=[2]) (Qd (Vf Xr (dr (JJ JQ rfl T.b_len boot_len (Yt 2))) dq (Z8 _)) (So (QW 3 nd (dc aw hr (dn 1 (dn 3 Dz))))) Sn) (YR 2 (So (QX (JD (dn 2 (dn 3 Dz)) Zy)))))))
def Qhm(h:Df K mg "set_items" Av Me)(T:Txt K mg)(aK:LM P w K mg ab)(aq:Tx P w K mg ab)(bj:Fm P w K mg ab):Fs P w K mg ab:=J1 Qbk Me IJ 2 h (λnd=>λhr=>(by refine Ss (O1:=[4]) ?_ ?_;exact(YQ 4 nd (Vc Dz Z7));refine Ss (O1:=[4]) ?_ ?_;exact(QW 5 nd J3);refine Ss (O1:=[4]) ?_ ?_;refine Ju rfl PassesOwn.never ?_ ?_ ?_;exact(Jn (Qe 0));exact Qb 6 nd;refine So ?_;refine Qd ?_ ?_ ?_;exact(Jx (dr (dc aq hr (dn 6 Dz))));refine Ss (O1:=[4]) ?_ ?_;refine Qd ?_ ?_ ?_;exact(dE hr (dx 6) (dr QI));exact(Ss (O1:=[4]) (QW 7 nd (Q9 QY (dr (Q9 QY (dr (JJ JQ rfl T.b_len boot_len (dx 6))) (dr (QU (dv 3) (dv 5))))) (dr (JJ JQ rfl T.b_len boot_len (dx 6))))) (Ss (O1:=[4]) (QW 8 nd (dc bj hr (dn 1 (dn 2 (dn 7 (Dk J3 Dz)))))) (So (NO 5 nd (by decide) dq HF))));exact(So (QW 8 nd (dc bj hr (dn 1 (dn 2 (Dl (JJ JQ rfl T.b_len boot_len (dx 6)) (Dl (JJ JQ rfl T.b_len boot_len (dx 6)) Dz)))))));exact(Ss (O1:=[4]) (Zd 4 (by decide) (dy 8)) (So (QW 2 nd (dy 8))));exact Sn;exact(YR 4 (So (QX (JD (dn 4 (Dl (dc aK hr (dn 2 Dz)) Dz)) Zy))))))
def Qhj(h:Df K mg "set_block" Ar Ob)(T:Txt K mg)(aw:LW P w K mg ab)(ar:LY P w K mg ab)(bp:Fj P w K mg ab):Fo P w K mg ab:=J1 Ob Ob IG 3 h λnd=>λhr=>by refine Ss (O1:=[]) ? _ ? _;exact Qd (dE hr (dx 0) (dr QI)) (So (QX (dc bp hr (dn 2 (Du (dy 0) Dz))))) Sn;refine Ss (O1:=[]) ? _ ? _;exact Qd (dE hr (dx 0) (dr QI)) (So (QX (dc ar hr (dn 1 (dn 2 (Dl (JJ JQ rfl T.b_len boot_len (dx 0)) (Dk J3 Dz))))))) Sn;exact Ss (O1:=[]) (Qd (dE hr (dx 0) (dr QI)) (So (QX (dc ar hr (dn 1 (dn 2 (Dk J3 (Du (dy 0) Dz))))))) Sn) (So (QX (dc ar hr (dn 1 (Dl (dc aw hr (dn 1 (dn 2 Dz))) (Dk J3 (Dk J3 Dz)))))))
def Qhk(h:Df K mg "set_book" As Mc)(T:Txt K mg)(aL:Rk P w K mg ab)(bw:Fo P w K mg ab)(aS:Fp P w K mg ab)(bu:Fs P w K mg ab):Oy P w K mg ab:=J1 Qbi Mc IH 4 h (λnd=>λhr=>(by refine Ss (O1:=[]) ?_ ?_;exact(QW 3 nd (dc aS hr (dn 0 (dn 1 Dz))));refine Ss (O1:=[4]) ?_ ?_;exact(YQ 4 nd (Vc (Du (dy 3) Dz) VQ));refine Ss (O1:=[4]) ?_ ?_;exact(QW 5 nd (dy 3));refine Ss (O1:=[4]) ?_ ?_;exact(QW 6 nd J3);refine Ss (O1:=[4]) ?_ ?_;refine Ju rfl PassesOwn.never ?_ ?_ ?_;exact(Jn (Qe 0));exact Qb 7 nd;refine Ss (O1:=[4]) ?_ ?_;refine Qd ?_ ?_ ?_;exact(dE hr (dx 7) (dr QI));exact(Ss (O1:=[4]) (QW 3 nd (dc bu hr (Du (dy 7) (dn 1 (dn 5 (Du (WD (dv 2) (Ve (dv 6)) XF) Dz)))))) (Ss (O1:=[4]) (Zd 4 (by decide) (dy 3)) (So (NO 6 nd (by decide) (dr (JJ JQ rfl T.b_len boot_len (dr (dc aL hr (Wk (JX (dn 7 Dz) VQ) Dz))))) HF))));exact(Ss (O1:=[4]) (QW 3 nd (dc bw hr (dn 7 (dn 1 (dn 5 Dz))))) (So (Zd 4 (by decide) (JX (Du (dy 3) Dz) VQ))));exact(So (QW 5 nd (dy 3)));exact(YR 4 (So (QX (Qe 4))))))
def Qhd(h:Df K mg "pages_with" Am MX)(T:Txt K mg)(aq:Tx P w K mg ab):Fi P w K mg ab:=J1 Qbe MX IA 1 h (λnd=>λhr=>(by refine Ss (O1:=[3]) ?_ ?_;exact(YQ 3 nd (Vc Dz Z7));refine Ss (O1:=[3]) ?_ ?_;exact(QW 4 nd J3);refine Ss (O1:=[3]) ?_ ?_;refine Ju rfl PassesOwn.never ?_ ?_ ?_;exact(Jn (Qe 0));exact Qb 5 nd;refine So ?_;exact(Qd (Jx (dr (dc aq hr (dn 5 Dz)))) (So (NO 4 nd (by decide) dq HF)) (So (Qd (dE hr (dx 5) (dv 2)) (So (Zd 3 (by decide) (JD (Du (dy 5) (Du (QU (dr (QU (dv 1) (dv 4))) (dr (JP T.g_PAGE rfl))) Dz)) Zy))) Sn)));exact(YR 3 (So (QX (Qe 3))))))
def QgZ(h:Df K mg "label_pages" Af MS)(T:Txt K mg)(ao:Rj P w K mg ab)(aA:LQ P w K mg ab)(bq:Fi P w K mg ab):LR P w K mg ab:=J1 Qba MS Ko 2 h λnd=>λhr=>by refine Ss (O1:=[2]) ? _ ? _;exact YQ 2 nd SI;refine Ss (O1:=[2]) ? _ ? _;refine Ju rfl PassesOwn.never ? _ ? _ ? _;exact P6 rfl T.b_zip (Qe 0) (WD (dv 1) (Ve dq) XF);exact Yr rfl (JT (O1:=[2]) (Qb 3 nd) (JT (O1:=[2]) (Qb 4 nd) Ys)) rfl;refine Ss (O1:=[2]) ? _ ? _;exact Qd (dF hr (dr (dc aA hr (dn 3 Dz))) (dr QI)) (So (TR 2 (by decide) hr.units1 (dr (dc aA hr (dn 3 Dz))) (QU (dx 4) (dr (JP T.g_PAGE rfl))))) Sn;exact So (Ju rfl PassesOwn.never (Jn (dc bq hr (Dl (dc ao hr (dn 3 Dz)) (dn 4 (Dk QI Dz))))) (Yr rfl (JT (O1:=[2]) (Qb 5 nd) (JT (O1:=[2]) (Qb 6 nd) Ys)) rfl) (So (TR 2 (by decide) hr.units1 (dv 5) (Qe 6))));exact YR 2 (So (QX (Qe 2)))
def Qhq(h:Df K mg "title_pages" Ay Mh)(T:Txt K mg)(aj:Ri P w K mg ab):Fv P w K mg ab:=J1 Qbm Mh IM 1 h λnd=>λhr=>by refine Ss (O1:=[2]) ? _ ? _;exact YQ 2 nd (Vc Dz Z7);refine Ss (O1:=[2]) ? _ ? _;exact Ju rfl PassesOwn.never (P6 rfl T.b_zip (Qe 0) (WD (dv 1) (Ve dq) XF)) (Yr rfl (JT (O1:=[2]) (Qb 3 nd) (JT (O1:=[2]) (Qb 4 nd) Ys)) rfl) (So (Qd (Jx (dr (dc aj hr (dn 3 Dz)))) (So (Zd 2 (by decide) (JD (Du (dy 3) (Du (QU (dx 4) (dr (JP T.g_PAGE rfl))) Dz)) Zy))) Sn));exact YR 2 (So (QX (Qe 2)))
def Qg0(h:Df K mg "laid" Ag OW)(T:Txt K mg)(bP:LV P w K mg ab)(au:Oy P w K mg ab):FX P w K mg ab:=J1 OW OW Kp 5 h λnd=>λhr=>Ss (O1:=[]) (Ih (dc bP hr (dn 0 (dn 1 Dz)))) (So (QX (dc au hr (dn 0 (dn 1 (dn 2 Dz))))))
def QgM(h:Df K mg "figures_told" GI MP)(T:Txt K mg)(aR:LN P w K mg ab)(ax:LR P w K mg ab)(aL:Rk P w K mg ab)(au:Oy P w K mg ab):FO P w K mg ab:=J1 EC MP Kb 5 h (λnd=>λhr=>(by refine Ss (O1:=[]) ?_ ?_;exact(QW 3 nd (dc ax hr (dn 0 (Dl (dc au hr (dn 0 (dn 1 (dn 2 Dz)))) Dz))));refine So ?_;refine QX ?_;refine YO ?_;refine Yj rfl rfl (Y0 (show Zl (Qp GI) EC _ 1 ["label","pages"] [3]=true by decide+kernel)) (by decide) ?_ ?_ ?_ ?_;exact(Y7 (Jn (dc aL hr (dn 0 Dz))));exact λ_ _ _ _ _ _=>Qb 0 (show List.Nodup (["label","pages"]:List Str)by decide+kernel);exact λ_ _ _ _ _ _=>Wn;exact λ_ _ _ _ _ _=>(dc aR hr (Du (P5 hr.units1 (dv 1) (dv 0)) Dz))))
def Qho(h:Df K mg "settled" Ax Mf)(T:Txt K mg)(aG:FO P w K mg ab):Fu P w K mg ab:=J1 Qbl Mf IL 6 h λnd=>λhr=>by refine Ss (O1:=[]) ? _ ? _;exact QW 3 nd (Qe 2);exact Ss (O1:=[]) (QW 4 nd (dc aG hr (dn 0 (dn 1 (dn 3 Dz))))) (Ss (O1:=[]) (QdK PassesOwn.never (dF hr (dv 4) (dv 3)) (Ss (O1:=[]) (QW 3 nd (Qe 4)) (So (QW 4 nd (dc aG hr (dn 0 (dn 1 (dn 3 Dz)))))))) (So (QX (Qe 3))))
def Qg2(h:Df K mg "least" Ah OX)(T:Txt K mg)(bP:LV P w K mg ab)(aL:Rk P w K mg ab)(bQ:Fu P w K mg ab):LU P w K mg ab:=J1 OX OX Kr 7 h λnd=>λhr=>Ss (O1:=[]) (Ih (dc bP hr (dn 0 (dn 1 Dz)))) (So (QX (dc bQ hr (dn 0 (dn 1 (Db (Q9 Yy (dr (JX (Dk J3 Dz) VQ)) (dr (JJ JQ rfl T.b_len boot_len (dr (dc aL hr (dn 0 Dz)))))) Dz))))))
def Qhn(h:Df K mg "set_least" Aw Oc)(T:Txt K mg)(bD:LU P w K mg ab)(au:Oy P w K mg ab):Ft P w K mg ab:=J1 Oc Oc IK 8 h λnd=>λhr=>So (QX (dc au hr (dn 0 (dn 1 (Dl (dc bD hr (dn 0 (dn 1 Dz))) Dz)))))
def Qai:FnScope Mg Mg (Qp GQ):=by constructor<;>first|rfl|decide+kernel
def Qhp(h:Df K mg "sheet_of" GQ Mg)(T:Txt K mg):Qi P w K mg ab 1 "sheet_of" ["sheets","page"] RU:=have nd:=(Qai).nd
 okQ (k:=0) h Qai λf az A ag s H E hr=>R9 (Bn (R7 PySem.F.plainAttrs_dict PySem.F.slot_dict_setdefault PySem.F.type_dict_setdefault QfQ (Zo rfl (by first|exact Or.inl rfl|exact Or.inr (Or.inl rfl)|exact Or.inr (Or.inr rfl))) (ZE (Zo rfl (by first|exact Or.inl rfl|exact Or.inr (Or.inl rfl)|exact Or.inr (Or.inr rfl))) (ZE (Bd (ZE (Mi VW) (ZE (Mi VW) VW))) VW))))
def Qad:FnScope OG OG (Qp GF):=by constructor<;>first|rfl|decide+kernel
def QgF(h:Df K mg "add_lines" GF OG)(T:Txt K mg)(aI:Qi P w K mg ab 1 "sheet_of" ["sheets","page"] RU):LZ P w K mg ab:=have nd:=(Qad).nd
 M3 (b:=Rt) (k:=1) h Qad λf az A ag s H E hr=>by refine WE (QdG (i:=0) (Vz (R7 PySem.F.plainAttrs_list PySem.F.slot_list_extend PySem.F.type_list_extend HQ (Oe Pw (UM aI ? _ rfl (ZE (Zo rfl (by first|exact Or.inl rfl|exact Or.inr (Or.inl rfl)|exact Or.inr (Or.inr rfl))) (ZE ? _ VW))) R8 λ_ _=>rfl) (ZE ? _ VW))));exact hr.mono (by decide);exact QU (dv 1) (dr (JP T.g_PAGE rfl));exact Qe 2
def Qae:FnScope Qa6 MN (Qp GG):=by constructor<;>first|rfl|decide+kernel
def QgG(h:Df K mg "add_word" GG MN)(T:Txt K mg)(aI:Qi P w K mg ab 1 "sheet_of" ["sheets","page"] RU):E1 P w K mg ab:=have nd:=(Qae).nd
 M3 (b:=Ru) (k:=1) h Qae λf az A ag s H E hr=>by refine QdO (Tp (Mj nd rfl (by first|exact Or.inl rfl|exact Or.inr rfl) (UM aI ? _ rfl (ZE (Zo rfl (by first|exact Or.inl rfl|exact Or.inr (Or.inl rfl)|exact Or.inr (Or.inr rfl))) (ZE ? _ VW)))) (Tp (Mj nd rfl (by first|exact Or.inl rfl|exact Or.inr rfl) (Oe Pw (Zo rfl (by first|exact Or.inl rfl|exact Or.inr (Or.inl rfl)|exact Or.inr (Or.inr rfl))) R8 λ_ _=>rfl)) (Tp (Hq ? _ (R9 (Vz (R7 PySem.F.plainAttrs_list PySem.F.slot_list_append PySem.F.type_list_append HP (Zo rfl (by first|exact Or.inl rfl|exact Or.inr (Or.inl rfl)|exact Or.inr (Or.inr rfl))) (ZE (Zo rfl (by first|exact Or.inl rfl|exact Or.inr (Or.inl rfl)|exact Or.inr (Or.inr rfl))) VW)))) (R9 (Bl (Hn Hh (Hn Hh (Oe Pw (Zo rfl (by first|exact Or.inl rfl|exact Or.inr (Or.inl rfl)|exact Or.inr (Or.inr rfl))) (Ho Gn R8) λ_ _=>rfl) Bc) (Zo rfl (by first|exact Or.inl rfl|exact Or.inr (Or.inl rfl)|exact Or.inr (Or.inr rfl)))) (Qib (Zo rfl (by first|exact Or.inl rfl|exact Or.inr (Or.inl rfl)|exact Or.inr (Or.inr rfl))) (Ho Gn R8) Qjk)))) (R9 (Vz (R7 PySem.F.plainAttrs_list PySem.F.slot_list_extend PySem.F.type_list_extend HQ (Oe Pw (Zo rfl (by first|exact Or.inl rfl|exact Or.inr (Or.inl rfl)|exact Or.inr (Or.inr rfl))) R8 λ_ _=>rfl) (ZE (Zo rfl (by first|exact Or.inl rfl|exact Or.inr (Or.inl rfl)|exact Or.inr (Or.inr rfl))) VW)))))));exact hr.mono (by decide);exact QU (dv 1) (dr (JP T.g_PAGE rfl));exact dE hr (dr (QU (dv 1) (dr (JP T.g_COLUMN rfl)))) dq
def Qab:FnScope EA MM (Qp Mv):=by constructor<;>first|rfl|decide+kernel
def QgD(h:Df K mg "add_items" Mv MM)(T:Txt K mg)(bo:E1 P w K mg ab)(aq:Tx P w K mg ab):Fy P w K mg ab:=have nd:=(Qab).nd
 M3 (b:=Rr) (k:=2) h Qab (λf az A ag s H E hr=>(by refine QdL (i:=0) ?_ ?_;refine QdJ (OL:=[]) (w:=false) (i:=0) (j:=4) ?_;refine NQ 4 nd rfl rfl (Y0 (show Zl (Qp Mv) EA _ 1 ["item"] []=true by decide+kernel)) (by decide) ?_ ?_ ?_ ?_;exact(Y7 (Jn (Qe 1)));exact λ_ _ _ _ _ _=>Qb 0 (show List.Nodup (["item"]:List Str)by decide+kernel);exact λ_ _ _ _ _ _=>(XE (Jx (dr (dc aq hr (dn 0 Dz)))));exact λ_ _ _ _ _ _=>Qe 0;refine WE ?_;refine Ii SRes.gr rfl PassesOwn.never ?_ ?_ ?_;exact(P6 rfl T.b_zip (Qe 4) (Qe 2));exact(Yr rfl (JT (O1:=[1000]) (Qb 5 nd) (JT (O1:=[1000]) (Qb 6 nd) Ys)) rfl);refine WE ?_;refine NP (i:=0) ?_ ?_ ?_;exact(dE hr (dx 5) (dr QI));refine WE ?_;refine TQ (i:=0) (f:=Wt) (Vz (UM bo ?_ rfl (ZE (Zo rfl (by first|exact Or.inl rfl|exact Or.inr (Or.inl rfl)|exact Or.inr (Or.inr rfl))) ?_)));exact hr.mono (by decide);exact(dn 6 (Db (Q9 QY (dr (Q9 QY (dx 5) (dr (TL Rx rfl T.b_str boot_str (dr (P5 hr.units1 (dv 3) (dx 5))))))) (dx 5)) (Wk (JX Dz Z7) Dz)));refine WE ?_;refine TQ (i:=0) (f:=Wt) (Vz (UM bo ?_ rfl (ZE (Zo rfl (by first|exact Or.inl rfl|exact Or.inr (Or.inl rfl)|exact Or.inr (Or.inr rfl))) ?_)));exact hr.mono (by decide);exact(dn 6 (Du (dy 5) (Du (dy 5) Dz)))))
def Qaa:FnScope OF OF (Qp GC):=by constructor<;>first|rfl|decide+kernel
def QgC(h:Df K mg "add_block" GC OF)(T:Txt K mg)(bB:Fy P w K mg ab)(aB:LZ P w K mg ab):Fx P w K mg ab:=have nd:=(Qaa).nd
 M3 (b:=Rq) (k:=3) h Qaa (λf az A ag s H E hr=>(by refine WE ?_;refine NP (i:=0) ?_ ?_ ?_;exact(dE hr (dx 1) (dr QI));refine WE ?_;refine TQ (i:=0) (f:=PU) (Vz (UM bB ?_ rfl (ZE (Zo rfl (by first|exact Or.inl rfl|exact Or.inr (Or.inl rfl)|exact Or.inr (Or.inr rfl))) ?_)));exact hr.mono (by decide);exact(Du (dy 1) (dn 2 (dn 3 Dz)));refine WE ?_;refine NP (i:=0) ?_ ?_ ?_;exact(dE hr (dx 1) (dr QI));refine WE ?_;refine TQ (i:=0) (f:=Xg) (Vz (UM aB ?_ rfl (ZE (Zo rfl (by first|exact Or.inl rfl|exact Or.inr (Or.inl rfl)|exact Or.inr (Or.inr rfl))) ?_)));exact hr.mono (by decide);exact(Du (dy 2) (Du (dy 1) Dz));refine WE ?_;refine NP (i:=0) ?_ ?_ ?_;exact(dF hr (dx 1) (dr QI));refine WE ?_;refine TQ (i:=0) (f:=Xg) (Vz (UM aB ?_ rfl (ZE (Zo rfl (by first|exact Or.inl rfl|exact Or.inr (Or.inl rfl)|exact Or.inr (Or.inr rfl))) ?_)));exact hr.mono (by decide);exact(Du (dy 2) (Wk (JX (Du (dy 1) Dz) VQ) Dz));exact QdN))
def QgJ(h:Df K mg "contents_row" AN MO)(T:Txt K mg):FN P w K mg ab:=J1 Qa7 MO KY 0 h λnd=>λhr=>Ss (O1:=[]) (QW 3 nd (TL Rx rfl T.b_str boot_str (dv 1))) (Ss (O1:=[]) (QW 4 nd (Q9 Yy (dr QI) (dr (Q9 VU (dr (Q9 VU (dr (Q9 VU (dv 2) (dr (JJ JQ rfl T.b_len boot_len (dv 0))))) dq)) (dr (JJ JQ rfl T.b_len boot_len (dv 3))))))) (So (QX (Qdx (Qe 0) (Qe 4) (Qe 3)))))
def QgN(h:Df K mg "filled" AR MQ)(T:Txt K mg):FP P w K mg ab:=J1 Qa8 MQ Kc 0 h λnd=>λhr=>Ss (O1:=[]) (QW 2 nd (Q9 VU (dr (Q9 VU (dv 1) (dr (JJ JQ rfl T.b_len boot_len (dx 0))))) (dr (JJ JQ rfl T.b_len boot_len (dx 0))))) (So (QX (Q9 QY (dr (Q9 QY (dx 0) (dr (Q9 Yy (dr (JX (Dk QI Dz) VQ)) (dv 2))))) (dx 0))))
def Qha(h:Df K mg "page_rows" GL MW)(T:Txt K mg)(bC:Fx P w K mg ab)(aB:LZ P w K mg ab)(aZ:FN P w K mg ab)(cn:FP P w K mg ab)(ax:LR P w K mg ab)(bt:Ft P w K mg ab)(bf:Fv P w K mg ab):Fe P w K mg ab:=J1 EE MW Ky 9 h (λnd=>λhr=>(by refine Ss (O1:=[]) ?_ ?_;exact(QW 2 nd (dc bt hr (dn 0 (dn 1 Dz))));refine Ss (O1:=[]) ?_ ?_;exact(QW 3 nd (dc ax hr (dn 0 (dn 2 Dz))));refine Ss (O1:=[4]) ?_ ?_;exact(YQ 4 nd SI);refine QdM (i:=4) ?_ ?_ ?_;refine Ii SRes.gr rfl PassesOwn.never ?_ ?_ ?_;exact(P6 rfl T.b_zip (dy 2) (dc bf hr (dn 0 (dn 2 Dz))));exact(Yr rfl (JT (O1:=[1004]) (Qb 5 nd) (JT (O1:=[1004]) (Qb 6 nd) Ys)) rfl);refine WE ?_;refine TQ (i:=4) (f:=Xg) (Vz (UM aB ?_ rfl (ZE (Zo rfl (by first|exact Or.inl rfl|exact Or.inr (Or.inl rfl)|exact Or.inr (Or.inr rfl))) ?_)));exact hr.mono (by decide);exact(dn 5 (Wk (JX (Dl (dc aZ hr (Du (dy 6) (Du (dy 6) (Du (QU (dv 1) (dr (JP T.g_WIDTH rfl))) Dz)))) Dz) VQ) Dz));refine Ii SRes.gr rfl PassesOwn.never ?_ ?_ ?_;exact(P6 rfl T.b_zip (Qe 0) (WD (dv 2) (Ve dq) XF));exact(Yr rfl (JT (O1:=[1004]) (Qb 7 nd) (JT (O1:=[1004]) (Qb 8 nd) Ys)) rfl);refine WE ?_;refine TQ (i:=4) (f:=Sa) (Vz (UM bC ?_ rfl (ZE (Zo rfl (by first|exact Or.inl rfl|exact Or.inr (Or.inl rfl)|exact Or.inr (Or.inr rfl))) ?_)));exact hr.mono (by decide);exact(dn 7 (dn 8 (dn 3 Dz)));refine YR 4 ?_;refine So ?_;refine QX ?_;refine YO ?_;refine Yj rfl rfl (Y0 (show Zl (Qp GL) EE _ 1 ["page","sheets","style"] [4,1]=true by decide+kernel)) (by decide) ?_ ?_ ?_ ?_;exact(Y7 (DC (Qe 4)));exact λ_ _ _ _ _ _=>Qb 0 (show List.Nodup (["page","sheets","style"]:List Str)by decide+kernel);exact λ_ _ _ _ _ _=>Wn;exact λ_ _ _ _ _ _=>(JD (dn 0 (Dl (dc cn hr (Du (P5 hr.units1 (dv 1) (dv 0)) (Du (QU (dv 2) (dr (JP T.g_HEIGHT rfl))) Dz))) Dz)) Zy)))
def Qgl(h:Df K mg "_law_cell_at" AA OC)(T:Txt K mg):LJ P w K mg ab:=J1 OC OC K7 0 h λnd=>λhr=>Ss (O1:=[]) (Qd (Vf Hi (dv 1) (dr (JJ JQ rfl T.b_len boot_len (dv 0))) (Z8 _)) (So (QX (QU (dv 0) (dv 1)))) Sn) (So (QX J3))
def QgB(h:Df K mg "_law_whole" AL OE)(T:Txt K mg):FL P w K mg ab:=J1 OE OE KR 0 h λnd=>λhr=>So (QX (SJ (dr (SK (Qe6 _) rfl T.b_isinstance boot_isinstance rfl T.b_int boot_int (dv 0))) (TK (Qdz (dr (SK (Qe5 _) rfl T.b_isinstance boot_isinstance rfl T.b_bool boot_bool (dv 0)))))))
def Qgs(h:Df K mg "_law_mix" AG ME)(T:Txt K mg):Rh P w K mg ab:=J1 Qa2 ME KG 0 h λnd=>λhr=>Ss (O1:=[]) (QW 2 nd (Q9 Ji (dr (Q9 Yy (dr (Q9 QY (dr (Q9 QY (dr (Q9 Ji (dv 0) dq)) (dr (Q9 Yy (dr (Q9 Yy (dv 1) (dv 1))) dq)))) dq)) dq)) dq)) (So (QX (Q9 Ji (dr (Q9 QY (dr (Q9 Yy (dv 2) (dv 2))) (dr (Q9 Yy dq (dv 1))))) dq)))
def Qgr(h:Df K mg "_law_label" AF MD)(T:Txt K mg):FA P w K mg ab:=J1 Qa1 MD EU 0 h λnd=>λhr=>by refine Ss (O1:=[]) ? _ ? _;exact QW 1 nd QI;refine So ? _;refine QX ? _;exact Q9 QY (dr (Q9 QY (dr (Q9 QY (dr (WD (dr QI) XF (Ve (dr (Q9 Ji (dr (Q9 Yy (dv 0) dq)) dq))))) (dr (QU (dv 1) (dr (Q9 Ji (dr (Q9 Yl (dv 0) dq)) dq)))))) (dr (QU (dv 1) (dr (Q9 Ji (dv 0) dq)))))) (dr (WD (dr QI) XF (Ve (dr (Q9 Ji (dr (Q9 Yy (dv 0) dq)) dq)))))
def Qgv(h:Df K mg "_law_plates" AH MH)(T:Txt K mg):FF P w K mg ab:=J1 Qa3 MH KJ 0 h (λnd=>λhr=>(by refine Ss (O1:=[]) ?_ ?_;exact(QW 2 nd J3);refine Ss (O1:=[]) ?_ ?_;exact(Ju rfl PassesOwn.never (Wm rfl T.b_range (dr (Q9 Ji (dr (Q9 Yl (dv 1) dq)) dq))) (Qb 3 nd) (So (QW 2 nd (Q9 Yy (dv 2) dq))));refine Ss (O1:=[]) ?_ ?_;exact(Qd (dE hr (dr (Q9 Ji (dr (Q9 Yl (dv 1) dq)) dq)) dq) (So (QW 2 nd (Q9 BX dq dq))) Sn);refine So ?_;refine QX ?_;refine QU ?_ ?_;refine dr ?_;refine JX ?_ ?_;exact(Db (Q9 QY dq (dr (Q9 Ji (dr (Q9 Yl (dv 1) dq)) dq))) (Db (Q9 VU (dr (Q9 VU (dv 2) dq)) (dr (Q9 Ji (dr (Q9 Yl (dv 1) dq)) dq))) (Db (Q9 QY dq (dr (Q9 Ji (dv 0) (dr (Q9 BX dq dq))))) Dz)));exact Zf;exact(dr (Q9 Ji (dr (Q9 Yl (dv 1) dq)) dq))))
def Qgy(h:Df K mg "_law_signs" AJ MK)(T:Txt K mg):FI P w K mg ab:=J1 Qa5 MK KO 0 h (λnd=>λhr=>(by refine Ss (O1:=[]) ?_ ?_;exact(QW 3 nd QI);refine Ss (O1:=[]) ?_ ?_;exact(QW 3 nd (Q9 QY (dv 3) (dr QI)));refine Ss (O1:=[]) ?_ ?_;exact(QW 4 nd QI);refine Ss (O1:=[]) ?_ ?_;refine Ju rfl PassesOwn.never ?_ ?_ ?_;exact(Wm rfl T.b_range (dv 1));exact Qb 5 nd;refine Ss (O1:=[]) ?_ ?_;exact(QW 6 nd (Q9 QY (dr (Q9 QY (dr (Q9 Yl (dv 0) dq)) (dr (Q9 Yy (dv 5) (dr (Q9 QY dq (dr (Q9 Ji (dv 0) dq)))))))) (dr (Q9 Yy (dv 5) (dv 5)))));refine Ss (O1:=[]) ?_ ?_;exact(QW 7 nd (QU (dv 3) (dr (Q9 Ji (dv 6) (dr (Q9 QY (dr (Q9 VU (dr (JJ JQ rfl T.b_len boot_len (dv 3))) dq)) (dv 2)))))));exact(Ss (O1:=[]) (Qd (PW.pt (Wo (dE hr (dv 2) dq) (Zv (dE hr (dr (Q9 Ji (dr (Q9 QY (dr (Q9 Yl (dv 0) dq)) (dv 5))) dq)) dq)))) (So (QW 7 nd QI)) Sn) (So (QW 4 nd (Q9 QY (dv 4) (dv 7)))));exact(So (QX (Qe 4)))))
def Qgk(h:Df K mg "_law_atom" Mt M7)(T:Txt K mg)(cy:FA P w K mg ab)(aE:Rh P w K mg ab)(bU:FF P w K mg ab)(br:FI P w K mg ab):Gv P w K mg ab:=J1 Le M7 K6 1 h (λnd=>λhr=>(by refine Ss (O1:=[]) ?_ ?_;exact(QW 2 nd (dc aE hr (dn 0 (Db (Q9 QY (dv 1) dq) Dz))));refine Ss (O1:=[]) ?_ ?_;exact(QW 3 nd (Q9 Ji (dv 2) dq));refine Ss (O1:=[]) ?_ ?_;exact(QW 4 nd (Q9 QY dq (dr (Q9 Ji (dr (Q9 Yl (dv 2) dq)) (dr (QU (dr (JX (Dk J3 (Dk J3 Dz)) Zy)) (dr (TL Ej rfl T.b_int boot_int (dr (YN (Wz hr.units) (dr (Q9 Ji (dr (Q9 Yl (dv 2) dq)) dq)) dq (Z8 _)))))))))));refine Ss (O1:=[]) ?_ ?_;exact(QW 5 nd (Q9 QY dq (dr (Q9 Ji (dr (Q9 Yl (dv 2) dq)) (dr (QU (dr (JX (Dk J3 (Dk J3 Dz)) Zy)) (dr (TL Ej rfl T.b_int boot_int (dr (YN (Wz hr.units) (dr (Q9 Ji (dr (Q9 Yl (dv 2) dq)) dq)) dq (Z8 _)))))))))));refine Ss (O1:=[]) ?_ ?_;exact(QW 6 nd (dc br hr (Db (Q9 Yl (dv 2) dq) (dn 4 (Dk J3 Dz)))));refine Ss (O1:=[]) ?_ ?_;exact(QW 7 nd (dc br hr (Db (Q9 Yl (dv 2) dq) (dn 4 (Dk J3 Dz)))));refine Ss (O1:=[]) ?_ ?_;exact(QW 8 nd (dc cy hr (dn 1 Dz)));refine Ss (O1:=[]) ?_ ?_;exact(QW 9 nd (Qe 8));refine Ss (O1:=[]) ?_ ?_;exact(Qd (dE hr (dr (Q9 Ji (dr (Q9 Yl (dv 2) dq)) dq)) dq) (So (QW 9 nd QI)) Sn);refine Ss (O1:=[]) ?_ ?_;exact(Qd (dE hr (dv 3) dq) (So (QX (JD (Dk QI (Db (Q9 QY (dx 7) (dr (D5 (dv 6)))) (dn 9 Dz))) Zf))) Sn);refine Ss (O1:=[]) ?_ ?_;exact(Qd (dE hr (dv 3) dq) (So (QX (JD (Dk QI (Db (Q9 QY (dx 7) (dr (D5 (dv 6)))) (Db (Q9 VU (dv 5) dq) (dn 9 Dz)))) Wx))) Sn);refine Ss (O1:=[]) ?_ ?_;refine Qd ?_ ?_ ?_;exact(dE hr (dv 3) dq);refine So ?_;refine QX ?_;refine JD ?_ ?_;refine Dk ?_ ?_;exact QI;refine NK ?_ ?_;refine YO ?_;refine Yj rfl rfl (Y0 (show Zl (Qp Mt) Le _ 1 ["_law_j","_law_text","_law_size"] [6,4]=true by decide+kernel)) (by decide) ?_ ?_ ?_ ?_;exact(Y7 (Wm rfl T.b_range (dv 5)));exact λ_ _ _ _ _ _=>Qb 0 (show List.Nodup (["_law_j","_law_text","_law_size"]:List Str)by decide+kernel);exact λ_ _ _ _ _ _=>Wn;exact λ_ _ _ _ _ _=>(WD (dv 1) XF (Ve (dr (UA (U6 rfl) rfl T.b_max boot_max dq (dr (Q9 VU (dv 2) (dv 0)))))));exact(dn 9 Dz);exact Zf;exact Sn;refine Ss (O1:=[]) ?_ ?_;exact(Qd (dE hr (dv 3) dq) (So (QX (JD (Dk QI (Dl (dc bU hr (dn 0 (dn 2 Dz))) (dn 9 Dz))) Zf))) Sn);refine Ss (O1:=[]) ?_ ?_;exact(Qd (dE hr (dv 3) dq) (So (QX (JD (Dk QI (Dk QI (Dk QI Dz))) Zf))) Sn);refine Ss (O1:=[]) ?_ ?_;exact(Qd (Vf Hi (dv 3) dq (Z8 _)) (So (QX (JD (Dk QI (dn 8 Dz)) Zy))) Sn);refine Ss (O1:=[]) ?_ ?_;exact(Qd (dE hr (dv 3) dq) (So (QX (JD (Dk QI (Du (WD (dr (Q9 Yy (dv 7) dq)) XF (Ve (dr (Q9 QY dq (dr (Q9 Ji (dr (Q9 Yl (dv 2) dq)) dq)))))) Dz)) Zy))) Sn);refine Ss (O1:=[]) ?_ ?_;refine Qd ?_ ?_ ?_;exact(Vf Hi (dv 3) dq (Z8 _));refine So ?_;refine QX ?_;refine JD ?_ ?_;refine Dk ?_ ?_;exact QI;exact(Dk QI (Du (WD (dv 7) XF (Ve (dr (Q9 Ji (dr (Q9 Yl (dv 2) dq)) dq)))) (Dl (dc br hr (Db (Q9 Yl (dv 2) dq) (Db (Q9 Ji (dr (Q9 Yl (dv 2) dq)) dq) (Dk J3 Dz)))) Dz)));exact Wx;exact Sn;refine Ss (O1:=[]) ?_ ?_;refine Qd ?_ ?_ ?_;exact(dE hr (dv 3) dq);refine So ?_;refine QX ?_;refine JD ?_ ?_;refine Dk ?_ ?_;exact QI;refine D3 ?_ ?_;exact Qe 7;refine NK ?_ ?_;refine YO ?_;refine Yj rfl rfl (Y0 (show Zl (Qp Mt) Le _ 1 ["_law_j","_law_text"] [6]=true by decide+kernel)) (by decide) ?_ ?_ ?_ ?_;exact(Y7 (Wm rfl T.b_range (dv 5)));exact λ_ _ _ _ _ _=>Qb 0 (show List.Nodup (["_law_j","_law_text"]:List Str)by decide+kernel);exact λ_ _ _ _ _ _=>Wn;exact λ_ _ _ _ _ _=>(WD (dv 1) (Ve (dv 0)) XF);exact Dz;exact Zf;exact Sn;exact(So (QX (JD (Dk QI (dn 7 (Wk (JX Dz Z7) Dz))) Zf)))))
def Qgw(h:Df K mg "_law_pointed" AI MI)(T:Txt K mg)(aE:Rh P w K mg ab):FG P w K mg ab:=J1 Qa4 MI KL 1 h (λnd=>λhr=>(by refine Ss (O1:=[2]) ?_ ?_;exact(YQ 2 nd (Vc Dz Z7));refine Ss (O1:=[2]) ?_ ?_;refine Ju rfl PassesOwn.never ?_ ?_ ?_;exact(Jn (Qe 0));exact Qb 3 nd;refine So ?_;refine Qd ?_ ?_ ?_;exact(dE hr (dx 3) (dr QI));exact(So (Zd 2 (by decide) (dy 3)));refine So ?_;exact(Qd (PW.pt (Wo (Vf BW (dx 3) (dr (JX (Dk QI (Dk QI (Dk QI (Dk QI Dz)))) Wx)) (by with_unfolding_all rfl)) (Zv (dF hr (dr (QU (dv 3) (dr (SN dq)))) (dr QI))))) (So (Zd 2 (by decide) (QU (dv 3) (dr (SN dq))))) Sn);refine Ss (O1:=[2,4]) ?_ ?_;exact(YQ 4 nd (Vc Dz Z7));refine Ss (O1:=[2,4]) ?_ ?_;refine Ju rfl PassesOwn.never ?_ ?_ ?_;exact(NM rfl T.b_enumerate (Qe 0));exact(Yr rfl (JT (O1:=[2,4]) (Qb 5 nd) (JT (O1:=[2,4]) (Qb 3 nd) Ys)) rfl);refine So ?_;refine Qd ?_ ?_ ?_;exact(PW.pt (Wo (dE hr (dx 3) (dr QI)) (Zv (dE hr (Yt 2) (dr (JX Dz Z7))))));exact(So (Zd 4 (by decide) (JD (Dk QI (Dk QI (Wk (JX Dz Z7) Dz))) Zf)));refine So ?_;refine Qd ?_ ?_ ?_;exact(dE hr (dx 3) (dr QI));exact(Ss (O1:=[2,4]) (QW 6 nd (QU (Yt 2) (dr (Q9 Ji (dr (dc aE hr (Du (QU (dv 1) (dv 5)) (Db (Q9 QY (dv 5) dq) Dz)))) (dr (JJ JQ rfl T.b_len boot_len (Yt 2))))))) (So (Zd 4 (by decide) (JD (Dk QI (dn 6 (Du (dy 3) (Du (dy 3) Dz)))) Wx))));exact(So (Zd 4 (by decide) (Qe 3)));exact(YR 4 (So (QX (Qe 4))))))
def Qgp(h:Df K mg "_law_grouped" AD MB)(T:Txt K mg):Gz P w K mg ab:=J1 QaZ MB KC 0 h (λnd=>λhr=>(by refine Ss (O1:=[1]) ?_ ?_;exact(YQ 1 nd (Vc Dz Z7));refine Ss (O1:=[1,2]) ?_ ?_;exact(YQ 2 nd (Vc Dz Z7));refine Ss (O1:=[1,2]) ?_ ?_;refine Ju rfl PassesOwn.never ?_ ?_ ?_;exact(Jn (Q9 QY (dv 0) (dr (JX (Dt (JD (Dk QI (Dk QI (Dk QI Dz))) Zf) Dz) VQ))));exact Qb 3 nd;refine Ss (O1:=[1,2]) ?_ ?_;exact(Qd (Vf M6 (dx 3) (dr (JX (Dk QI (Dk QI (Dk QI (Dk QI Dz)))) Wx)) (by with_unfolding_all rfl)) (Ss (O1:=[1,2]) (Zd 2 (by decide) (Qe 3)) (So QdH)) Sn);refine Ss (O1:=[1,2]) ?_ ?_;exact(Qd (PW.pt (Wo (dF hr (Yt 2) (dr (JX Dz Z7))) (Zv (Vf M6 (dr (QU (dr (QU (Yt 2) (dr (SN dq)))) dq)) (dr (JX (Dk QI (Dk QI Dz)) Zy)) (by with_unfolding_all rfl))))) (So (Zd 2 (by decide) (JD (Dk QI (Dk QI (Wk (JX Dz Z7) Dz))) Zf))) Sn);exact(Ss (O1:=[1]) (Qd (PW.pt (WG (dF hr (Yt 2) (dr (JX Dz Z7))) (Zv (dE hr (dx 3) (dr QI))))) (YR 2 (So (Zd 1 (by decide) (JD (Dk QI (dn 2 Dz)) Zy)))) (DL 2 [1,2] Sn)) (Ss (O1:=[1,2]) (YQ 2 nd (Vc Dz Z7)) (So (Qd (Vf BW (dx 3) (dr (JX (Dk QI (Dk QI Dz)) Zy)) (by with_unfolding_all rfl)) (So (Zd 1 (by decide) (Qe 3))) Sn))));exact(YR 1 (So (QX (Qe 1))))))
def Qgo(h:Df K mg "_law_edge" G7 MA)(T:Txt K mg)(ak:LJ P w K mg ab)(aE:Rh P w K mg ab):Gy P w K mg ab:=J1 E6 MA KA 1 h (λnd=>λhr=>(by refine Ss (O1:=[]) ?_ ?_;exact(Qd (PW.pt (WG (Jx (dx 1)) (Zv (dF hr (dr (Q9 Ji (dr (dc ak hr (dn 0 (Dk J3 Dz)))) dq)) dq)))) (So (QX (JX Dz Z7))) Sn);refine Ss (O1:=[]) ?_ ?_;exact(QW 2 nd (Q9 QY dq (dr (Q9 Ji (dr (dc aE hr (Dl (dc ak hr (dn 0 (Dk J3 Dz))) (Dk J3 Dz)))) dq))));refine Ss (O1:=[]) ?_ ?_;exact(QW 3 nd J3);refine Ss (O1:=[]) ?_ ?_;exact(Ju rfl PassesOwn.never (Wm rfl T.b_range (dv 2)) (Qb 4 nd) (So (QW 3 nd (Q9 Yy (dv 3) dq))));refine Ss (O1:=[]) ?_ ?_;refine QW 5 nd ?_;refine JX ?_ ?_;exact(Dt (JD (Dk QI (Db (Q9 Yy (dr QI) (dr (UA (U6 rfl) rfl T.b_max boot_max dq (dr (Q9 VU (dr (Q9 VU (dx 1) dq)) (dv 2)))))) (Wk (JX Dz Z7) Dz))) Zf) (Dt (JD (Dk QI (Dk QI Dz)) Zy) (Dt (JD (Dk QI (Dk QI (Dk QI (Dk QI Dz)))) Wx) Dz)));exact Zf;refine So ?_;refine QX ?_;refine JX ?_ ?_;refine Dt ?_ ?_;exact(JD (Dk QI (Db (Q9 VU (dv 3) dq) (Dk QI Dz))) Zf);refine Dt ?_ ?_;refine JD ?_ ?_;refine Dk ?_ ?_;exact QI;refine NK ?_ ?_;refine YO ?_;refine Yj rfl rfl (Y0 (show Zl (Qp G7) E6 _ 1 ["_law_k"] []=true by decide+kernel)) (by decide) ?_ ?_ ?_ ?_;exact(Y7 (Wm rfl T.b_range (dr (Q9 VU (dx 1) dq))));exact λ_ _ _ _ _ _=>Qb 0 (show List.Nodup (["_law_k"]:List Str)by decide+kernel);exact λ_ _ _ _ _ _=>Wn;exact λ_ _ _ _ _ _=>QI;exact(Dk QI Dz);exact Zf;exact(Dt (JD (Dk QI (dn 5 Dz)) Zy) Dz);exact Zf))
def Qgu(h:Df K mg "_law_needs" Uw MG)(T:Txt K mg):FE P w K mg ab:=J1 T7 MG KI 0 h (λnd=>λhr=>(by refine Ss (O1:=[]) ?_ ?_;exact(QW 2 nd J3);refine Ss (O1:=[]) ?_ ?_;exact(QW 3 nd J3);refine Ss (O1:=[]) ?_ ?_;refine Ju rfl PassesOwn.never ?_ ?_ ?_;exact(Jn (Qe 0));exact Qb 4 nd;refine Ss (O1:=[]) ?_ ?_;exact(Qd (PW.pt (WG (dE hr (dx 4) (dr QI)) (Zv (dE hr (dx 4) (dr QI))))) (So (QW 2 nd (UA (U6 rfl) rfl T.b_max boot_max (dv 2) (dr (Q9 QY (dr (Q9 QY (dr (JJ JQ rfl T.b_len boot_len (dx 4))) dq)) (dv 1)))))) Sn);refine Ss (O1:=[]) ?_ ?_;exact(Qd (dE hr (dx 4) (dr QI)) (So (QW 3 nd (UA (U6 rfl) rfl T.b_max boot_max (dv 3) (dr (Q9 QY (dx 4) dq))))) Sn);refine Ss (O1:=[]) ?_ ?_;refine Qd ?_ ?_ ?_;exact(dE hr (dx 4) (dr QI));refine Ss (O1:=[]) ?_ ?_;exact(QW 3 nd (UA (U6 rfl) rfl T.b_max boot_max (dv 3) (dr (JJ JQ rfl T.b_len boot_len (dx 4)))));refine So ?_;refine QW 2 nd ?_;refine JJ (Rw rfl) rfl T.b_max boot_max ?_;refine dr ?_;refine Q9 QY ?_ ?_;exact(dr (JX (dn 2 Dz) VQ));refine dr ?_;refine YO ?_;refine Yj rfl rfl (Y0 (show Zl (Qp Uw) T7 _ 1 ["_law_row"] []=true by decide+kernel)) (by decide) ?_ ?_ ?_ ?_;exact(Y7 (Jn (dy 4)));exact λ_ _ _ _ _ _=>Qb 0 (show List.Nodup (["_law_row"]:List Str)by decide+kernel);exact λ_ _ _ _ _ _=>Wn;exact λ_ _ _ _ _ _=>(JJ JQ rfl T.b_len boot_len (dv 0));exact Sn;refine So ?_;refine Qd ?_ ?_ ?_;exact(dE hr (dx 4) (dr QI));refine Ss (O1:=[]) ?_ ?_;refine QW 2 nd ?_;refine JJ (Rw rfl) rfl T.b_max boot_max ?_;refine dr ?_;refine Q9 QY ?_ ?_;exact(dr (JX (dn 2 Dz) VQ));refine dr ?_;refine YO ?_;refine Yj rfl rfl (Y0 (show Zl (Qp Uw) T7 _ 1 ["_law_item","_law_room"] [1]=true by decide+kernel)) (by decide) ?_ ?_ ?_ ?_;exact(Y7 (Jn (dy 4)));exact λ_ _ _ _ _ _=>Qb 0 (show List.Nodup (["_law_item","_law_room"]:List Str)by decide+kernel);exact λ_ _ _ _ _ _=>(XE (dE hr (dx 0) (dr QI)));exact λ_ _ _ _ _ _=>(Q9 QY (dr (Q9 QY (dr (JJ JQ rfl T.b_len boot_len (dx 0))) (dv 1))) (dr (JJ JQ rfl T.b_len boot_len (dx 0))));refine Ss (O1:=[]) ?_ ?_;refine QW 2 nd ?_;refine JJ (Rw rfl) rfl T.b_max boot_max ?_;refine dr ?_;refine Q9 QY ?_ ?_;exact(dr (JX (dn 2 Dz) VQ));refine dr ?_;refine YO ?_;refine Yj rfl rfl (Y0 (show Zl (Qp Uw) T7 _ 1 ["_law_item"] []=true by decide+kernel)) (by decide) ?_ ?_ ?_ ?_;exact(Y7 (Jn (dy 4)));exact λ_ _ _ _ _ _=>Qb 0 (show List.Nodup (["_law_item"]:List Str)by decide+kernel);exact λ_ _ _ _ _ _=>(XE (dE hr (dx 0) (dr QI)));exact λ_ _ _ _ _ _=>(JJ JQ rfl T.b_len boot_len (dx 0));refine Ss (O1:=[5]) ?_ ?_;refine NQ 5 nd rfl rfl (Y0 (show Zl (Qp Uw) T7 _ 1 ["_law_item"] []=true by decide+kernel)) (by decide) ?_ ?_ ?_ ?_;exact(Y7 (Jn (dy 4)));exact λ_ _ _ _ _ _=>Qb 0 (show List.Nodup (["_law_item"]:List Str)by decide+kernel);exact λ_ _ _ _ _ _=>(XE (dE hr (dx 0) (dr QI)));exact λ_ _ _ _ _ _=>(dy 0);refine Ss (O1:=[5]) ?_ ?_;refine QW 3 nd ?_;refine JJ (Rw rfl) rfl T.b_max boot_max ?_;refine dr ?_;refine Q9 QY ?_ ?_;exact(dr (JX (dn 3 Dz) VQ));refine dr ?_;refine YO ?_;refine Yj rfl rfl (Y0 (show Zl (Qp Uw) T7 _ 1 ["_law_rows"] []=true by decide+kernel)) (by decide) ?_ ?_ ?_ ?_;exact QdC 5;exact λ_ _ _ _ _ _=>Qb 0 (show List.Nodup (["_law_rows"]:List Str)by decide+kernel);exact λ_ _ _ _ _ _=>Wn;exact λ_ _ _ _ _ _=>(Q9 QY dq (dr (JJ JQ rfl T.b_len boot_len (dv 0))));refine YR 5 ?_;refine So ?_;refine Ju rfl PassesOwn.never ?_ ?_ ?_;exact(Jn (Qe 5));exact Qb 6 nd;refine So ?_;refine QW 2 nd ?_;refine JJ (Rw rfl) rfl T.b_max boot_max ?_;refine dr ?_;refine Q9 QY ?_ ?_;exact(dr (JX (dn 2 Dz) VQ));refine dr ?_;refine YO ?_;refine Yj rfl rfl (Y0 (show Zl (Qp Uw) T7 _ 1 ["_law_row"] []=true by decide+kernel)) (by decide) ?_ ?_ ?_ ?_;exact(Y7 (Jn (Qe 6)));exact λ_ _ _ _ _ _=>Qb 0 (show List.Nodup (["_law_row"]:List Str)by decide+kernel);exact λ_ _ _ _ _ _=>Wn;exact λ_ _ _ _ _ _=>(JJ JQ rfl T.b_len boot_len (dv 0));exact Sn;exact(So (QX (JD (dn 2 (dn 3 Dz)) Zy)))))
def Qgt(h:Df K mg "_law_most" G8 MF)(T:Txt K mg):FC P w K mg ab:=J1 E7 MF KH 0 h (λnd=>λhr=>(by refine Ss (O1:=[]) ?_ ?_;exact(QW 2 nd J3);refine Ss (O1:=[]) ?_ ?_;refine Ju rfl PassesOwn.never ?_ ?_ ?_;exact(Jn (Qe 0));exact Qb 3 nd;refine Ss (O1:=[]) ?_ ?_;exact(QW 2 nd (Q9 QY (dv 2) dq));refine Ss (O1:=[]) ?_ ?_;exact(Qd (PW.pt (Wo (Jx (dv 1)) (Zv (PW.pt (WG (dE hr (dx 3) (dr QI)) (Zv (dE hr (dx 3) (dr QI)))))))) (So (QW 2 nd (Q9 QY (dv 2) dq))) Sn);refine Ss (O1:=[]) ?_ ?_;exact(Qd (dE hr (dx 3) (dr QI)) (So (QW 2 nd (Q9 QY (dv 2) (dx 3)))) Sn);refine So ?_;refine Qd ?_ ?_ ?_;exact(dE hr (dx 3) (dr QI));refine So ?_;refine QW 2 nd ?_;refine Q9 QY ?_ ?_;exact(dv 2);refine dr ?_;refine Q9 Yy ?_ ?_;exact dq;refine dr ?_;refine JJ JQ rfl T.b_len boot_len ?_;refine dr ?_;refine YO ?_;refine Yj rfl rfl (Y0 (show Zl (Qp G8) E7 _ 1 ["_law_item"] []=true by decide+kernel)) (by decide) ?_ ?_ ?_ ?_;exact(Y7 (Jn (dy 3)));exact λ_ _ _ _ _ _=>Qb 0 (show List.Nodup (["_law_item"]:List Str)by decide+kernel);exact λ_ _ _ _ _ _=>(XE (PW.pt (WG (dE hr (dx 0) (dr QI)) (Zv (dE hr (dx 0) (dr QI))))));exact λ_ _ _ _ _ _=>Qe 0;exact Sn;exact(So (QX (Qe 2)))))
def Qgn(h:Df K mg "_law_drawn" Mu M9)(T:Txt K mg)(cK:Gv P w K mg ab)(ak:LJ P w K mg ab)(b6:Gy P w K mg ab)(bH:Gz P w K mg ab)(aE:Rh P w K mg ab)(cI:FC P w K mg ab)(cw:FE P w K mg ab)(bG:FG P w K mg ab):Gx P w K mg ab:=J1 Lf M9 K9 2 h (λnd=>λhr=>(by refine Ss (O1:=[]) ?_ ?_;exact(QW 1 nd (Q9 QY (dr (WD (dv 0) XF (Ve dq))) (dr (JX (Dk J3 Dz) VQ))));refine Ss (O1:=[2]) ?_ ?_;refine NQ 2 nd rfl rfl (Y0 (show Zl (Qp Mu) Lf _ 1 ["_law_k","_law_every"] [1]=true by decide+kernel)) (by decide) ?_ ?_ ?_ ?_;exact(Y7 (Wm rfl T.b_range (dr (Q9 Ji (dr (dc aE hr (Dl (dc ak hr (dn 0 (Dk J3 Dz))) (Dk J3 Dz)))) dq))));exact λ_ _ _ _ _ _=>Qb 0 (show List.Nodup (["_law_k","_law_every"]:List Str)by decide+kernel);exact λ_ _ _ _ _ _=>Wn;exact λ_ _ _ _ _ _=>(QU (dv 1) (dr (Q9 Ji (dv 0) (dr (JJ JQ rfl T.b_len boot_len (dv 1))))));refine YR 2 ?_;refine Ss (O1:=[]) ?_ ?_;refine QW 3 nd ?_;refine dc bH hr ?_;refine Dl ?_ ?_;refine dc bG hr ?_;refine NK ?_ ?_;refine YO ?_;refine Yj rfl rfl (Y0 (show Zl (Qp Mu) Lf _ 2 ["_law_k","_law_cell"] []=true by decide+kernel)) (by decide) ?_ ?_ ?_ ?_;exact(Y7 (NM rfl T.b_enumerate (Qe 2)));exact λ_ _ _ _ _ _=>(Yr rfl (JT (O1:=[]) (Qb 0 (show List.Nodup (["_law_k","_law_cell"]:List Str)by decide+kernel)) (JT (O1:=[]) (Qb 1 (show List.Nodup (["_law_k","_law_cell"]:List Str)by decide+kernel)) Ys)) rfl);exact λ_ _ _ _ _ _=>Wn;exact λ_ _ _ _ _ _=>(dc cK hr (dn 1 (dn 0 Dz)));exact(dn 2 Dz);exact Dz;refine Ss (O1:=[]) ?_ ?_;exact(QW 4 nd (YN (Wz hr.units) (dr (Q9 Ji (dr (dc ak hr (dn 0 (Dk J3 Dz)))) dq)) dq (Z8 _)));refine Ss (O1:=[]) ?_ ?_;exact(QW 5 nd (dc b6 hr (dn 0 (Dt (JD (Dk J3 (Dk J3 (Dk WC (dn 4 Dz)))) Wx) Dz))));refine Ss (O1:=[]) ?_ ?_;exact(QW 6 nd (JJ JQ rfl T.b_len boot_len (dr (TL Rx rfl T.b_str boot_str (dr (dc cI hr (Db (Q9 QY (dv 5) (dv 3)) (dn 4 Dz))))))));refine Ss (O1:=[]) ?_ ?_;exact(P8 (dc cw hr (Db (Q9 QY (dv 3) (dv 5)) (dn 6 Dz))) (Yr rfl (JT (O1:=[]) (Qb 7 nd) (JT (O1:=[]) (Qb 8 nd) Ys)) rfl));refine Ss (O1:=[]) ?_ ?_;exact(Qd (dF hr (dv 5) (dr (JX Dz Z7))) (So (QW 7 nd (UA (U6 rfl) rfl T.b_max boot_max (dv 7) (dr (Q9 QY (dv 6) dq))))) Sn);refine Ss (O1:=[]) ?_ ?_;exact(QW 9 nd (UA (U6 rfl) rfl T.b_max boot_max (dv 7) (dr (Q9 QY dq (dr (Q9 Ji (dr (dc aE hr (Dl (dc ak hr (dn 0 (Dk J3 Dz))) (Dk J3 Dz)))) dq))))));refine Ss (O1:=[]) ?_ ?_;exact(QW 10 nd (UA (U6 rfl) rfl T.b_max boot_max (dv 8) (dr (Q9 QY dq (dr (Q9 Ji (dr (dc aE hr (Dl (dc ak hr (dn 0 (Dk J3 Dz))) (Dk J3 Dz)))) dq))))));refine Ss (O1:=[]) ?_ ?_;exact(Qd (dE hr (dr (Q9 Ji (dr (dc ak hr (dn 0 (Dk J3 Dz)))) dq)) dq) (So (QW 10 nd (UA (U6 rfl) rfl T.b_max boot_max (dv 8) (dr (Q9 QY dq (dr (Q9 Ji (dr (dc aE hr (Dl (dc ak hr (dn 0 (Dk J3 Dz))) (Dk J3 Dz)))) dq))))))) Sn);exact(Ss (O1:=[]) (QW 11 nd (JD (dn 9 (dn 10 (Qdv (YN (Wz hr.units) (dr (Q9 Ji (dr (dc ak hr (dn 0 (Dk J3 Dz)))) dq)) dq (Z8 _)) (dn 4 Dz)))) Wx)) (So (QX (JD (Db (Q9 QY (dr (dc b6 hr (dn 0 (dn 11 Dz)))) (dv 3)) (dn 11 (dn 6 Dz))) Zf))))))
def Qgm(h:Df K mg "_law_copy" AB M8)(T:Txt K mg):Gw P w K mg ab:=J1 QaY M8 K8 0 h (λnd=>λhr=>(by refine Ss (O1:=[1]) ?_ ?_;exact(YQ 1 nd (Vc Dz Z7));refine Ss (O1:=[1]) ?_ ?_;refine Ju rfl PassesOwn.never ?_ ?_ ?_;exact(Jn (Qe 0));exact Qb 2 nd;refine So ?_;refine Qd ?_ ?_ ?_;exact(dE hr (dx 2) (dr QI));refine Ss (O1:=[1,3]) ?_ ?_;exact(YQ 3 nd (Vc Dz Z7));refine Ss (O1:=[1,3]) ?_ ?_;exact(Ju rfl PassesOwn.never (Jn (dy 2)) (Qb 4 nd) (So (Qd (dE hr (dx 4) (dr QI)) (So (Zd 3 (by decide) (JD (Dk QI (Du (dy 4) (Dl (YO (D1 rfl T.b_list boot_list (dx 4))) Dz))) Zf))) (So (Zd 3 (by decide) (Qe 4))))));exact(YR 3 (So (Zd 1 (by decide) (JD (Dk QI (dn 3 Dz)) Zy))));exact(So (Qd (dE hr (dx 2) (dr QI)) (So (Zd 1 (by decide) (JD (Dk QI (Dl (YO (D1 rfl T.b_list boot_list (dx 2))) (Du (dy 2) Dz))) Zf))) (So (Zd 1 (by decide) (Qe 2)))));exact(YR 1 (So (QX (Qe 1))))))
def Qgq(h:Df K mg "_law_heads" AE MC)(T:Txt K mg):F9 P w K mg ab:=J1 Qa0 MC KD 0 h (λnd=>λhr=>(by refine Ss (O1:=[2]) ?_ ?_;exact(YQ 2 nd (Vc Dz Z7));refine Ss (O1:=[2]) ?_ ?_;refine Ju rfl PassesOwn.never ?_ ?_ ?_;exact(Wm rfl T.b_range (dr (JJ JQ rfl T.b_len boot_len (dv 0))));exact Qb 3 nd;refine Ss (O1:=[2]) ?_ ?_;exact(QW 4 nd (QU (dv 0) (dv 3)));refine Ss (O1:=[2]) ?_ ?_;exact(Qd (PW.pt (Wo (dF hr (dx 4) (dr QI)) (Zv (dF hr (dr (QU (dv 4) (dr (SN dq)))) (dr QI))))) (So (Zd 2 (by decide) (JD (Du (QU (dv 4) (dr (SN dq))) (Du (QU (dr (QU (dr (QU (dv 1) (dr (Q9 QY (dv 3) dq)))) dq)) dq) Dz)) Zy))) Sn);refine So ?_;refine Qd ?_ ?_ ?_;exact(dE hr (dx 4) (dr QI));refine Ss (O1:=[2]) ?_ ?_;exact(QW 5 nd J3);refine So ?_;refine Ju rfl PassesOwn.never ?_ ?_ ?_;exact(Jn (dy 4));exact Qb 6 nd;exact(Ss (O1:=[2]) (Qd (dE hr (dx 6) (dr QI)) (So (Zd 2 (by decide) (JD (Du (dy 6) (Du (QU (dr (QU (dr (QU (dv 1) (dr (Q9 QY (dv 3) dq)))) (dv 5))) dq) Dz)) Zy))) Sn) (So (Qd (PW.pt (WG (dE hr (dx 6) (dr QI)) (Zv (dE hr (dx 6) (dr QI))))) (So (QW 5 nd (Q9 QY (dv 5) dq))) Sn)));exact Sn;exact(YR 2 (So (QX (Qe 2))))))
def QgA(h:Df K mg "_law_things" GA ML)(T:Txt K mg)(cz:F9 P w K mg ab):FK P w K mg ab:=J1 E9 ML KQ 1 h (λnd=>λhr=>(by refine Ss (O1:=[2]) ?_ ?_;exact(YQ 2 nd SI);refine Ss (O1:=[2]) ?_ ?_;exact(Ju rfl PassesOwn.never (Jn (dc cz hr (dn 0 (dn 1 Dz)))) (Yr rfl (JT (O1:=[2]) (Qb 3 nd) (JT (O1:=[2]) (Qb 4 nd) Ys)) rfl) (So (TR 2 (by decide) hr.units1 (dv 3) (Qe 4))));refine Ss (O1:=[2,5]) ?_ ?_;exact(YQ 5 nd (Vc Dz Z7));refine Ss (O1:=[2,5]) ?_ ?_;refine Ju rfl PassesOwn.never ?_ ?_ ?_;exact(Wm rfl T.b_range (dr (JJ JQ rfl T.b_len boot_len (dv 0))));exact Qb 6 nd;refine Ss (O1:=[2,5]) ?_ ?_;exact(QW 7 nd (QU (dv 0) (dv 6)));refine Ss (O1:=[2,5]) ?_ ?_;exact(Qd (PW.pt (WG (dE hr (dx 7) (dr QI)) (Zv (dE hr (dx 7) (dr QI))))) (So (Zd 5 (by decide) (JD (Du (QU (dr (QU (dv 1) (dr (Q9 QY (dv 6) dq)))) dq) (Du (dy 7) (Wk (JX Dz Z7) Dz))) Zf))) Sn);refine Ss (O1:=[2,5]) ?_ ?_;refine Qd ?_ ?_ ?_;exact(dE hr (dx 7) (dr QI));refine Ss (O1:=[2,5]) ?_ ?_;exact(P8 (QU (dr (QU (dv 1) (dr (Q9 QY (dv 6) dq)))) dq) (Yr rfl (JT (O1:=[2,5]) (Qb 4 nd) (JT (O1:=[2,5]) (Qb 8 nd) (JT (O1:=[2,5]) (Qb 9 nd) Ys))) rfl));refine So ?_;exact(Ju rfl PassesOwn.never (Wm rfl T.b_range (dr (JJ JQ rfl T.b_len boot_len (dx 7)))) (Qb 10 nd) (So (Zd 5 (by decide) (JD (Dt (JD (dn 4 (Db (Q9 QY (dv 8) (dv 10)) (dn 9 Dz))) Zf) (Du (QU (dx 7) (dv 10)) (Wk (JX Dz Z7) Dz))) Zf))));exact Sn;refine So ?_;refine Qd ?_ ?_ ?_;exact(dE hr (dx 7) (dr QI));refine DL 11 [2,5,11] ?_;refine Ss (O1:=[2,5,11]) ?_ ?_;refine NQ 11 nd rfl rfl (Y0 (show Zl (Qp GA) E9 _ 1 ["_law_item"] []=true by decide+kernel)) (by decide) ?_ ?_ ?_ ?_;exact(Y7 (Jn (dy 7)));exact λ_ _ _ _ _ _=>Qb 0 (show List.Nodup (["_law_item"]:List Str)by decide+kernel);exact λ_ _ _ _ _ _=>(XE (PW.pt (WG (dE hr (dx 0) (dr QI)) (Zv (dE hr (dx 0) (dr QI))))));exact λ_ _ _ _ _ _=>Qe 0;refine So ?_;refine Ju rfl PassesOwn.never ?_ ?_ ?_;exact(Wm rfl T.b_range (dr (JJ JQ rfl T.b_len boot_len (Yt 11))));exact Qb 10 nd;refine So ?_;refine Qd ?_ ?_ ?_;exact(dE hr (dr (QU (dr (QU (Yt 11) (dv 10))) dq)) (dr QI));exact(So (Zd 5 (by decide) (JD (Du (QU (dr (QU (dv 1) (dr (Q9 QY (dv 6) dq)))) (dv 10)) (Du (QU (dr (QU (Yt 11) (dv 10))) dq) (Du (QU (dr (QU (Yt 11) (dv 10))) dq) Dz))) Zf)));exact(Ss (O1:=[2,5,11]) (P8 (QU (Yt 11) (dv 10)) (Yr rfl (JT (O1:=[2,5,11]) (Qb 12 nd) (JT (O1:=[2,5,11]) (Qb 3 nd) (JT (O1:=[2,5,11]) (Qb 13 nd) (JT (O1:=[2,5,11]) (Qb 14 nd) Ys)))) rfl)) (So (Zd 5 (by decide) (JD (Du (QU (dr (QU (dv 1) (dr (Q9 QY (dv 6) dq)))) (dv 10)) (Db (Q9 QY (dr (Q9 QY (dv 13) (dr (TL Rx rfl T.b_str boot_str (dr (P5 hr.units1 (Yt 2) (dv 3))))))) (dv 14)) (Wk (JX Dz Z7) Dz))) Zf))));exact Sn;exact(YR 5 (So (QX (Qe 5))))))
def Qgx(h:Df K mg "_law_shaped" G9 MJ)(T:Txt K mg)(cq:FL P w K mg ab):FH P w K mg ab:=J1 E8 MJ KN 1 h (λnd=>λhr=>(by refine Ss (O1:=[]) ?_ ?_;exact(Qd (Xd (Jx (dr (SK (Cb _) rfl T.b_isinstance boot_isinstance rfl T.b_list boot_list (dv 0))))) (So (QX WC)) Sn);refine Ss (O1:=[]) ?_ ?_;refine Ju rfl PassesOwn.never ?_ ?_ ?_;exact(Wm rfl T.b_range (dr (JJ JQ rfl T.b_len boot_len (dv 0))));exact Qb 2 nd;refine Ss (O1:=[]) ?_ ?_;refine Qd ?_ ?_ ?_;refine PW.pt ?_;exact(WG (Xd (Jx (dr (SK (Qe8 _) rfl T.b_isinstance boot_isinstance rfl T.b_tuple boot_tuple (dr (QU (dv 0) (dv 2))))))) (WG (dF hr (dr (JJ JQ rfl T.b_len boot_len (dr (QU (dv 0) (dv 2))))) dq) (Zv (Xd (Jx (dr (dc cq hr (Du (QU (dr (QU (dv 0) (dv 2))) dq) Dz))))))));exact(So (QX WC));exact Sn;refine Ss (O1:=[]) ?_ ?_;exact(Qd (PW.pt (Wo (Vf Xr (dv 2) dq (Z8 _)) (Zv (Vf (Ti hr.units0) (dr (QU (dr (QU (dv 0) (dv 2))) dq)) (dr (QU (dr (QU (dv 0) (dr (Q9 VU (dv 2) dq)))) dq)) (Z8 _))))) (So (QX WC)) Sn);refine Ss (O1:=[]) ?_ ?_;exact(QW 3 nd (QU (dr (QU (dv 0) (dv 2))) dq));refine Ss (O1:=[]) ?_ ?_;exact(Qd (PW.pt (WG (Xd (Jx (dr (SK (Cb _) rfl T.b_isinstance boot_isinstance rfl T.b_list boot_list (dv 3))))) (Zv (dF hr (dr (JJ JQ rfl T.b_len boot_len (dv 3))) (dv 1))))) (So (QX WC)) Sn);refine So ?_;refine Qd ?_ ?_ ?_;refine Vf (BV hr.units) ?_ ?_ (Z8 _);refine dr ?_;refine YO ?_;refine Yj rfl rfl (Y0 (show Zl (Qp G9) E8 _ 1 ["_law_row"] []=true by decide+kernel)) (by decide) ?_ ?_ ?_ ?_;exact(Y7 (Jn (Qe 3)));exact λ_ _ _ _ _ _=>Qb 0 (show List.Nodup (["_law_row"]:List Str)by decide+kernel);exact λ_ _ _ _ _ _=>(XE (Xd (Jx (dr (SK (Qe7 _) rfl T.b_isinstance boot_isinstance rfl T.b_str boot_str (dv 0))))));exact λ_ _ _ _ _ _=>Qe 0;exact(dr (JX Dz Z7));exact(So (QX WC));exact Sn;exact(So (QX WC))))
def Qgz(h:Df K mg "_law_stands" AK OD)(T:Txt K mg):FJ P w K mg ab:=J1 OD OD KP 0 h λnd=>λhr=>Ss (O1:=[]) (Qd (PW.pt (Wo (Vf Xr (dv 1) dq (Z8 _)) (Zv (dF hr (dr (WD (dv 0) (Ve (dr (Q9 VU (dv 1) dq))) (Ve (dv 1)))) (dr QI))))) (So (QX WC)) Sn) (So (QX (YN (Wz hr.units) (dr (WD (dv 0) (Ve (dv 1)) (Ve (dr (Q9 QY (dv 1) (dr (JJ JQ rfl T.b_len boot_len (dv 2)))))))) (dv 2) (Z8 _))))
def sc_law:FnScope Lg BZ (Qp Om):=by constructor<;>first|rfl|decide+kernel
def Qg1{f:Addr}{fd:FuncData}(h:Fun K "law" "law" Om f fd)(T:Txt K mg)(cJ:Gw P w K mg ab)(cA:Gx P w K mg ab)(bT:FH P w K mg ab)(bS:FJ P w K mg ab)(bR:FK P w K mg ab)(cP:FX P w K mg ab)(bD:LU P w K mg ab)(bz:Fe P w K mg ab):FnOk P w K mg ab Yg 11 f fd ["_law_script"] (Qq K Ta):=have nd:=sc_law.nd
 okF (b:=Kq) (k:=10) (N:=Lg) (ps:=BZ) (O':=[]) (OL:=[]) h sc_law λaz A ag s H E hr=>(by refine Ss (O1:=[]) ?_ ?_;exact(P8 (dc cA hr (dn 0 Dz)) (Yr rfl (JT (O1:=[]) (Qb 1 nd) (JT (O1:=[]) (Qb 2 nd) (JT (O1:=[]) (Qb 3 nd) Ys))) rfl));refine Ss (O1:=[]) ?_ ?_;exact(QW 4 nd (dc cP hr (dn 1 (dn 2 (Dl (dc bD hr (dn 1 (dn 2 Dz))) Dz)))));refine Ss (O1:=[]) ?_ ?_;exact(QW 5 nd (dc cJ hr (dn 1 Dz)));refine Ss (O1:=[]) ?_ ?_;exact(QW 6 nd (dc bz hr (dn 5 (dn 2 Dz))));refine Ss (O1:=[]) ?_ ?_;exact(Qd (PW.pt (WG (Xd (Jx (dr (dc bT hr (dn 6 (Du (dy 2) Dz)))))) (Zv (dF hr (dv 5) (dv 1))))) (So (QX WC)) Sn);refine Ss (O1:=[7]) ?_ ?_;exact(YQ 7 nd SI);refine Ss (O1:=[7]) ?_ ?_;exact(Ju rfl PassesOwn.never (Jn (Qe 6)) (Yr rfl (JT (O1:=[7]) (Qb 8 nd) (JT (O1:=[7]) (Qb 9 nd) Ys)) rfl) (So (TR 7 (by decide) hr.units1 (dv 8) (Qe 9))));refine Ss (O1:=[7,10]) ?_ ?_;exact(YQ 10 nd SI);refine Ss (O1:=[7,10]) ?_ ?_;exact(Ju rfl PassesOwn.never (Jn (dy 4)) (Qb 11 nd) (So (TR 10 (by decide) hr.units1 (dx 11) WC)));refine Ss (O1:=[7,10]) ?_ ?_;refine Ju rfl PassesOwn.never ?_ ?_ ?_;exact(Jn (dc bR hr (dn 1 (dn 4 Dz))));exact(Yr rfl (JT (O1:=[7,10]) (Qb 11 nd) (JT (O1:=[7,10]) (Qb 12 nd) (JT (O1:=[7,10]) (Qb 13 nd) Ys))) rfl);refine Ss (O1:=[7,10]) ?_ ?_;exact(P8 (Qe 11) (Yr rfl (JT (O1:=[7,10]) (Qb 8 nd) (JT (O1:=[7,10]) (Qb 14 nd) (JT (O1:=[7,10]) (Qb 15 nd) Ys))) rfl));exact(Ss (O1:=[7,10]) (TR 10 (by decide) hr.units1 (dv 8) WC) (So (Qd (PW.pt (WG (Ij hr.units1 (dv 8) (Yt 7)) (Zv (Xd (Jx (dr (dc bS hr (Du (QU (dr (P5 hr.units1 (Yt 7) (dv 8))) (dv 14)) (dn 15 (dn 12 Dz)))))))))) (So (QX WC)) Sn)));refine YR 7 ?_;refine YR 10 ?_;refine So ?_;refine QX ?_;refine YN (Wz hr.units) ?_ ?_ (Z8 _);refine dr ?_;refine YO ?_;refine Yj rfl rfl (Y0 (show Zl (Qp Om) Lg _ 1 ["_law_page","_law_met"] [10]=true by decide+kernel)) (by decide) ?_ ?_ ?_ ?_;exact(Y7 (DC (Qe 7)));exact λ_ _ _ _ _ _=>Qb 0 (show List.Nodup (["_law_page","_law_met"]:List Str)by decide+kernel);exact λ_ _ _ _ _ _=>(XE (Ij hr.units1 (dv 0) (dv 1)));exact λ_ _ _ _ _ _=>Qe 0;exact(dr (JX Dz Z7)))
end
end
open PySem PySem.Spec PyProof.Rows L2 Wd
def walk{l:W.OpenLaw}{q:Program}{loose:List Str}{XP:(Str->Option Value)->Heap->Prop}{YP:World->Heap->Prop}{d:DefRec}{K:Params->W.Frag}(hn:l.most=some 63)(gd:d.params.defaults=[])(hY:∀(w:World)(h:Heap),YP w h->(K w.params).In h)(F:∀(w:World)(mg:Str->Option Value)(fa:Addr)(h:Heap),(K w.params).In h->h.Ns mainGlobals mg->mg d.name=some (.ref fa)->∃fd:FuncData,(∀(s:Shared)(u:Value),BindsTo s fd ⟨[u],[]⟩ [("_law_script",u)])/\∀ab:Heap,(K w.params).In ab->ab.Ns mainGlobals mg->FnOk l.prog w (K w.params) mg ab Yg 11 fa fd ["_law_script"] (Qq (K w.params) Ta)):W.WalkO q loose XP YP l.row.toRowW d [] λf vs=>PySem.call f vs:=L2.walk_of (n:=63) (k:=11) (x:="_law_script") (CX:=λ_=>Yg) (sp:=λw=>Qq (K w.params) Ta) hn (by decide) gd ⟨rfl,by decide,by decide⟩ hY F (λw H a ns _ _ hS=>Qfn (K w.params) Ta Qfo H a ns hS) λ_ _ _ _ _ z=>z
end My
namespace Hd
open PySem PySem.W PySem.Calls PyProof.Rows My L2
theorem Qak{tb:String->Option Builtin}{p:Program}{w:World}{n₀:Nat}{ann:Option Value}:∀{n:Nat}{s s':Shared}{t:Thread}{f:Flow}{c:Code}{q:Pos},segRun tb p w n₀ ann 0 n s t=some (f,s',c,q)->topRun tb p w n₀ ann n s t=some s'
 |0,_,_,_,_,_,_,h=>by cases h|n+1,s,s',t,f,c,q,h=>by
  unfold segRun at h;unfold topRun;have hz:(endAt 0 t).isSome=through t:=by
   obtain⟨cur,code,pos,st⟩:=t;cases st with
   |nil=>cases cur with|pure x=>cases x<;>rfl|_=>rfl
   |cons a b=>rfl
  cases he:endAt 0 t with
  |some g=>rw[he]at h hz;rw[<-hz];cases h;rfl|none=>rw[he]at h hz;rw[<-hz];cases hk:stepOk n₀ ann t with|false=>rw[hk]at h;cases h|true=>rw[hk]at h;cases hs:step (denote tb) p w s t with|halt o s₂=>rw[hs]at h;cases h|go s₂ t₂=>rw[hs]at h;exact Qak h
noncomputable def T0(P:Params):BT:=(boot_heap P).objs.toList.foldl (λx o=>(x.1.ins x.2 o,x.2+1)) (BT.nil,0)|>.1
noncomputable def GY(w:World)(os:OsState):SharedT:=⟨T0 w.params,11,{},Array.mk [],boot_drawn,boot_toks,os⟩
def Qap(w:World)(os:OsState):(GY w os).abs=⟨boot_heap w.params,Array.mk [],boot_drawn,boot_toks,os⟩:=by kernel_rfl
noncomputable def runs(p:Program)(M:Nat)(w:World)(os:OsState):Option Shared:=(segRunT treeTable p w 11 (some (.ref 6)) 0 M (GY w os) (topStub p)).map λr=>r.2.1.abs
noncomputable def chk(p:Program)(w:World)(s:Shared):Bool:=staticsOk (importedModules p.main.body) (boot_heap w.params) s.heap&&namesBound p s.heap&&gensDone s&&laidKept (boot_heap w.params) s.heap
def left{p q:Program}{loose:List Str}{Xt:Shared->Bool}{α:Type}{Yf:Shared->α}{Ya:World->α}{N:Nat}{g0:Bool}{M:Nat}(e:opening p=plainProg p.main.scope.names)(f:∀s,fenceModules? p s=some s)(hN:Nat.ble 600 N=true)(le:Nat.ble M N=true)(size:∀w:World,((boot_heap w.params).isNs mainGlobals,(boot_heap w.params).objs.size,(boot_heap w.params).nsMap mainGlobals "__annotations__")=(true,11,some (.ref 6)))(ra:∀(w:World)(os:OsState),(runs p M w os).map (chk p w)=some true)(rb:∀(w:World)(os:OsState),(runs p M w os).map (openSeen q loose (importedModules p.main.body) Xt g0)=some (openGood q loose))(rc:∀(w:World)(os:OsState),(runs p M w os).map Yf=some (Ya w)):LeftO p q loose Xt Yf Ya N g0:=λw=>by
 obtain⟨u,e1,e2⟩:=q_82.mp (boot_open e hN f w);obtain⟨v,r1,l1⟩:=q_82.mp (ra w u.os);obtain⟨⟨_,v',_⟩,r2,r3⟩:=q_82.mp r1;have l2:=rb w u.os;have l3:=rc w u.os;rw[r1]at l2 l3;have hu:u=(GY w u.os).abs:=by
  rw[Qap];cases u;cases e2;rfl
 have go:=topRun_mono (N-M) _ _ _ _ (Qak (segRun_of r2));rw[Nat.add_sub_of_le (Nat.le_of_ble_eq_true le)]at go;have t:topFrom treeTable p w N u=some v:=by
  have z:=size w;simp only[Prod.mk.injEq]at z;rw[hu];unfold topFrom;rw[Qap]at go⊢;simp only[z.1,z.2.1,z.2.2,go];simp only[<-r3]at l1⊢;unfold chk at l1;simp[l1]
 simp only[openEnds,e1,ZA,t,WX];rw[Option.some.inj l2,Option.some.inj l3]
noncomputable abbrev p:=PySem.Challenge.pw_leastbook_k22_words_on_lines
noncomputable section
noncomputable def Hc(s:Stmt):Str:=match s with|.FunctionDef n _ _ _ _ _ _ _ _ _=>n|_=>""
def Qiq(s:Stmt):Pos:=match s with|.FunctionDef _ _ _ _ _ _ _ _ _ p=>p|_=>⟨0,0,0,0⟩
noncomputable abbrev m0:Value:=.str "leastbook.places" 348
noncomputable abbrev m1:Value:=.str "leastbook.books" 470
noncomputable abbrev m2:Value:=.str "leastbook.setting" 634
noncomputable abbrev m3:Value:=.str "leastbook.least" 731
noncomputable abbrev m4:Value:=.str "leastbook.pages" 766
noncomputable abbrev m5:Value:=.str "law_leastbook_k22_words_on_lines" 839
def tb:List (Nat×Nat×Nat×Nat×Nat×Value):=[(18,141,368,372,1),(19,148,375,379,1),(20,155,382,388,1),(21,162,391,397,1),(22,169,400,408,1),(23,176,411,423,1),(24,183,426,430,1),(25,190,433,442,1),(26,197,445,449,1),(27,204,452,458,1),(28,211,461,467,1)].map (λx=>(x.1,x.2.1,x.2.2.1,x.2.2.2.1,x.2.2.2.2,m0))++[(30,218,472,476,1),(31,225,479,483,1),(32,232,486,490,1),(33,239,493,497,1),(34,246,500,504,1),(35,251,507,510,0),(36,256,513,516,0),(37,261,519,522,0),(38,268,525,530,1),(39,273,533,536,0),(40,280,539,546,1),(41,287,549,555,1),(42,294,558,563,1),(43,301,566,571,1),(44,308,574,580,1),(45,315,583,591,1),(46,322,594,602,1),(47,327,605,608,0),(48,334,611,619,1),(49,341,622,631,1)].map (λx=>(x.1,x.2.1,x.2.2.1,x.2.2.2.1,x.2.2.2.2,m1))++[(51,348,636,645,1),(52,355,648,660,1),(53,362,663,669,1),(54,369,672,683,1),(55,376,686,695,1),(56,383,698,708,1),(57,390,711,719,1),(58,397,722,728,1)].map (λx=>(x.1,x.2.1,x.2.2.1,x.2.2.2.1,x.2.2.2.2,m2))++[(60,402,733,736,0),(61,409,739,747,1),(62,416,750,755,1),(63,423,758,763,1)].map (λx=>(x.1,x.2.1,x.2.2.1,x.2.2.2.1,x.2.2.2.2,m3))++[(65,430,768,773,1),(66,437,776,782,1),(67,444,785,794,1),(68,449,797,800,0),(69,456,803,810,1),(70,463,813,821,1),(71,470,824,830,1),(72,475,833,836,0)].map (λx=>(x.1,x.2.1,x.2.2.1,x.2.2.2.1,x.2.2.2.2,m4))++[(74,482,841,846,1),(75,489,849,853,1),(76,496,856,862,1),(77,503,865,870,1),(78,510,873,880,1),(79,517,883,894,1),(80,522,897,900,0),(81,529,903,913,1),(82,536,916,923,1),(83,541,926,929,0),(84,546,932,935,0),(85,551,938,941,0),(86,556,944,947,0),(87,563,950,958,1),(88,570,961,971,1),(89,575,974,977,0),(90,580,980,983,0),(91,587,986,992,1),(92,592,995,998,0)].map (λx=>(x.1,x.2.1,x.2.2.1,x.2.2.2.1,x.2.2.2.2,m5))
noncomputable def en(P:Params)(x:Str)(t:Nat)(v:Value):DictEntry:=⟨PyData.keyHash P x,.str x t,v⟩
def ns(P:Params):List DictEntry:=([en P "__name__" 165 (.str "law_leastbook_k22_words_on_lines" 839),en P "__doc__" 166 (.none),en P "__package__" 167 (.none),en P "__loader__" 168 (.builtin "__main__.__loader__#opaque"),en P "__spec__" 169 (.none),en P "__annotations__" 170 (.ref 6),en P "__builtins__" 171 (.ref 4),en P "__file__" 173 (.str "/claim/cut.py" 172),en P "__cached__" 174 (.none),en P "BookError" 206 (.ref 24),en P "NoStyle" 222 (.ref 37),en P "TooWide" 247 (.ref 56),en P "TooHigh" 272 (.ref 75),en P "Twice" 297 (.ref 94),en P "Loose" 322 (.ref 113),en P "NoLabel" 347 (.ref 132),en P "WIDTH" 351 (.int 0 350),en P "HEIGHT" 353 (.int 1 352),en P "ODD" 355 (.int 2 354),en P "LISTED" 357 (.int 3 356),en P "PAGE" 359 (.int 0 358),en P "LINE" 361 (.int 1 360),en P "USED" 363 (.int 2 362),en P "FOOT" 365 (.int 3 364),en P "COLUMN" 367 (.int 2 366)])++(((tb.drop 0).take 70).map λr=>en P (Hc (Qo r.1)) (r.2.2.2.1+2) (.ref r.2.1))
def ob(r:Nat×Nat×Nat×Nat×Nat×Value):List (Nat×Obj):=let(i,f,t,u,b,m):=r
 let s:=Qo i
 let x:=Hc s
 let l:Value:=.int (Qiq s).line 0
 let c:Str:="/claim/cut.py"
 let n:Value:=.int 0 0
 [(f-1,⟨.type "code",none,.fields #[.str x t,.str x (t+1),.str c (t+2),l,.int (Wl s).args.length 0,n,n,.int 3 0,.ref (if b=1 then f-6 else f-4),.bool true,.int 181 0,.ref (if b=1 then f-5 else f-3),.none,if b=1 then .ref (f-4)else .none,if b=1 then .ref (f-3)else .none,.ref (f-2),.int u 0,l,.str c (u+1)],#[]⟩),(f,⟨.type "function",none,.func (fnOf x x (Wl s) (Yp s) (Qp s) .none .none .none m none (.ref (f-1)) .none),#[]⟩)]
def K(P:Params):List (Nat×Obj):=(3,⟨.type "dict",none,.dict (ns P).toArray 95,#[]⟩)::tb.flatMap ob
noncomputable def as:List Nat:=3::tb.flatMap (λr=>[r.2.1-1,r.2.1])
def Qby(P:Params):as=(K P).map (·.1):=by kernel_rfl
noncomputable abbrev rw_:=PySem.Challenge.rw_leastbook_k22_words_on_lines.row
def vw:Program:=view p [92]
def ls:List Str:=(["BookError","NoStyle","TooWide","TooHigh","Twice","Loose","NoLabel","WIDTH","HEIGHT","ODD","LISTED","PAGE","LINE","USED","FOOT","COLUMN"]:List Str)++tb.dropLast.map λr=>Hc (Qo r.1)
def Xt(s:Shared):Bool:=xlAt vw [] s&&recOk (RowW.records rw_.toRowW) s
abbrev rn:=Hd.runs p 7824
def ha(w:World)(os:OsState):=(rn w os).map (Hd.chk p w)
def hb(w:World)(os:OsState):=(rn w os).map (openSeen vw ls (importedModules p.main.body) Xt true)
def hc(w:World)(os:OsState):=(rn w os).map λs=>as.map s.heap.get?
def wb:=some (openGood vw ls)
def wc(w:World):=some ((K w.params).map λp=>some p.2)
def ha_r:ha=ha:=rfl
def hb_r:hb=hb:=rfl
def hc_r:hc=hc:=rfl
def wb_r:wb=wb:=rfl
def wc_r:wc=wc:=rfl
end
section
variable{P:Params}{h:Heap}{mg:Str->Option Value}{x:Str}{st:Stmt}{ps:List Str}{y:Str}{fa:Addr}
abbrev fx(P:Params)(x:Str)(f:Nat):=(nsIn (K P) mainGlobals x,List.lookup f (K P),codeIn (K P) (.ref (f-1)) x,keepIn (K P) (.ref f))
abbrev fw(x:Str)(st:Stmt)(f:Nat)(m:Value):Option (Option Value)×Option Obj×Bool×Bool:=(some (some (.ref f)),some ⟨.type "function",none,.func (fnOf x x (Wl st) (Yp st) (Qp st) .none .none .none m none (.ref (f-1)) .none),#[]⟩,true,true)
def dk(f:Nat)(m:Value)(X:Frag.In (K P) h)(G:h.Ns mainGlobals mg)(hb:∀(kV doc pm:Value)(an:Option Addr)(az ct:Value)(us:List Value),us.length=ps.length->bindArgs (fnOf x x (Wl st) (Yp st) (Qp st) .none kV doc pm an az ct) ⟨us,[]⟩=pure (ps.zip us):=by intro _ _ _ _ _ _ us hl;rcases us with _|⟨_,_|⟨_,_|⟨_,_|⟨_,_|⟨_,_|⟨_,_⟩⟩⟩⟩⟩⟩<;>first|(exfalso;simp at hl;done)|rfl)(e:fx P x f=fw x st f m:=by kernel_rfl):Wd.Df (K P) mg x st ps:=by
 obtain⟨a,l,c,k⟩:_/\_/\_/\_:=by simpa only[Prod.mk.injEq]using e
 exact Wd.df_mk X G hb a l c k
def gk{i:Int}(t:Nat)(X:Frag.In (K P) h)(G:h.Ns mainGlobals mg)(a:nsIn (K P) mainGlobals x=some (some (.int i t)):=by kernel_rfl):∃t,mg x=some (.int i t):=Wd.gint_mk X G a ⟨_,rfl⟩
variable(X:Frag.In (K P) h)(G:h.Ns mainGlobals mg)
include X G
def QcK:Wd.Df (K P) mg "figures" AQ OJ:=dk 141 m0 X G
def QcH:Wd.Df (K P) mg "bare" AM OH:=dk 148 m0 X G
def QcO:Wd.Df (K P) mg "has_height" AU OM:=dk 155 m0 X G
def QcP:Wd.Df (K P) mg "has_width" AV ON:=dk 162 m0 X G
def Qdu:Wd.Df (K P) mg "word_at" Az Od:=dk 169 m0 X G
def Qdi:Wd.Df (K P) mg "put_word" Ap Ma:=dk 176 m0 X G
def QcJ:Wd.Df (K P) mg "end_line" AO OI:=dk 183 m0 X G
def Qdg:Wd.Df (K P) mg "put_block" An MY:=dk 190 m0 X G
def Qda:Wd.Df (K P) mg "new_page" Al OZ:=dk 197 m0 X G
def Qc9:Wd.Df (K P) mg "new_chapter" Ak MV:=dk 204 m0 X G
def Qdh:Wd.Df (K P) mg "put_plates" Ao MZ:=dk 211 m0 X G
def QcU:Wd.Df (K P) mg "is_style" AZ OR:=dk 218 m1 X G
def QcV:Wd.Df (K P) mg "is_titled" Aa OS:=dk 225 m1 X G
def QcT:Wd.Df (K P) mg "is_set" AY OQ:=dk 232 m1 X G
def QcZ:Wd.Df (K P) mg "label_of" Ae OV:=dk 239 m1 X G
def QcY:Wd.Df (K P) mg "items_of" Ad OU:=dk 246 m1 X G
def Qdj:Wd.Df (K P) mg "refs" GP Mb:=dk 251 m1 X G
def Qde:Wd.Df (K P) mg "pages_for" GO R5:=dk 256 m1 X G
def Qdd:Wd.Df (K P) mg "pages_at_most" GN R4:=dk 261 m1 X G
def Qdk:Wd.Df (K P) mg "room_at_most" Aq Oa:=dk 268 m1 X G
def QcG:Wd.Df (K P) mg "any_longer" GH R3:=dk 273 m1 X G
def QcW:Wd.Df (K P) mg "is_wide_block" Ab MR:=dk 280 m1 X G
def QcX:Wd.Df (K P) mg "is_wide_item" Ac OT:=dk 287 m1 X G
def QcR:Wd.Df (K P) mg "is_high_block" AW OO:=dk 294 m1 X G
def QcS:Wd.Df (K P) mg "is_high_item" AX OP:=dk 301 m1 X G
def QcD:Wd.Df (K P) mg "add_label" GD Tj:=dk 308 m1 X G
def Qc5:Wd.Df (K P) mg "look_at_block" GJ Tn:=dk 315 m1 X G
def Qc6:Wd.Df (K P) mg "look_at_item" GK To:=dk 322 m1 X G
def Qc7:Wd.Df (K P) mg "look_at_items" Mw OY:=dk 327 m1 X G
def Qc8:Wd.Df (K P) mg "look_at_refs" Aj MU:=dk 334 m1 X G
def Qc4:Wd.Df (K P) mg "look" Ai MT:=dk 341 m1 X G
def Qdo:Wd.Df (K P) mg "set_contents" Au Md:=dk 348 m2 X G
def Qdp:Wd.Df (K P) mg "set_items" Av Me:=dk 355 m2 X G
def Qdm:Wd.Df (K P) mg "set_block" Ar Ob:=dk 362 m2 X G
def Qdn:Wd.Df (K P) mg "set_book" As Mc:=dk 369 m2 X G
def Qdf:Wd.Df (K P) mg "pages_with" Am MX:=dk 376 m2 X G
def Qc0:Wd.Df (K P) mg "label_pages" Af MS:=dk 383 m2 X G
def Qdt:Wd.Df (K P) mg "title_pages" Ay Mh:=dk 390 m2 X G
def Qc1:Wd.Df (K P) mg "laid" Ag OW:=dk 397 m2 X G
def QcL:Wd.Df (K P) mg "figures_told" GI MP:=dk 402 m3 X G
def Qdr:Wd.Df (K P) mg "settled" Ax Mf:=dk 409 m3 X G
def Qc3:Wd.Df (K P) mg "least" Ah OX:=dk 416 m3 X G
def Qdq:Wd.Df (K P) mg "set_least" Aw Oc:=dk 423 m3 X G
def Qds:Wd.Df (K P) mg "sheet_of" GQ Mg:=dk 430 m4 X G
def QcE:Wd.Df (K P) mg "add_lines" GF OG:=dk 437 m4 X G
def QcF:Wd.Df (K P) mg "add_word" GG MN:=dk 444 m4 X G
def QcC:Wd.Df (K P) mg "add_items" Mv MM:=dk 449 m4 X G
def QcB:Wd.Df (K P) mg "add_block" GC OF:=dk 456 m4 X G
def QcI:Wd.Df (K P) mg "contents_row" AN MO:=dk 463 m4 X G
def QcM:Wd.Df (K P) mg "filled" AR MQ:=dk 470 m4 X G
def Qdc:Wd.Df (K P) mg "page_rows" GL MW:=dk 475 m4 X G
def Qck:Wd.Df (K P) mg "_law_cell_at" AA OC:=dk 482 m5 X G
def QcA:Wd.Df (K P) mg "_law_whole" AL OE:=dk 489 m5 X G
def Qcr:Wd.Df (K P) mg "_law_mix" AG ME:=dk 496 m5 X G
def Qcq:Wd.Df (K P) mg "_law_label" AF MD:=dk 503 m5 X G
def Qcu:Wd.Df (K P) mg "_law_plates" AH MH:=dk 510 m5 X G
def Qcx:Wd.Df (K P) mg "_law_signs" AJ MK:=dk 517 m5 X G
def Qcj:Wd.Df (K P) mg "_law_atom" Mt M7:=dk 522 m5 X G
def Qcv:Wd.Df (K P) mg "_law_pointed" AI MI:=dk 529 m5 X G
def Qco:Wd.Df (K P) mg "_law_grouped" AD MB:=dk 536 m5 X G
def Qcn:Wd.Df (K P) mg "_law_edge" G7 MA:=dk 541 m5 X G
def Qct:Wd.Df (K P) mg "_law_needs" Uw MG:=dk 546 m5 X G
def Qcs:Wd.Df (K P) mg "_law_most" G8 MF:=dk 551 m5 X G
def Qcm:Wd.Df (K P) mg "_law_drawn" Mu M9:=dk 556 m5 X G
def Qcl:Wd.Df (K P) mg "_law_copy" AB M8:=dk 563 m5 X G
def Qcp:Wd.Df (K P) mg "_law_heads" AE MC:=dk 570 m5 X G
def Qcz:Wd.Df (K P) mg "_law_things" GA ML:=dk 575 m5 X G
def Qcw:Wd.Df (K P) mg "_law_shaped" G9 MJ:=dk 580 m5 X G
def Qcy:Wd.Df (K P) mg "_law_stands" AK OD:=dk 587 m5 X G
def Qc2(hm:mg "law"=some (.ref fa)):∃fd,(∀(s:Shared)(u:Value),BindsTo s fd ⟨[u],[]⟩ [("_law_script",u)])/\L2.Fun (K P) "law" "law" Om fa fd:=by
 have e:fx P "law" 592=fw "law" Om 592 m5:=by kernel_rfl
 obtain⟨a,l,c,k⟩:_/\_/\_/\_:=by simpa only[Prod.mk.injEq]using e
 exact Wd.law_mk X G hm (λ_ _ _ _ _ _ u=>rfl) a l c k
def txt:Txt (K P) mg:=⟨gk 366 X G,gk 364 X G,gk 352 X G,gk 360 X G,gk 356 X G,gk 354 X G,gk 358 X G,gk 362 X G,gk 350 X G,mg_none_of X G (by kernel_rfl),mg_none_of X G (by kernel_rfl),mg_none_of X G (by kernel_rfl),mg_none_of X G (by kernel_rfl),mg_none_of X G (by kernel_rfl),mg_none_of X G (by kernel_rfl),mg_none_of X G (by kernel_rfl),mg_none_of X G (by kernel_rfl),mg_none_of X G (by kernel_rfl),mg_none_of X G (by kernel_rfl),mg_none_of X G (by kernel_rfl),mg_none_of X G (by kernel_rfl),mg_none_of X G (by kernel_rfl),trivial⟩
end
end Hd
open PySem PySem.W PyProof.Rows
name_quick haQ for Hd.ha by Hd.ha_r
name_quick hbQ for Hd.hb by Hd.hb_r
name_quick hcQ for Hd.hc by Hd.hc_r
name_quick wbQ for Hd.wb by Hd.wb_r
name_quick wcQ for Hd.wc by Hd.wc_r
namespace Hd
def oa(w:World)(os:OsState):Fast.haQ w os=some true:=by kernel_rfl
def oz(w:World)(os:OsState):Fast.hbQ w os=Fast.wbQ:=by kernel_rfl
def oc(w:World)(os:OsState):Fast.hcQ w os=Fast.wcQ w:=by kernel_rfl
def pa(w:World)(os:OsState):ha w os=some true:=by rw[Fast.haQ_eq];exact oa w os
def pb(w:World)(os:OsState):hb w os=wb:=by rw[Fast.hbQ_eq,Fast.wbQ_eq];exact oz w os
def pc(w:World)(os:OsState):hc w os=wc w:=by rw[Fast.hcQ_eq,Fast.wcQ_eq];exact oc w os
def hl:LeftO p vw ls Xt (λs=>as.map s.heap.get?) (λw=>(K w.params).map λp=>some p.2) 7824:=left (M:=7824) (by kernel_rfl) (λs=>by kernel_rfl) rfl rfl (λw=>by kernel_rfl) pa pb pc
end Hd
open Hd My
set_option maxRecDepth 100000 in set_option maxHeartbeats 0 in 
theorem PySem.Challenge.cw_leastbook_k22_words_on_lines_holds : PySem.Challenge.rw_leastbook_k22_words_on_lines.Holds := by
  w_on;o_law;refine holds_open (q:=vw) (loose:=ls) (Xt:=Hd.Xt) (XP:=XL vw []) (YP:=InK K) hl (InK.of Qby) InK.keeps (λs e=>xl_of s (Bool.and_eq_true_iff.mp e).1) XL.keeps rfl rfl rfl (λs e=>recFacts_of (Bool.and_eq_true_iff.mp e).2) rfl ‹_› (by decide+kernel) ⟨rfl,rfl,rfl,rfl,rfl,by decide+kernel⟩ ?hw ?hc;case hw=>w_witness2
  refine My.walk (l:=PySem.Challenge.rw_leastbook_k22_words_on_lines) rfl rfl (λw h Y=>Y) ?F;intro w mg fa h X G f9;have T:=txt X G;obtain⟨fd,hb,F⟩:=Qc2 X G f9;refine⟨fd,hb,λb kb nb=>?_⟩;have aR:=QgL (P:=p) (w:=w) (ab:=b) (QcK X G) T;have aD:=QgI (P:=p) (w:=w) (ab:=b) (QcH X G) T;have av:=QgO (P:=p) (w:=w) (ab:=b) (QcO X G) T;have bA:=QgP (P:=p) (w:=w) (ab:=b) (QcP X G) T;have bh:=Qhr (P:=p) (w:=w) (ab:=b) (Qdu X G) T;have bj:=Qhg (P:=p) (w:=w) (ab:=b) (Qdi X G) T av bA bh;have aK:=QgK (P:=p) (w:=w) (ab:=b) (QcJ X G) T;have ar:=Qhe (P:=p) (w:=w) (ab:=b) (Qdg X G) T aD aK av;have aJ:=Qg9 (P:=p) (w:=w) (ab:=b) (Qda X G) T aD;have aw:=Qg8 (P:=p) (w:=w) (ab:=b) (Qc9 X G) T aD aJ;have bp:=Qhf (P:=p) (w:=w) (ab:=b) (Qdh X G) T aD aJ;have bF:=QgT (P:=p) (w:=w) (ab:=b) (QcU X G) T;have aj:=QgU (P:=p) (w:=w) (ab:=b) (QcV X G) T;have aq:=QgS (P:=p) (w:=w) (ab:=b) (QcT X G) T;have aA:=QgY (P:=p) (w:=w) (ab:=b) (QcZ X G) T;have ao:=QgX (P:=p) (w:=w) (ab:=b) (QcY X G) T;have aL:=Qhh (P:=p) (w:=w) (ab:=b) (Qdj X G) T ao;have bx:=Qhc (P:=p) (w:=w) (ab:=b) (Qde X G) T aq aj ao;have aM:=Qhb (P:=p) (w:=w) (ab:=b) (Qdd X G) T bx;have aU:=Qhi (P:=p) (w:=w) (ab:=b) (Qdk X G) T aR aM;have aC:=QgH (P:=p) (w:=w) (ab:=b) (QcG X G) T;have aP:=QgV (P:=p) (w:=w) (ab:=b) (QcW X G) T aC aj;have aX:=QgW (P:=p) (w:=w) (ab:=b) (QcX X G) T aC;have aQ:=QgQ (P:=p) (w:=w) (ab:=b) (QcR X G) T;have aY:=QgR (P:=p) (w:=w) (ab:=b) (QcS X G) T;have aF:=QgE (P:=p) (w:=w) (ab:=b) (QcD X G) T;have aO:=Qg4 (P:=p) (w:=w) (ab:=b) (Qc5 X G) T aF aQ aP aA;have aW:=Qg5 (P:=p) (w:=w) (ab:=b) (Qc6 X G) T aF aY aX;have aN:=Qg6 (P:=p) (w:=w) (ab:=b) (Qc7 X G) T aq aW;have aV:=Qg7 (P:=p) (w:=w) (ab:=b) (Qc8 X G) T aL;have bP:=Qg3 (P:=p) (w:=w) (ab:=b) (Qc4 X G) T bF ao aO aN aV aU;have aS:=Qhl (P:=p) (w:=w) (ab:=b) (Qdo X G) T aD aj aw ar;have bu:=Qhm (P:=p) (w:=w) (ab:=b) (Qdp X G) T aK aq bj;have bw:=Qhj (P:=p) (w:=w) (ab:=b) (Qdm X G) T aw ar bp;have au:=Qhk (P:=p) (w:=w) (ab:=b) (Qdn X G) T aL bw aS bu;have bq:=Qhd (P:=p) (w:=w) (ab:=b) (Qdf X G) T aq;have ax:=QgZ (P:=p) (w:=w) (ab:=b) (Qc0 X G) T ao aA bq;have bf:=Qhq (P:=p) (w:=w) (ab:=b) (Qdt X G) T aj;have cP:=Qg0 (P:=p) (w:=w) (ab:=b) (Qc1 X G) T bP au;have aG:=QgM (P:=p) (w:=w) (ab:=b) (QcL X G) T aR ax aL au;have bQ:=Qho (P:=p) (w:=w) (ab:=b) (Qdr X G) T aG;have bD:=Qg2 (P:=p) (w:=w) (ab:=b) (Qc3 X G) T bP aL bQ;have bt:=Qhn (P:=p) (w:=w) (ab:=b) (Qdq X G) T bD au;have aI:=Qhp (P:=p) (w:=w) (ab:=b) (Qds X G) T;have aB:=QgF (P:=p) (w:=w) (ab:=b) (QcE X G) T aI;have bo:=QgG (P:=p) (w:=w) (ab:=b) (QcF X G) T aI;have bB:=QgD (P:=p) (w:=w) (ab:=b) (QcC X G) T bo aq;have bC:=QgC (P:=p) (w:=w) (ab:=b) (QcB X G) T bB aB;have aZ:=QgJ (P:=p) (w:=w) (ab:=b) (QcI X G) T;have cn:=QgN (P:=p) (w:=w) (ab:=b) (QcM X G) T;have bz:=Qha (P:=p) (w:=w) (ab:=b) (Qdc X G) T bC aB aZ cn ax bt bf;have ak:=Qgl (P:=p) (w:=w) (ab:=b) (Qck X G) T;have cq:=QgB (P:=p) (w:=w) (ab:=b) (QcA X G) T;have aE:=Qgs (P:=p) (w:=w) (ab:=b) (Qcr X G) T;have cy:=Qgr (P:=p) (w:=w) (ab:=b) (Qcq X G) T;have bU:=Qgv (P:=p) (w:=w) (ab:=b) (Qcu X G) T;have br:=Qgy (P:=p) (w:=w) (ab:=b) (Qcx X G) T;have cK:=Qgk (P:=p) (w:=w) (ab:=b) (Qcj X G) T cy aE bU br;have bG:=Qgw (P:=p) (w:=w) (ab:=b) (Qcv X G) T aE;have bH:=Qgp (P:=p) (w:=w) (ab:=b) (Qco X G) T;have b6:=Qgo (P:=p) (w:=w) (ab:=b) (Qcn X G) T ak aE;have cw:=Qgu (P:=p) (w:=w) (ab:=b) (Qct X G) T;have cI:=Qgt (P:=p) (w:=w) (ab:=b) (Qcs X G) T;have cA:=Qgn (P:=p) (w:=w) (ab:=b) (Qcm X G) T cK ak b6 bH aE cI cw bG;have cJ:=Qgm (P:=p) (w:=w) (ab:=b) (Qcl X G) T;have cz:=Qgq (P:=p) (w:=w) (ab:=b) (Qcp X G) T;have bR:=QgA (P:=p) (w:=w) (ab:=b) (Qcz X G) T cz;have bT:=Qgx (P:=p) (w:=w) (ab:=b) (Qcw X G) T cq;have bS:=Qgz (P:=p) (w:=w) (ab:=b) (Qcy X G) T;exact Qg1 F T cJ cA bT bS bR cP bD bz
#print axioms PySem.Challenge.cw_leastbook_k22_words_on_lines_holds
