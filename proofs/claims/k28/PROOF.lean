import PyProof.Rows.All
import Wide.All
import OpenK.AllK
import Wide.FinOn
import Lean
import PyProof.EqAt
import PyProof.EqKinds
import PyProof.TupleCall
import PyProof.NeKinds
import PyProof.ZipIter
import KE.KDictList
import KE.KItemsList
import PyProof.ExcClass2
import PyProof.ExcInit
import PyProof.ExcBaseAll.ValueError
import PyProof.ExcAttrAll.ValueError
import OpenK.KOwn
import PyProof.Rows.RegSorted
import PyProof.StrCalls2
import PyProof.StrWalks
import PyProof.Rows.StrWeight2
import PyProof.Rows.StrFin3
import PyProof.CallFns
import KE.KIntText
import PyProof.Rows.StrNews2
import PyProof.Rows.StrSplitMax
import PyProof.StrBlock2
import PyProof.StrBlockI
import PyProof.StrBlockL
import PyProof.StrCalls6
import PyProof.ListMulRoad
import PyProof.FactsAll.tuple_2
import PyProof.AutoSeq1
import PyProof.ToksMono
import KE.IntTextText
import PySem.Challenge.RW_leastbook_k28_rows_looked_at
set_option compiler.extract_closed false
set_option maxHeartbeats 4000000
set_option Elab.async false
set_option linter.all false
set_option maxRecDepth 100000
abbrev Q5:=@Option.some.inj
abbrev q_1:=@List.mem_singleton
abbrev Qm:=@Nat.le_refl
abbrev Qr:=@List.length_map
abbrev Qy:=@List.mem_cons_of_mem
abbrev J0:=@decide_eq_false
abbrev J2:=@decide_eq_true
abbrev q_7:=@List.mem_cons
abbrev q_8:=@List.mem_append
abbrev JY:=@List.mem_cons_self
abbrev JZ:=@List.length_append
abbrev Ja:=@Bool.and_eq_true
abbrev Jb:=@List.length_cons
abbrev Jh:=@List.size_toArray
abbrev Jj:=@List.map_append
abbrev Z2:=@List.length_set
abbrev Z5:=@Nat.ne_of_lt
abbrev ZQ:=@List.getElem?_eq_getElem
abbrev ZU:=@Nat.le_trans
abbrev ZW:=@Nat.lt_of_lt_of_le
abbrev Ze:=@List.mem_append_right
abbrev Zm:=@Nat.zero_le
abbrev Zw:=@List.append_assoc
abbrev Y2:=@List.mem_append_left
abbrev q_24:=@List.all_eq_true
abbrev q_25:=@List.nodup_cons
abbrev q_26:=@List.mem_map
abbrev YK:=@List.map_cons
abbrev Yv:=@List.append_nil
abbrev VH:=@Bool.false_ne_true
abbrev VI:=@List.all_cons
abbrev VJ:=@Nat.lt_or_ge
abbrev Vk:=@List.lookup_cons
abbrev q_33:=@List.getElem?_eq_some_iff
abbrev WG:=@List.getElem?_map
abbrev WH:=@List.not_mem_nil
abbrev Wb:=@List.getElem?_set_ne
abbrev Wc:=@List.getElem?_set
abbrev We:=@List.drop_zero
abbrev Wf:=@List.drop_eq_nil_of_le
abbrev q_40:=@List.length_pos_iff
abbrev X6:=@Nat.lt_irrefl
abbrev X7:=@List.length_take
abbrev X8:=@List.length_drop
abbrev X9:=@List.replicate_succ
abbrev XA:=@List.drop_eq_getElem_cons
abbrev XC:=@List.all_append
abbrev Xs:=@Int.toNat_natCast
abbrev Xu:=@List.length_range
abbrev Xv:=@List.eq_nil_or_concat
abbrev Xw:=@List.concat_eq_append
abbrev Xx:=@Int.toNat_of_nonneg
abbrev Uj:=@List.flatten_cons
abbrev Uk:=@Bool.and_false
abbrev Ul:=@List.getElem?_eq_none
abbrev q_55:=@List.nodup_append
abbrev Tj:=@Int.eq_ofNat_of_zero_le
abbrev q_57:=@Option.ne_none_iff_exists'
abbrev q_58:=@List.isPrefixOf_iff_prefix
abbrev RG:=@List.getElem?_set_self
abbrev RH:=@List.getElem?_append_right
abbrev RJ:=@List.getElem?_replicate
abbrev RK:=@List.getElem?_append_left
abbrev RL:=@List.length_replicate
abbrev RM:=@List.length_singleton
abbrev q_65:=@Option.map_eq_some_iff
abbrev RN:=@Nat.length_toDigits_le_iff
abbrev RO:=@Int.emod_nonneg
abbrev RP:=@Int.emod_lt_of_pos
abbrev q_69:=@Bool.and_eq_true_iff
abbrev Ow:=@Array.length_toList
abbrev q_71:=@Array.getElem?_eq_some_iff
abbrev Lm:=@Array.getElem?_eq_getElem
abbrev Ln:=@Array.getElem?_setIfInBounds
open List(filterMap_cons of_mem_zip any_cons nil_append map_nil find?_cons all_map forIn_cons take_length map_drop map_take length_nil set_set range'_succ drop_drop map_map flatMap_cons getElem_mem mem_of_mem_drop mem_of_mem_take map_id)
open Nat(le_of_lt ne_of_gt le_succ zero_add lt_succ_of_lt le_add_left lt_trans add_mul sub_self sub_zero)
open Array(toArray_toList getElem?_toList)
open Bool(or_eq_true)
open Option(map_some bind_some)
noncomputable section
abbrev XV(x:PySem.Str):Prop:=(x==("__debug__":PySem.Str))=false
namespace L2
open PySem PySem.Spec PyProof.Rows
abbrev Zg:=Sum Int Str
noncomputable def E5:Zg->Value->Bool|.inl k,v=>Value.isInt k v|.inr x,v=>Value.isStrOf x v
noncomputable def QcE(w:World):Zg->Int|.inl k=>hashInt k|.inr x=>hashStr w x
def Wz:∀{k:Zg}{v:Value},E5 k v=true->(∃i t,k=Sum.inl i/\v=Value.int i t)\/∃x t,k=Sum.inr x/\v=Value.str x t|.inl i,v,h=>by obtain⟨t,e⟩:=Value.isInt_shape (k:=i) (v:=v) h;exact .inl ⟨i,t,rfl,e⟩|.inr x,v,h=>by obtain⟨t,e⟩:=Value.isStrOf_shape (x:=x) (v:=v) h;exact .inr ⟨x,t,rfl,e⟩
def QcF(a b:Int):decide ((Sum.inl a:Zg)=Sum.inl b)=(a==b):=by
 by_cases e:a=b;.subst e;simp
 .have h:¬(Sum.inl a:Zg)=Sum.inl b:=λq=>e<|Sum.inl.inj q;rw[J0 h];exact(beq_eq_false_iff_ne.mpr e).symm
def QcI(a b:Str):decide ((Sum.inr a:Zg)=Sum.inr b)=decide (a=b):=by
 by_cases e:a=b;.subst e;simp
 .have h:¬(Sum.inr a:Zg)=Sum.inr b:=λq=>e<|Sum.inr.inj q;rw[J0 h,J0 e]
def QcG(a:Int)(b:Str):decide ((Sum.inl a:Zg)=Sum.inr b)=false:=J0 λq=>nomatch q
def QcH(a:Str)(b:Int):decide ((Sum.inr a:Zg)=Sum.inl b)=false:=J0 λq=>nomatch q
def ET(prog:Program)(w:World):PySem.KeyKind prog w Zg where
 is:=E5
 hash:=QcE w
 inj:=λv a b ha hb=>by
  rcases Wz ha with⟨i,t,rfl,rfl⟩|⟨x,t,rfl,rfl⟩
  .rcases Wz hb with⟨j,u,rfl,e⟩|⟨y,u,rfl,e⟩;.injection e with e1 _;rw[e1]
   .exact nomatch e
  .rcases Wz hb with⟨j,u,rfl,e⟩|⟨y,u,rfl,e⟩;.exact nomatch e
   .injection e with e1 _;rw[e1]
 byValue:=λk v h=>by rcases Wz h with⟨i,t,rfl,rfl⟩|⟨x,t,rfl,rfl⟩<;>rfl
 pyHash:=λhv h=>by
  rcases Wz hv with⟨i,t,rfl,rfl⟩|⟨x,t,rfl,rfl⟩;.exact wpAny_pyHash_int h
  .exact wpAny_pyHash_str h
 eqBool:=λhu hv h=>by
  rcases Wz hu with⟨i,t,rfl,rfl⟩|⟨x,t,rfl,rfl⟩
  .rcases Wz hv with⟨j,u,rfl,rfl⟩|⟨y,u,rfl,rfl⟩;.rw[QcF]at h;exact wpAny_eqBool_int h
   .rw[QcG]at h;exact SeqAt.EqAt.int_str i t y u _ _ _ _ h
  .rcases Wz hv with⟨j,u,rfl,rfl⟩|⟨y,u,rfl,rfl⟩;.rw[QcH]at h;exact SeqAt.EqAt.str_int x t j u _ _ _ _ h
   .rw[QcI]at h;exact wpAny_eqBool_str h
 «strs»:=λk x t v h=>by
  rcases Wz h with⟨i,u,rfl,e⟩|⟨y,u,rfl,e⟩;.exact nomatch e
  .injection e with e1 _;subst e1;cases v<;>rfl
inductive V where|non|bl(b:Bool)|int(i:Int)|str(x:Str)|byt(b:Array UInt8)|flt(b:UInt64)|ref(a:Addr)|ty(n:String)deriving DecidableEq
noncomputable def RelV:V->Value->Prop|.non,u=>u=Value.none|.bl b,u=>u=Value.bool b|.int i,u=>∃t,u=Value.int i t|.str x,u=>∃t,u=Value.str x t|.byt b,u=>∃t,u=Value.bytes b t|.flt b,u=>∃t,u=Value.float b t|.ref a,u=>u=Value.ref a|.ty n,u=>u=Value.type n
abbrev Vals:List V->List Value->Prop:=Paired RelV
theorem Vals.length{xs:List V}{us:List Value}(r:Vals xs us):xs.length=us.length:=Paired.length r
theorem Vals.get:∀{xs:List V}{us:List Value}{i:Nat}{x:V},Vals xs us->xs[i]?=some x->∃u,us[i]?=some u/\RelV x u|_,_,_,_,.nil,e=>by simp at e|_,_,0,_,.cons r _,e=>by simp at e;subst e;exact⟨_,rfl,r⟩|_,_,i+1,x,.cons _ t,e=>by obtain⟨u,h1,h2⟩:=Vals.get (i:=i) (x:=x) t (by simpa using e);exact⟨u,by simpa using h1,h2⟩
theorem Vals.set{x:V}{u:Value}(r:RelV x u):∀{xs:List V}{us:List Value}(i:Nat),Vals xs us->Vals (xs.set i x) (us.set i u)|_,_,_,.nil=>.nil|_,_,0,.cons _ t=>.cons r t|_,_,i+1,.cons q t=>.cons q<|Vals.set r i t
def Vals.append{xs ys:List V}{us ws:List Value}(h:Vals xs us)(s:Vals ys ws):Vals (xs++ys)<|us++ws:=by induction h with|nil=>exact s|cons r t ih=>exact .cons r ih
theorem Vals.take{xs:List V}{us:List Value}(n:Nat)(h:Vals xs us):Vals (xs.take n)<|us.take n:=by induction h generalizing n with|nil=>simp only[List.take_nil];exact .nil|cons r t ih=>cases n with|zero=>exact .nil|succ n=>exact .cons r<|ih n
theorem Vals.drop:∀{xs:List V}{us:List Value}(n:Nat),Vals xs us->Vals (xs.drop n) (us.drop n)|_,_,0,r=>r|_,_,_+1,.nil=>.nil|_,_,n+1,.cons _ t=>Vals.drop n t
def RelO:Option V->Option Value->Prop|some v,some u=>RelV v u|none,none=>True|_,_=>False
def KV{κ:Type}:List (κ×V)->List (κ×Value)->Prop:=Paired λ(p:κ×V)(q:κ×Value)=>p.1=q.1/\RelV p.2 q.2
noncomputable def kV:Zg->V|.inl i=>.int i|.inr x=>.str x
inductive HO where|lst(xs:List V)|tup(xs:List V)|dK(aC:List<|Zg×V)|dT(aC:List<|List Zg×V)|set(S:Int->Bool)(n:Nat)|ins(C dx:Addr)(fs:List<|Str×V)|own(x:Addr)|xd(fs:List<|Str×V)|met(f x:Addr)|rng(lo hi:Int)|frz(o:Obj)(u:HO)|tbl(ps:Array Value)|ext(φ:Heap->Prop)
abbrev Hp:=Addr->Option HO
noncomputable def upd(H:Hp)(a:Addr)(o:HO):Hp:=λb=>if b=a then some o else H b
def Qu{H:Hp}{a:Addr}{o:HO}:upd H a o a=some o:=by unfold upd;rw[if_pos rfl]
def QY{H:Hp}{a b:Addr}{o:HO}(h:b≠a):upd H a o b=H b:=by unfold upd;rw[if_neg h]
def Qhb{H:Hp}{a:Addr}{o u:HO}:upd (upd H a o) a u=upd H a u:=by funext b;unfold upd;split<;>rfl
def VD{H:Hp}{a b:Addr}{o:HO}(h:H a=some o)(h':H b=none):a≠b:=by intro e;subst e;rw[h]at h';cases h'
section
variable(P:Program)(w:World)
def ObjOk(H:Hp)(h:Heap)(a:Addr):HO->Prop|.lst xs=>xs.length<=sizeLine/\∃(its:List Value)(n:Nat),Vals xs its/\h.get? a=some {cls:=.type "list",data:=.seq its.toArray n}|.tup xs=>xs.length<=sizeLine/\∃its:List Value,Vals xs its/\IsTup h a its.toArray|.dK aC=>aC.length<=sizeLine/\(a==sysModules)=false/\∃vs,KV aC vs/\h.DictOf (ET P w) a vs|.dT aC=>aC.length<=sizeLine/\(a==sysModules)=false/\∃xs:List<|List Zg×Addr×Value,Paired (λ(p:List Zg×V)(q:List Zg×Addr×Value)=>p.1=q.1/\H q.2.1=some (.tup<|p.1.map kV)/\RelV p.2 q.2.2) aC xs/\∃o es ep,h.get? a=some o/\o.ExactDict/\o.data=.dict es ep/\es.toList=xs.map (entryOfKey<|tupleKind<|ET P w)/\(xs.map (·.1)).Nodup|.set S n=>h.SetOf (intKind P w) a S n|.ins C dx fs=>H dx=some (.own a)/\fs.length<=1000/\dx≠a/\h.get? a=some (W.instObj C dx)/\∃mA,h.Ns1 dx mA/\(∀f,RelO (fs.lookup f)<|mA f)/\PySem.Within mA (fs.map (·.1))|.own _=>∃o,h.get? a=some o|.xd fs=>∃mA,h.Ns1 a mA/\∀f,RelO (fs.lookup f)<|mA f|.rng lo hi=>∃t u v,h.get? a=some {cls:=.type "range",data:=.fields #[.int lo t,.int hi u,.int 1 v]}|.frz o u=>h.get? a=some o/\ObjOk H h a u|.tbl ps=>h.get? a=some {cls:=.none,data:=.fields ps}|.met f x=>h.get? a=some (W.methodObj (.ref f)<|.ref x)|.ext φ=>φ h/\(∃o,h.get? a=some o)/\∀h1 h2:Heap,φ h1->(∀o,h1.get? a=some o->h2.get? a=some o)->φ h2
def HOk(H:Hp)(h:Heap):Prop:=∀a o,H a=some o->ObjOk P w H h a o
end
section
variable{P:Program}{w:World}{H H':Hp}{h h':Heap}{a:Addr}{o:HO}
theorem ObjOk.lt(x:ObjOk P w H h a o):a<h.objs.size:=by cases o with|lst xs=>obtain⟨_,_,_,_,e⟩:=x;exact Heap.lt_size e|tup xs=>obtain⟨_,_,_,p⟩:=x;exact p.lt|dK aC=>obtain⟨_,_,_,_,o,_,_,e,_⟩:=x;exact Heap.lt_size e|dT aC=>obtain⟨_,_,_,_,o,_,_,e,_⟩:=x;exact Heap.lt_size e|set S n=>obtain⟨o,_,_,_,e,_⟩:=x;exact Heap.lt_size e|ins C dx fs=>obtain⟨_,_,_,e,_⟩:=x;exact Heap.lt_size e|own y=>obtain⟨_,e⟩:=x;exact Heap.lt_size e|xd fs=>obtain⟨_,⟨_,_,_,e,_⟩,_⟩:=x;exact Heap.lt_size e|rng lo hi=>obtain⟨_,_,_,e⟩:=x;exact Heap.lt_size e|frz ob u=>obtain⟨e,_⟩:=x;exact Heap.lt_size e|tbl ps=>exact Heap.lt_size<|show h.get? a=some _ from x|met f y=>exact Heap.lt_size<|show h.get? a=some _ from x|ext φ=>obtain⟨_,⟨_,e⟩,_⟩:=x;exact Heap.lt_size e
def Paired.mapP{α β:Type}{F G:α->β->Prop}{l₁:List α}{l₂:List β}(h:Paired F l₁ l₂)(f:∀a b,F a b->G a b):Paired G l₁ l₂:=by induction h with|nil=>exact .nil|cons r t ih=>exact .cons (f _ _ r) ih
def ObjOk.stay(x:ObjOk P w H h a o)(k:∀b u,b=a\/H b=some (.own a)->h.get? b=some u->h'.get? b=some u)(ho:∀b,H b=some (.own a)->H' b=some (.own a))(ht:∀b xs,H b=some (.tup xs)->H' b=some (.tup xs)):ObjOk P w H' h' a o:=by induction o with|lst xs=>obtain⟨z,its,n,r,e⟩:=x;exact⟨z,its,n,r,k _ _ (.inl rfl) e⟩|tup xs=>obtain⟨z,its,r,ob,e,c⟩:=x;exact⟨z,its,r,ob,k _ _ (.inl rfl) e,c⟩|dK aC=>obtain⟨z,y,vs,r,ob,es,ep,e,c⟩:=x;exact⟨z,y,vs,r,ob,es,ep,k _ _ (.inl rfl) e,c⟩|dT aC=>obtain⟨z,y,xs,r,ob,es,ep,e,c⟩:=x;exact⟨z,y,xs,Paired.mapP r λp q z=>⟨z.1,ht _ _ z.2.1,z.2.2⟩,ob,es,ep,k _ _ (.inl rfl) e,c⟩|set S n=>obtain⟨ob,es,ep,t,e,c⟩:=x;exact⟨ob,es,ep,t,k _ _ (.inl rfl) e,c⟩|ins C dx fs=>obtain⟨d,z,ne,e,mA,⟨od,es,ep,e2,c⟩,r⟩:=x;exact⟨ho _ d,z,ne,k _ _ (.inl rfl) e,mA,⟨od,es,ep,k _ _ (.inr d) e2,c⟩,r⟩|own y=>obtain⟨ob,e⟩:=x;exact⟨ob,k _ _ (.inl rfl) e⟩|xd fs=>obtain⟨mA,⟨od,es,ep,e,c⟩,r⟩:=x;exact⟨mA,⟨od,es,ep,k _ _ (.inl rfl) e,c⟩,r⟩|rng lo hi=>obtain⟨t,u,v,e⟩:=x;exact⟨t,u,v,k _ _ (.inl rfl) e⟩|frz ob u ih=>obtain⟨e,q⟩:=x;exact⟨k _ _ (.inl rfl) e,ih q⟩|tbl ps=>have e:h.get? a=some {cls:=.none,data:=.fields ps}:=x;show h'.get? a=some {cls:=.none,data:=.fields ps};exact k a _ (.inl rfl) e|met f y=>have e:h.get? a=some (W.methodObj (.ref f)<|.ref y):=x;show h'.get? a=some (W.methodObj (.ref f)<|.ref y);exact k a _ (.inl rfl) e|ext φ=>obtain⟨p,⟨o,e⟩,st⟩:=x;exact⟨st _ _ p λo q=>k _ _ (.inl rfl) q,⟨o,k _ _ (.inl rfl) e⟩,st⟩
theorem HOk.lt(x:HOk P w H h)(e:H a=some o):a<h.objs.size:=(x a o e).lt
def HOk.fresh(x:HOk P w H h)(e:h.objs.size<=a):H a=none:=by cases q:H a with|none=>rfl|some u=>exact absurd (ZW (x.lt q) e)<|X6 _
def HOk.kept(x:HOk P w H h)(k:∀b u,h.get? b=some u->h'.get? b=some u):HOk P w H h':=λa o e=>(x a o e).stay (λb u _ q=>k b u q) (λ_ q=>q) λ_ _ q=>q
def HOk.laid(x:HOk P w H h)(k:∀b u,h.get? b=some u->h'.get? b=some u)(hp:h.objs.size<=a)(new:ObjOk P w (upd H a o) h' a o):HOk P w (upd H a o) h':=λb u e=>by
 have hn:=x.fresh hp;by_cases hb:b=a;.subst hb;rw[Qu]at e;cases e;exact new
 .rw[QY hb]at e;exact(x b u e).stay (λc v _ q=>k c v q) (λc q=>by rw[QY<|VD q hn];exact q) λc xs q=>by rw[QY<|VD q hn];exact q
end
def Rd(H:Hp)(a:Addr)(u:HO):Prop:=H a=some u\/∃o,H a=some (.frz o u)
def Rd.of{H:Hp}{a:Addr}{u:HO}(h:H a=some u):Rd H a u:=.inl h
def Rd.ok{P:Program}{w:World}{H:Hp}{h:Heap}{a:Addr}{u:HO}(r:Rd H a u)(x:HOk P w H h):ObjOk P w H h a u:=by
 rcases r with r|⟨o,r⟩;.exact x a u r
 .obtain⟨_,q⟩:=x a _ r;exact q
noncomputable def Rx:Option HO->Prop|some (.lst _)=>True|some (.dK _)=>True|some (.dT _)=>True|some (.set _ _)=>True|some (.ins _ _ _)=>True|some (.ext _)=>True|_=>False
section
variable{P:Program}{w:World}{H:Hp}{h h':Heap}{x e:Addr}{o':HO}
def HOk.write(ok:HOk P w H h)(mu:Rx<|H x)(he:e=x\/H e=some (.own x))(k:∀b u,b≠e->h.get? b=some u->h'.get? b=some u)(gk:∃u,h'.get? e=some u)(new:ObjOk P w (upd H x o') h' x o'):HOk P w (upd H x o') h':=λb u q=>by
 have gU:∀c y,H c=some (.own y)->c≠x:=λc y r z=>by subst z;rw[r]at mu;exact mu
 have jM:∀c xs,H c=some (.tup xs)->c≠x:=λc xs r z=>by subst z;rw[r]at mu;exact mu
 by_cases hb:b=x;.subst hb;rw[Qu]at q;cases q;exact new
 .rw[QY hb]at q;by_cases cO:b=e
  .have q':H b=some (.own x):=by
    rcases he with z|z;.exact absurd (cO.trans z) hb
    .rw[cO];exact z
   rw[q]at q';cases q';obtain⟨v,hv⟩:=gk;exact⟨v,by rw[cO];exact hv⟩
  .refine(ok b u q).stay (λc v hc r=>k c v ?_ r) (λc r=>by rw[QY<|gU c b r];exact r) λc xs r=>by rw[QY<|jM c xs r];exact r
   rcases hc with rfl|hc;.exact cO
   .rintro rfl;rcases he with z|z;.exact gU c b hc z
    .rw[hc]at z;cases z;exact hb rfl
end
structure Un(fs ex:List Addr)(H H':Hp)(h h':Heap):Prop where
 keep:∀b o,h.get? b=some o->H b=none->b∉fs->b∉ex->h'.get? b=some o
 slot:∀b o,h.get? b=some o->H b=none->b∈fs->b∉ex->∃sl,h'.get? b=some {o with slots:=sl}free:∀b o,h.get? b=some o->H b=none->b∉ex->H' b=none
 there:∀b o,h.get? b=some o->b∉ex->∃o',h'.get? b=some o'
 tups:∀b xs,H b=some (.tup xs)->H' b=some (.tup xs)frzs:∀b o u,H b=some (.frz o u)->H' b=some (.frz o u)tbls:∀b ps,H b=some (.tbl ps)->∃more,H' b=some (.tbl<|ps++more)
section
variable{fs jA ex lh:List Addr}{H H1 H2:Hp}{h h1 h2 h':Heap}{a x e:Addr}{o:HO}
def Un.any(u:Un fs ex H H1 h h1){b:Addr}{ob:Obj}(q:h.get? b=some ob)(n:H b=none)(hx:b∉ex):∃sl,h1.get? b=some {ob with slots:=sl}:=by
 by_cases hb:b∈fs;.exact u.slot b ob q n hb hx
 .exact⟨ob.slots,u.keep b ob q n hb hx⟩
def Un.trans(a:Un fs ex H H1 h h1)(b:Un fs ex H1 H2 h1 h2):Un fs ex H H2 h h2 where
 keep:=λc ob q n hc hx=>b.keep c ob (a.keep c ob q n hc hx) (a.free c ob q n hx) hc hx
 slot:=λc ob q n hc hx=>by
  obtain⟨sl,e1⟩:=a.slot c ob q n hc hx;obtain⟨fF,e2⟩:=b.slot c _ e1 (a.free c ob q n hx) hc hx;exact⟨fF,e2⟩
 free:=λc ob q n hx=>by obtain⟨o',e1⟩:=a.there c ob q hx;exact b.free c o' e1 (a.free c ob q n hx) hx
 there:=λc ob q hx=>by
  obtain⟨o',e1⟩:=a.there c ob q hx;exact b.there c o' e1 hx
 tups:=λc xs q=>b.tups c xs<|a.tups c xs q
 frzs:=λc ob xs q=>b.frzs c ob xs<|a.frzs c ob xs q
 tbls:=λc ps q=>by
  obtain⟨m1,e1⟩:=a.tbls c ps q;obtain⟨m2,e2⟩:=b.tbls c _ e1;exact⟨m1++m2,by rw[e2,Array.append_assoc]⟩
def Un.kept(k:∀b u,h.get? b=some u->h'.get? b=some u):Un fs ex H H h h':=⟨λb ob q _ _ _=>k b ob q,λb ob q _ _ _=>⟨ob.slots,k b ob q⟩,λ_ _ _ n _=>n,λb ob q _=>⟨ob,k b ob q⟩,λ_ _ q=>q,λ_ _ _ q=>q,λ_ ps q=>⟨#[],by rw[q];simp⟩⟩
def Un.refl:Un fs ex H H h h:=Un.kept λ_ _ q=>q
def Un.laid(k:∀b u,h.get? b=some u->h'.get? b=some u)(hp:h.objs.size<=a)(hn:H a=none):Un fs ex H (upd H a o) h h' where
 keep:=λb u q _ _ _=>k b u q
 slot:=λb u q _ _ _=>⟨u.slots,k b u q⟩
 free:=λb u q n _=>by rw[QY<|Z5<|ZW (Heap.lt_size q) hp];exact n
 there:=λb u q _=>⟨u,k b u q⟩
 tups:=λb xs q=>by rw[QY<|VD q hn];exact q
 frzs:=λb u xs q=>by rw[QY<|VD q hn];exact q
 tbls:=λb ps q=>⟨#[],by rw[QY<|VD q hn,q];simp⟩
def Un.write(mu:Rx<|H x)(he:e=x\/H e=some (.own x))(k:∀b u,b≠e->h.get? b=some u->h'.get? b=some u)(gk:∃u,h'.get? e=some u):Un fs ex H (upd H x o) h h':=by
 have hx:∀b,H b=none->b≠x:=λb n z=>by subst z;rw[n]at mu;exact mu
 have hb:∀b,H b=none->b≠e:=λb n z=>by
  subst z;rcases he with r|r;.exact hx b n r
  .rw[n]at r;cases r
 have hm:∀b u,H b=some u->¬Rx (some u)->b≠x:=λb u q nm z=>by subst z;rw[q]at mu;exact nm mu
 refine⟨λb u q n _ _=>k b u (hb b n) q,λb u q n _ _=>⟨u.slots,k b u (hb b n) q⟩,λb u q n _=>by rw[QY<|hx b n];exact n,λb u q _=>?_,λb xs q=>by rw[QY<|hm b _ q λz=>z];exact q,λb u xs q=>by rw[QY<|hm b _ q λz=>z];exact q,λb ps q=>⟨#[],by rw[QY<|hm b _ q λz=>z,q];simp⟩⟩;by_cases cO:b=e;.subst cO;exact gk
 .exact⟨u,k b u cO q⟩
def Un.mono(u:Un fs ex H H1 h h1)(hs:∀b∈fs,b∈jA)(hx:∀b∈ex,b∈lh):Un jA lh H H1 h h1:=⟨λb ob q n hb he=>u.keep b ob q n (λz=>hb<|hs b z) λz=>he<|hx b z,λ_ _ q n _ he=>u.any q n λz=>he<|hx _ z,λb ob q n he=>u.free b ob q n λz=>he<|hx b z,λb ob q he=>u.there b ob q λz=>he<|hx b z,u.tups,u.frzs,u.tbls⟩
end
noncomputable def NH(h:Heap)(H:Hp):List Addr:=(List.range h.objs.size).filter λa=>(H a).isSome
def Wv(h:Heap)(H:Hp):Heap:=W.hideAll h<|NH h H
def QbV(h:Heap)(H:Hp):(Wv h H).objs.size=h.objs.size:=W.hideAll_size _ _
def QbU{h:Heap}{H:Hp}{b:Addr}{o:Obj}(e:h.get? b=some o)(n:H b=none):(Wv h H).get? b=some o:=W.hideAll_get _ e λhm=>by have q:(H b).isSome=true:=(List.mem_filter.mp hm).2;rw[n]at q;simp at q
def Qdy{h:Heap}{H:Hp}{b:Addr}{o:Obj}(e:(Wv h H).get? b=some o):h.get? b=some o/\H b=none:=by have e':h.get? b=some o:=W.of_hideAll (NH h H) e;refine⟨e',?_⟩;cases q:H b with|none=>rfl|some x=>have hm:b∈NH h H:=List.mem_filter.mpr ⟨List.mem_range.mpr<|Heap.lt_size e',by simp[q]⟩;have z:(Wv h H).get? b=none:=W.hideAll_none (NH h H) hm;rw[z]at e;cases e
noncomputable def A1(g h:Heap)(L:Addr):List<|Addr×Obj:=(List.range h.objs.size).filterMap λa=>if a=L\/(g.get? a).isSome=true then none else(h.get? a).map λo=>(a,o)
def rest(g h:Heap)(L d:Addr):List<|Addr×Obj:=(A1 g h L).filter λp=>decide<|p.1≠d
structure Mod(K:W.Frag)(mg:Str->Option Value)(ae:Heap):Prop where
 kin:K.In ae
 glob:ae.Ns mainGlobals mg
 blt:∃mb,ae.Ns builtinsNs mb/\∀x:Str,x≠"__name__"->mb x=bootBuiltins x
 nolimit:ae.NoLimit
structure Cx where
 prog:Program
 w:World
 K:W.Frag
 mg:Str->Option Value
 ae:Heap
 A:Around
 N:List Str
 s₀:Shared
 H₀:Hp
 env:Env
 af:List Env
 stack:List Env
 ex:List Addr
 fn:Str->Bool
 calm:Bool
 pn:List (Addr×Obj)xe:Value->Shared->Prop
abbrev _root_.WP(X:Cx)(x:Str):Prop:=X.fn x=true\/X.env.scope.names.lookup x=some .local
abbrev _root_.WF(X:Cx)(p:Pos)(es:List Expr):Prop:=(backTo p<|starEach es X.env).any (·.1)=false
abbrev _root_.Wp(X:Cx)(e:Expr)(es:List Expr):Prop:=starEach (e::es) X.env=(false,eval e X.env)::starEach es X.env
noncomputable def ZG(l:List Env):List Addr:=l.filterMap (·.frame)
abbrev Cx.fs(X:Cx):List Addr:=ZG X.af
def Yy(sc:Scope)(x:Str):Prop:=sc.names.lookup x=some .local\/sc.names.lookup x=some .cell\/sc.names.lookup x=some .free
def WN(sc:Scope)(x:Str):Prop:=sc.names.lookup x=some .local\/sc.names.lookup x=some .cell
def BS(env:Env)(h:Heap)(m:Str->Option Value)(x:Str)(u:Value):Prop:=env.kindOf x=some .local/\m x=some u\/(env.kindOf x=some .cell\/env.kindOf x=some .free)/\∃c,env.cells.lookup x=some c/\h.IsCell c (some u)
structure Cx.Ok(X:Cx):Prop where
 mod:Mod X.K X.mg X.ae
 kind:X.env.scope.kind=.function
 glob:X.env.globals=mainGlobals
 blt:X.env.builtins=builtinsNs
 above:X.s₀.heap.objs.size<=X.env.locals
 inj:∀x y c,X.env.cells.lookup x=some c->X.env.cells.lookup y=some c->x=y
 has:∀x,X.env.kindOf x=some .cell\/X.env.kindOf x=some .free->∃c,X.env.cells.lookup x=some c
 cab:∀x c,X.fn x=true->X.env.cells.lookup x=some c->X.s₀.heap.objs.size<=c
 hd:X.calm=true->X.A.handled=none
 frames:X.A.frames=some X.stack
 stk:X.stack=X.af\/(X.stack=X.env::X.af/\X.env.frame=some X.env.locals)exf:∀b∈X.ex,b≠X.env.locals/\∀x c,X.env.cells.lookup x=some c->c≠b
 bs:∀b o,X.ae.get? b=some o->X.s₀.heap.get? b=some o/\X.H₀ b=none
 bsz:X.ae.objs.size<=X.s₀.heap.objs.size
 noex:∀b o,X.ae.get? b=some o->b∉X.ex
 exfs:∀b∈X.ex,b∉X.fs
 funs:X.s₀.heap.FunFrames X.ae X.af
 frf:∀b∈X.fs,X.H₀ b=none
structure Inv(X:Cx)(aa:List<|Addr×Obj)(σ:List<|Option V)(H:Hp)(s:Shared):Prop where
 ok:X.Ok
 os:s.os=X.s₀.os
 bare:AllBare s.gens
 ae:Un X.fs X.ex X.H₀ H X.s₀.heap s.heap
 loc:∃m,s.heap.Ns X.env.locals m/\∀(i:Nat)(x:Str)(v:V),X.N[i]?=some x->σ[i]?=some (some v)->Yy X.env.scope x->∃u,RelV v u/\BS X.env s.heap m x u
 cell:∀x c,X.env.cells.lookup x=some c->∃v,s.heap.IsCell c v
 free:H X.env.locals=none
 freeC:∀x c,X.env.cells.lookup x=some c->H c=none
 pin:∀p∈X.pn++aa,s.heap.get? p.1=some p.2/\H p.1=none/\p.1≠X.env.locals/\p.1∉X.fs/\∀v,p.2.data≠.cell v
 hok:HOk X.prog X.w H s.heap
 len:σ.length=X.N.length
section
variable{X:Cx}{aa:List<|Addr×Obj}{σ:List<|Option V}{H H':Hp}{s:Shared}{h':Heap}
def Cx.Ok.nofr(ok:X.Ok){b:Addr}{o:Obj}(e:X.ae.get? b=some o):b∉X.fs:=λhb=>by have:=(ok.funs.mem hb).1;rw[e]at this;cases this
theorem Inv.bs(I:Inv X aa σ H s):∀b o,X.ae.get? b=some o->s.heap.get? b=some o/\H b=none:=λb o e=>⟨I.ae.keep b o (I.ok.bs b o e).1 (I.ok.bs b o e).2 (I.ok.nofr e)<|I.ok.noex b o e,I.ae.free b o (I.ok.bs b o e).1 (I.ok.bs b o e).2<|I.ok.noex b o e⟩
def Inv.bk(I:Inv X aa σ H s):∀b o,X.ae.get? b=some o->s.heap.get? b=some o:=λb o e=>(I.bs b o e).1
theorem Inv.mod(I:Inv X aa σ H s):Mod X.K X.mg X.ae:=I.ok.mod
def Inv.kIn(I:Inv X aa σ H s):X.K.In s.heap:=I.ok.mod.kin.keeps I.bk
theorem Inv.nolimit(I:Inv X aa σ H s):s.heap.NoLimit:=I.ok.mod.nolimit.keeps I.bk
def Inv.fr(I:Inv X aa σ H s):∃m,Fr X.ae X.env.locals s.heap m:=let⟨m,hn,_⟩:=I.loc
 ⟨m,hn,I.bk,ZU I.ok.bsz I.ok.above⟩
theorem Inv.lt(I:Inv X aa σ H s):X.env.locals<s.heap.objs.size:=let⟨_,hn,_⟩:=I.loc;hn.lt
def Inv.sz(I:Inv X aa σ H s):X.s₀.heap.objs.size<=s.heap.objs.size:=ZU I.ok.above<|le_of_lt I.lt
def Inv.nofs(I:Inv X aa σ H s){a:Addr}(h:s.heap.objs.size<=a):a∉X.fs:=λhb=>by obtain⟨_,o,ho,_⟩:=I.ok.funs.mem hb;exact absurd (ZW (Heap.lt_size ho)<|ZU I.sz h)<|X6 _
def Inv.cne(I:Inv X aa σ H s):∀x c,X.env.cells.lookup x=some c->c≠X.env.locals:=λx c e z=>by obtain⟨v,o,ho,hd⟩:=I.cell x c e;obtain⟨m,⟨o',es,ep,dg,cY,_⟩,_⟩:=I.loc;rw[z,dg]at ho;cases ho;rw[cY]at hd;cases hd
theorem Inv.funs(I:Inv X aa σ H s):s.heap.FunFrames X.ae X.af:=by
 have all:∀(l:List Env),(∀b∈ZG l,b∈X.fs)->X.s₀.heap.FunFrames X.ae l->s.heap.FunFrames X.ae l:=by intro l;induction l with|nil=>intro _ _;trivial|cons env r ih=>
   intro hs hl;obtain⟨hk,⟨L,o,hf,hn,ho,hd⟩,hr⟩:=hl;have hL:L∈X.fs:=hs L (by unfold ZG;rw[filterMap_cons,hf];exact JY);obtain⟨sl,e⟩:=I.ae.slot L o ho (I.ok.frf L hL) hL λz=>I.ok.exfs L z hL;exact⟨hk,⟨L,_,hf,hn,e,hd⟩,ih (λb hb=>hs b<|by unfold ZG;rw[filterMap_cons,hf];exact Qy _ hb) hr⟩
 exact all X.af (λ_ hb=>hb) I.ok.funs
theorem Inv.stack(I:Inv X aa σ H s):s.heap.FunFrames X.ae X.stack:=by
 rcases I.ok.stk with e|⟨e,hf⟩;.rw[e];exact I.funs
 .rw[e];obtain⟨m,hn,_⟩:=I.loc;refine .cons (by rw[I.ok.kind];decide) hf hn ?_ I.funs;exact Heap.get?_none_of_le<|ZU I.ok.bsz I.ok.above
def Inv.stkSub(I:Inv X aa σ H s):∀b∈ZG X.stack,b∈X.env.locals::X.fs:=λb hb=>by
 rcases I.ok.stk with e|⟨e,hf⟩;.rw[e]at hb;exact Qy _ hb
 .rw[e]at hb;unfold ZG at hb;rw[filterMap_cons,hf]at hb;exact hb
def Inv.stkFree(I:Inv X aa σ H s):∀b∈ZG X.stack,H b=none:=λb hb=>by
 rcases q_7.mp<|I.stkSub b hb with e|hb;.rw[e];exact I.free
 .obtain⟨_,o,ho,_⟩:=I.ok.funs.mem hb;exact I.ae.free b o ho (I.ok.frf b hb) λz=>I.ok.exfs b z hb
def Inv.step{g':Array GenState}{t':Nat}{d':Drawn}{ch:List Addr}(I:Inv X aa σ H s)(dJ:∀b∈ch,(b∈X.ex\/X.s₀.heap.objs.size<=b)/\b≠X.env.locals/\(∀x c,X.env.cells.lookup x=some c->c≠b)/\∀p∈X.pn++aa,p.1≠b)(keep:∀b o,b≠X.env.locals->b∉X.fs->b∉ch->s.heap.get? b=some o->H b=none->h'.get? b=some o)(slot:∀b o,b≠X.env.locals->b∈X.fs->b∉ch->s.heap.get? b=some o->H b=none->∃sl,h'.get? b=some {o with slots:=sl})(free:∀b o,b∉ch->s.heap.get? b=some o->H b=none->H' b=none)(there:∀b o,b∉ch->s.heap.get? b=some o->∃o',h'.get? b=some o')(tups:∀b xs,H b=some (.tup xs)->H' b=some (.tup xs))(frzs:∀b o u,H b=some (.frz o u)->H' b=some (.frz o u))(tbls:∀b ps,H b=some (.tbl ps)->∃more,H' b=some (.tbl<|ps++more))(ns:∀m,s.heap.Ns X.env.locals m->h'.Ns X.env.locals m)(hok:HOk X.prog X.w H' h')(hg:AllBare g'):Inv X aa σ H' {s with heap:=h',gens:=g',drawn:=d',toks:=t'}:=by
 have neL:∀b o,X.s₀.heap.get? b=some o->b≠X.env.locals:=λb o e=>Z5<|ZW (Heap.lt_size e) I.ok.above;have iy:∀b o,X.s₀.heap.get? b=some o->b∉X.ex->b∉ch:=λb o e hx hb=>by
  rcases(dJ b hb).1 with z|z;.exact hx z
  .exact absurd (ZW (Heap.lt_size e) z)<|X6 _
 have cellK:∀x c,X.env.cells.lookup x=some c->∀v,s.heap.IsCell c v->h'.IsCell c v:=by
  rintro x c e v⟨o,ho,hd⟩;have gz:c∉ch:=λz=>(dJ c z).2.2.1 x c e rfl;by_cases hc:c∈X.fs;.obtain⟨sl,q⟩:=slot c o (I.cne x c e) hc gz ho<|I.freeC x c e;exact⟨_,q,hd⟩
  .exact⟨o,keep c o (I.cne x c e) hc gz ho<|I.freeC x c e,hd⟩
 refine⟨I.ok,I.os,hg,⟨λb o e n hb hx=>?_,λb o e n hb hx=>?_,λb o e n hx=>?_,λb o e hx=>?_,λb xs e=>tups b xs<|I.ae.tups b xs e,λb o xs e=>frzs b o xs<|I.ae.frzs b o xs e,λb ps e=>?_⟩,?_,λx c e=>?_,?_,λx c e=>?_,λp hp=>?_,hok,I.len⟩;.exact keep b o (neL b o e) hb (iy b o e hx) (I.ae.keep b o e n hb hx)<|I.ae.free b o e n hx
 .obtain⟨sl,e1⟩:=I.ae.slot b o e n hb hx;obtain⟨fF,e2⟩:=slot b _ (neL b o e) hb (iy b o e hx) e1<|I.ae.free b o e n hx;exact⟨fF,e2⟩
 .obtain⟨o',e1⟩:=I.ae.there b o e hx;exact free b o' (iy b o e hx) e1<|I.ae.free b o e n hx
 .obtain⟨o',e1⟩:=I.ae.there b o e hx;exact there b o' (iy b o e hx) e1
 .obtain⟨m1,e1⟩:=I.ae.tbls b ps e;obtain⟨m2,e2⟩:=tbls b _ e1;exact⟨m1++m2,by rw[e2,Array.append_assoc]⟩
 .obtain⟨m,hn,hl⟩:=I.loc;refine⟨m,ns m hn,λi x v e1 e2 e3=>?_⟩;obtain⟨u,r,l⟩:=hl i x v e1 e2 e3;refine⟨u,r,?_⟩;rcases l with l|⟨k,c,e,z⟩;.exact .inl l
  .exact .inr ⟨k,c,e,cellK x c e _ z⟩
 .obtain⟨v,z⟩:=I.cell x c e;exact⟨v,cellK x c e v z⟩
 .obtain⟨m,⟨o,_,_,ho,_⟩,_⟩:=I.loc;exact free _ o (λz=>(dJ _ z).2.1 rfl) ho I.free
 .obtain⟨v,o,ho,hd⟩:=I.cell x c e;exact free c o (λz=>(dJ c z).2.2.1 x c e rfl) ho<|I.freeC x c e
 .obtain⟨e,n,ne,nf,d⟩:=I.pin p hp;have gz:p.1∉ch:=λz=>(dJ p.1 z).2.2.2 p hp rfl;exact⟨keep p.1 p.2 ne nf gz e n,free p.1 p.2 gz e n,ne,nf,d⟩
def Inv.un{t':Nat}(I:Inv X aa σ H s)(u:Un X.fs [] H H' s.heap h')(hok:HOk X.prog X.w H' h'):Inv X aa σ H' {s with heap:=h',toks:=t'}:=by obtain⟨m,⟨o,es,ep,ho,r⟩,_⟩:=id I.loc;obtain⟨sl,hL⟩:=u.any ho I.free (by simp);exact I.step (g':=s.gens) (d':=s.drawn) (ch:=[]) (λ_ z=>nomatch z) (λb o _ hb _ e n=>u.keep b o e n hb<|by simp) (λb o _ hb _ e n=>u.slot b o e n hb<|by simp) (λb o _ e n=>u.free b o e n<|by simp) (λb o _ e=>u.there b o e<|by simp) u.tups u.frzs u.tbls (λm' hm=>by obtain⟨o',iN,jC,dg,r'⟩:=hm;rw[ho]at dg;cases dg;exact⟨_,iN,jC,hL,r'⟩) hok I.bare
def Inv.call{g':Array GenState}{t':Nat}{d':Drawn}{ch:List Addr}(I:Inv X aa σ H s)(u:Un (ZG X.stack) ch H H' s.heap h')(hok:HOk X.prog X.w H' h')(hg:AllBare g')(dJ:∀b∈ch,(b∈X.ex\/X.s₀.heap.objs.size<=b)/\b≠X.env.locals/\(∀x c,X.env.cells.lookup x=some c->c≠b)/\∀p∈X.pn++aa,p.1≠b):Inv X aa σ H' {s with heap:=h',gens:=g',drawn:=d',toks:=t'}:=by obtain⟨m,⟨o,es,ep,ho,r⟩,_⟩:=id I.loc;obtain⟨sl,hL⟩:=u.any ho I.free λz=>(dJ _ z).2.1 rfl;exact I.step (ch:=ch) dJ (λb o hL hb hc e n=>u.keep b o e n (λz=>(q_7.mp<|I.stkSub b z).elim hL hb) hc) (λb o _ _ hc e n=>u.any e n hc) (λb o hc e n=>u.free b o e n hc) (λb o hc e=>u.there b o e hc) u.tups u.frzs u.tbls (λm' hm=>by obtain⟨o',iN,jC,dg,r'⟩:=hm;rw[ho]at dg;cases dg;exact⟨_,iN,jC,hL,r'⟩) hok hg
def Inv.turned{t':Nat}{it:Addr}(I:Inv X aa σ H s)(k:∀b o,b≠it->s.heap.get? b=some o->h'.get? b=some o)(hn:H it=none)(hL:it≠X.env.locals)(h1:it∈X.ex\/X.s₀.heap.objs.size<=it)(h2:∀x c,X.env.cells.lookup x=some c->c≠it)(h3:∀p∈X.pn++aa,p.1≠it):Inv X aa σ H {s with heap:=h',toks:=t'}:=by
 have eT:∀b u,H b=some u->b≠it:=λb u e z=>by rw[z,hn]at e;cases e
 refine I.step (g':=s.gens) (d':=s.drawn) (ch:=[it]) (λb hb=>?_) (λb o _ _ hc e _=>k b o (λz=>hc<|by simp[z]) e) (λb o _ _ hc e _=>⟨o.slots,k b o (λz=>hc<|by simp[z]) e⟩) (λ_ _ _ _ n=>n) (λb o hc e=>⟨o,k b o (λz=>hc<|by simp[z]) e⟩) (λ_ _ e=>e) (λ_ _ _ e=>e) (λb ps e=>⟨#[],by rw[e];simp⟩) (λm hm=>?_) (λb u e=>?_) I.bare
 .have e:b=it:=by simpa using hb
  subst e;exact⟨h1,hL,h2,h3⟩
 .obtain⟨o,es,ep,ho,r⟩:=hm;exact⟨o,es,ep,k _ o (Ne.symm hL) ho,r⟩
 .refine(I.hok b u e).stay (λc v hc q=>k c v ?_ q) (λ_ q=>q) λ_ _ q=>q;rcases hc with z|z;.rw[z];exact eT b u e
  .exact eT c _ z
def Inv.tok(I:Inv X aa σ H s)(t:Nat):Inv X aa σ H {s with toks:=t}:=I.un (h':=s.heap) (t':=t) Un.refl I.hok
theorem Inv.kept{t':Nat}(I:Inv X aa σ H s)(k:∀b u,s.heap.get? b=some u->h'.get? b=some u):Inv X aa σ H {s with heap:=h',toks:=t'}:=I.un (Un.kept k)<|I.hok.kept k
theorem Inv.laid{a:Addr}{o:HO}{t':Nat}(I:Inv X aa σ H s)(k:∀b u,s.heap.get? b=some u->h'.get? b=some u)(hp:s.heap.objs.size<=a)(new:ObjOk X.prog X.w (upd H a o) h' a o):Inv X aa σ (upd H a o) {s with heap:=h',toks:=t'}:=I.un (Un.laid k hp<|I.hok.fresh hp)<|I.hok.laid k hp new
theorem Inv.write{x e:Addr}{o:HO}{t':Nat}(I:Inv X aa σ H s)(mu:Rx<|H x)(he:e=x\/H e=some (.own x))(k:∀b u,b≠e->s.heap.get? b=some u->h'.get? b=some u)(gk:∃u,h'.get? e=some u)(new:ObjOk X.prog X.w (upd H x o) h' x o):Inv X aa σ (upd H x o) {s with heap:=h',toks:=t'}:=I.un (Un.write mu he k gk)<|I.hok.write mu he k gk new
def Inv.pins_of{fj:List<|Addr×Obj}(I:Inv X aa σ H s)(h:∀p∈fj,s.heap.get? p.1=some p.2/\H p.1=none/\p.1≠X.env.locals/\p.1∉X.fs/\∀v,p.2.data≠.cell v):Inv X fj σ H s:=⟨I.ok,I.os,I.bare,I.ae,I.loc,I.cell,I.free,I.freeC,λp hp=>(q_8.mp hp).elim (λz=>I.pin p<|Y2 _ z)<|h p,I.hok,I.len⟩
def LS{N:List Str}(hN:N.Nodup){i j:Nat}{x:Str}(a:N[i]?=some x)(b:N[j]?=some x):i=j:=by obtain⟨h1,e1⟩:=q_33.mp a;obtain⟨h2,e2⟩:=q_33.mp b;exact(List.getElem_inj hN).mp<|e1.trans e2.symm
def Cp{M:Model}{A:Around}{E:Value->Shared->Prop}{i:Nat}{x:Str}{v:V}{u:Value}{Q:Unit->Shared->Prop}(I:Inv X aa σ H s)(hN:X.N.Nodup)(hi:X.N[i]?=some x)(hx:WN X.env.scope x)(r:RelV v u)(h:∀s',Inv X aa (σ.set i<|some v) H s'->(∃a,Heap.SameBut a s.heap s'.heap/\(a=X.env.locals\/X.env.cells.lookup x=some a))->Q () s')(hf:WP X x:=by first|exact .inl rfl|exact .inr rfl|assumption):wpAny M A (storeName X.env x u) Q E s:=by
 obtain⟨m,hn,hl⟩:=id I.loc;have dW:(X.env.scope.kind==.class||X.env.scope.kind==.module&&X.env.locals !=X.env.globals)=false:=by rw[I.ok.kind];rfl
 have eQ:i<σ.length:=by rw[I.len];exact(q_33.mp hi).1
 have cne:=I.cne;have tracked:∀{a:Addr}{h':Heap},(∃o,s.heap.get? a=some o/\H a=none)->Heap.SameBut a s.heap h'->HOk X.prog X.w H h':=λ{a h'}ha hs b ob e=>by
  obtain⟨_,_,cQ⟩:=ha;refine(I.hok b ob e).stay (λc w' hc q=>(hs.2 c ?_).trans q) (λ_ q=>q) λ_ _ q=>q;rintro rfl;rcases hc with rfl|hc;.rw[cQ]at e;cases e
  .rw[cQ]at hc;cases hc
 rcases hx with hk|hk
 .refine wpAny_storeName_local hk hn (λh' eF hs=>?_) dW;obtain⟨oL,_,_,i8,_⟩:=id hn;refine h _ ⟨I.ok,I.os,I.bare,⟨λb o e n hb hx=>?_,λb o e n hb hx=>?_,I.ae.free,λb o e hx=>?_,I.ae.tups,I.ae.frzs,I.ae.tbls⟩,⟨_,eF,λj y v' e1 e2 e3=>?_⟩,λy c e=>?_,I.free,I.freeC,λp hp=>?_,tracked ⟨oL,i8,I.free⟩ hs,by simpa using I.len⟩ ⟨_,hs,.inl rfl⟩;.exact(hs.2 b<|Z5<|ZW (Heap.lt_size e) I.ok.above).trans<|I.ae.keep b o e n hb hx
  .obtain⟨sl,e1⟩:=I.ae.slot b o e n hb hx;exact⟨sl,(hs.2 b<|Z5<|ZW (Heap.lt_size e) I.ok.above).trans e1⟩
  .obtain⟨o',e1⟩:=I.ae.there b o e hx;exact⟨o',(hs.2 b<|Z5<|ZW (Heap.lt_size e) I.ok.above).trans e1⟩
  .by_cases hj:j=i
   .subst hj;rw[hi]at e1;cases e1;rw[RG eQ]at e2;cases e2;exact⟨u,r,.inl ⟨hk,by simp⟩⟩
   .rw[Wb<|Ne.symm hj]at e2;obtain⟨u',r',q⟩:=hl j y v' e1 e2 e3;refine⟨u',r',?_⟩;rcases q with⟨k,e⟩|⟨k,c,e,z⟩
    .refine .inl ⟨k,?_⟩;have:y≠x:=λe=>hj<|LS hN e1<|e▸hi;simp[this,e]
    .exact .inr ⟨k,c,e,z.sameBut hs<|cne y c e⟩
  .obtain⟨w',z⟩:=I.cell y c e;exact⟨w',z.sameBut hs<|cne y c e⟩
  .obtain⟨e,n,ne,nf,d⟩:=I.pin p hp;exact⟨(hs.2 p.1 ne).trans e,n,ne,nf,d⟩
 .have fN:X.fn x=true:=by
   rcases hf with z|z;.exact z
   .rw[z]at hk;cases hk
  obtain⟨c,hc⟩:=I.ok.has x<|.inl hk;obtain⟨w',z⟩:=I.cell x c hc;refine wpAny_storeName_cell I.ok.kind hk hc z λh' fP hs=>?_;obtain⟨oc,iE,jV⟩:=id z;refine h {s with heap:=h'} ⟨I.ok,I.os,I.bare,⟨λb o e n hb hx=>?_,λb o e n hb hx=>?_,I.ae.free,λb o e hx=>?_,I.ae.tups,I.ae.frzs,I.ae.tbls⟩,⟨m,hn.sameBut hs<|Ne.symm<|cne x c hc,λj y v' e1 e2 e3=>?_⟩,λy c' e=>?_,I.free,I.freeC,λp hp=>?_,tracked ⟨oc,iE,I.freeC x c hc⟩ hs,by simpa using I.len⟩ ⟨c,hs,.inr hc⟩;.exact(hs.2 b<|Z5<|ZW (Heap.lt_size e)<|I.ok.cab x c fN hc).trans<|I.ae.keep b o e n hb hx
  .obtain⟨sl,e1⟩:=I.ae.slot b o e n hb hx;exact⟨sl,(hs.2 b<|Z5<|ZW (Heap.lt_size e)<|I.ok.cab x c fN hc).trans e1⟩
  .obtain⟨o',e1⟩:=I.ae.there b o e hx;exact⟨o',(hs.2 b<|Z5<|ZW (Heap.lt_size e)<|I.ok.cab x c fN hc).trans e1⟩
  .by_cases hj:j=i
   .subst hj;rw[hi]at e1;cases e1;rw[RG eQ]at e2;cases e2;exact⟨u,r,.inr ⟨.inl hk,c,hc,fP⟩⟩
   .rw[Wb<|Ne.symm hj]at e2;obtain⟨u',r',q⟩:=hl j y v' e1 e2 e3;refine⟨u',r',?_⟩;rcases q with q|⟨k,c',e,z'⟩;.exact .inl q
    .refine .inr ⟨k,c',e,z'.sameBut hs ?_⟩;rintro rfl;exact hj<|LS hN e1<|I.ok.inj _ _ _ e hc▸hi
  .by_cases kR:c'=c;.subst kR;exact⟨_,fP⟩
   .obtain⟨w2,z2⟩:=I.cell y c' e;exact⟨w2,z2.sameBut hs kR⟩
  .obtain⟨e,n,ne,nf,d⟩:=I.pin p hp;refine⟨(hs.2 p.1 ?_).trans e,n,ne,nf,d⟩;intro q;rw[q,iE]at e;have q':oc=p.2:=Q5 e;exact d w'<|by rw[<-q'];exact jV
def Ri{M:Model}{A:Around}{E:Value->Shared->Prop}{i:Nat}{x:Str}{v:V}{u:Value}{Q:Unit->Shared->Prop}(I:Inv X aa σ H s)(hN:X.N.Nodup)(hi:X.N[i]?=some x)(hx:WN X.env.scope x)(r:RelV v u)(h:∀s',Inv X aa (σ.set i<|some v) H s'->Q () s')(hf:WP X x:=by first|exact .inl rfl|exact .inr rfl|assumption):wpAny M A (storeName X.env x u) Q E s:=Cp I hN hi hx r (λs' I' _=>h s' I') hf
def Inv.call'{s':Shared}{ch:List Addr}(I:Inv X aa σ H s)(ho:s'.os=s.os)(u:Un (ZG X.stack) ch H H' s.heap s'.heap)(hok:HOk X.prog X.w H' s'.heap)(hg:AllBare s'.gens)(dJ:∀b∈ch,(b∈X.ex\/X.s₀.heap.objs.size<=b)/\b≠X.env.locals/\(∀x c,X.env.cells.lookup x=some c->c≠b)/\∀p∈X.pn++aa,p.1≠b):Inv X aa σ H' s':=by obtain⟨h',g',d',t',o'⟩:=s';have e:o'=s.os:=ho;subst e;exact I.call (g':=g') (t':=t') (d':=d') u hok hg dJ
end
abbrev XK:=Value->Option Addr->Hp->Prop
abbrev St:=List<|Option V
abbrev VK:=V->Hp->Prop
abbrev TE:=St->Hp->VK->Prop
noncomputable abbrev TT:=St->Hp->(Bool->Hp->Prop)->Prop
noncomputable abbrev TA:=St->Hp->(List V->Hp->Prop)->Prop
structure Ends where
 nx:St->Hp->Prop
 rt:VK
 bk:St->Hp->Prop:=λ_ _=>False
 ct:St->Hp->Prop:=λ_ _=>False
abbrev TS:=Ends->St->Hp->Prop
inductive EP(X:Cx)(aa:List<|Addr×Obj)(σ:St)(Q:VK)(u:Value)(s':Shared):Prop|mk(v:V)(H':Hp)(h1:Inv X aa σ H' s')(h2:RelV v u)(h3:Q v H'):EP X aa σ Q u s'
def TP(X:Cx)(aa:List<|Addr×Obj)(σ:St)(Q:Bool->Hp->Prop)(b:Bool)(s':Shared):Prop:=∃H',Inv X aa σ H' s'/\Q b H'
inductive AP(X:Cx)(aa:List<|Addr×Obj)(σ:St)(Q:List V->Hp->Prop)(us:List Value)(s':Shared):Prop|mk(vs:List V)(H':Hp)(h1:Inv X aa σ H' s')(h2:Vals vs us)(h3:Q vs H'):AP X aa σ Q us s'
def SP(X:Cx)(aa:List<|Addr×Obj)(D:Ends)(f:Flow)(s':Shared):Prop:=match f with|.next=>∃σ' H',Inv X aa σ' H' s'/\D.nx σ' H'|.brk=>∃σ' H',Inv X aa σ' H' s'/\D.bk σ' H'|.cont=>∃σ' H',Inv X aa σ' H' s'/\D.ct σ' H'|.ret u=>∃v σ' H',Inv X aa σ' H' s'/\RelV v u/\D.rt v H'
def PE(X:Cx)(e:Expr)(t:TE):Prop:=∀(aa:List<|Addr×Obj)(s:Shared)(σ:St)(H:Hp)(Q:VK),Inv X aa σ H s->t σ H Q->wpAny (model X.prog X.w) X.A (eval e X.env) (EP X aa σ Q) X.xe s
def PT(X:Cx)(e:Expr)(t:TT):Prop:=∀(aa:List<|Addr×Obj)(s:Shared)(σ:St)(H:Hp)(Q:Bool->Hp->Prop),Inv X aa σ H s->t σ H Q->wpAny (model X.prog X.w) X.A (isTrue e X.env<|eval e X.env) (TP X aa σ Q) X.xe s
def PW(X:Cx)(e:Expr)(t:TT):Prop:=∀(whole:Sem Value)(aa:List<|Addr×Obj)(s:Shared)(σ:St)(H:Hp)(Q:Bool->Hp->Prop),Inv X aa σ H s->t σ H Q->wpAny (model X.prog X.w) X.A (isTrue e X.env whole) (TP X aa σ Q) X.xe s
def PW.pt{X:Cx}{e:Expr}{t:TT}(h:PW X e t):PT X e t:=h _
def PA(X:Cx)(es:List Expr)(t:TA):Prop:=∀(pos:Pos)(aa:List<|Addr×Obj)(s:Shared)(σ:St)(H:Hp)(Q:List V->Hp->Prop),Inv X aa σ H s->t σ H Q->wpAny (model X.prog X.w) X.A (spliced<|backTo pos<|starEach es X.env) (AP X aa σ Q) X.xe s
def PS(X:Cx)(st:Stmt)(t:TS):Prop:=∀(aa:List<|Addr×Obj)(s:Shared)(σ:St)(H:Hp)(D:Ends),Inv X aa σ H s->t D σ H->wpAny (model X.prog X.w) X.A (exec st X.env) (SP X aa D) X.xe s
def PSs(X:Cx)(st:List Stmt)(t:TS):Prop:=∀(aa:List<|Addr×Obj)(s:Shared)(σ:St)(H:Hp)(D:Ends),Inv X aa σ H s->t D σ H->wpAny (model X.prog X.w) X.A (execs st X.env) (SP X aa D) X.xe s
def Qd{α:Type}{t:Sem α}{Q Q':α->Shared->Prop}{M:Model}{A:Around}{E:Value->Shared->Prop}{s:Shared}(h:wpAny M A t Q E s)(hQ:∀a s,Q a s->Q' a s):wpAny M A t Q' E s:=wpAny_mono h hQ λ_ _ x=>x
section
variable{X:Cx}
noncomputable def J7(i:Nat):TE:=λσ H Q=>∃v,σ[i]?=some (some v)/\Q v H
def tC(v:V):TE:=λ_ H Q=>Q v H
def J8{i:Nat}{x:Str}{pos:Pos}(hN:X.N[i]?=some x)(hv:Yy X.env.scope x)(hd:XV x:=by decide)(bE:(x==("__classdict__":Str))=false:=by decide):PE X (.Name x pos)<|J7 i:=by
 intro aa s σ H Q I h;obtain⟨v,e,h⟩:=h;obtain⟨m,hn,hl⟩:=I.loc;obtain⟨u,r,l⟩:=hl i x v hN e hv;have fin:EP X aa σ Q u s:=⟨v,H,I,r,h⟩;rcases l with⟨hk,hm⟩|⟨hk,c,hc,cm⟩;.exact wpAny_Name (wpAny_loadName_local I.ok.kind hk hn hm fin) hd
 .rcases hk with hk|hk;.exact wpAny_Name (wpAny_loadName_cell I.ok.kind hk hc cm fin) hd
  .exact wpAny_Name (wpAny_loadName_free I.ok.kind hk hc cm fin bE) hd
def WD{i j pos}:PE X (.Constant (.int i) j pos)<|tC<|.int i:=λ_ _ _ H _ I h=>wpAny_Constant_int ⟨.int i,H,I.tok _,⟨_,rfl⟩,h⟩
def YI{b j pos}:PE X (.Constant (.bool b) j pos)<|tC<|.bl b:=λ_ _ _ H _ I h=>Constant_bool ⟨.bl b,H,I,rfl,h⟩
def RD{j pos}:PE X (.Constant .none j pos)<|tC .non:=λ_ _ _ H _ I h=>Constant_none ⟨.non,H,I,rfl,h⟩
def Ou{x j pos}:PE X (.Constant (.str x) j pos)<|tC<|.str x:=λ_ _ _ H _ I h=>Calls.Constant_str ⟨.str x,H,I.tok _,⟨_,rfl⟩,h⟩
def Gl(X:Cx)(x:Str):Prop:=X.env.kindOf x=some .globalImplicit
def Se{E:Value->Shared->Prop}{aa:List<|Addr×Obj}{s:Shared}{σ:St}{H:Hp}{x:Str}{u:Value}{pos:Pos}{Q:Value->Shared->Prop}(I:Inv X aa σ H s)(hg:Gl X x)(hm:X.mg x=some u)(h:Q u s)(hd:XV x:=by decide):wpAny (model X.prog X.w) X.A (eval (.Name x pos) X.env) Q E s:=Calls.Name_function_global I.ok.kind hg (Calls.loadGlobal_global (by rw[I.ok.glob];exact I.mod.glob.keeps I.bk) hm h) hd
def Sd{E:Value->Shared->Prop}{aa:List<|Addr×Obj}{s:Shared}{σ:St}{H:Hp}{x:Str}{u:Value}{pos:Pos}{Q:Value->Shared->Prop}(I:Inv X aa σ H s)(hg:Gl X x)(hm:X.mg x=none)(hv:bootBuiltins x=some u)(h:Q u s)(hn:x≠"__name__":=by decide)(hd:XV x:=by decide):wpAny (model X.prog X.w) X.A (eval (.Name x pos) X.env) Q E s:=by obtain⟨mb,h1,h2⟩:=I.mod.blt;exact Calls.Name_function_global I.ok.kind hg (Calls.loadGlobal_builtin (by rw[I.ok.glob];exact I.mod.glob.keeps I.bk) hm (by rw[I.ok.blt];exact h1.keeps I.bk) ((h2 x hn).trans hv) h) hd
def D7{x:Str}{v:V}{u:Value}{pos:Pos}(hg:Gl X x)(hm:X.mg x=none)(hv:bootBuiltins x=some u)(r:RelV v u)(hn:x≠"__name__":=by decide)(hd:XV x:=by decide):PE X (.Name x pos)<|tC v:=λ_ _ _ H _ I h=>Sd I hg hm hv ⟨v,H,I,r,h⟩ hn hd
variable{a b:Expr}{ta tb:TE}{pos:Pos}
def PC(X:Cx)(op:CmpOp)(a b:Expr)(t:TE):Prop:=∀(aa:List<|Addr×Obj)(s:Shared)(σ:St)(H:Hp)(Q:VK),Inv X aa σ H s->t σ H Q->wpAny (model X.prog X.w) X.A (eval a X.env) (λv s₁=>wpAny (model X.prog X.w) X.A (eval b X.env) (λu s₂=>wpAny (model X.prog X.w) X.A (compareOp op v u) (EP X aa σ Q) X.xe s₂) X.xe s₁) X.xe s
def Qdp(b:Expr){op:CmpOp}(h:op≠.In)(h2:op≠.NotIn):behindInMarks op b=false:=by
 have e1:(op==CmpOp.In)=false:=by cases op<;>first|rfl|exact absurd rfl h
 have e2:(op==CmpOp.NotIn)=false:=by cases op<;>first|rfl|exact absurd rfl h2
 cases b<;>simp[behindInMarks,e1,e2]
noncomputable def Ke(ta:TE):TE:=λσ H Q=>ta σ H λx H1=>Q (.bl<|decide<|x=.non) H1
def RelV.none_iff{x:V}{v:Value}(r:RelV x v):(v==Value.none)=decide (x=.non):=by cases x with|non=>cases r;rfl|bl _=>cases r;rfl|int _=>obtain⟨t,rfl⟩:=r;rfl|str _=>obtain⟨t,rfl⟩:=r;rfl|byt _=>obtain⟨t,rfl⟩:=r;rfl|flt _=>obtain⟨t,rfl⟩:=r;rfl|ref _=>cases r;rfl|ty _=>cases r;rfl
def D6{j pos'}(ha:PE X a ta):PC X .Is a (.Constant .none j pos')<|Ke ta:=by intro aa s σ H Q I h;refine Qd (ha aa s σ H _ I h) ?_;rintro v s1⟨x,H1,I1,r1,q1⟩;exact Constant_none<|is_none_gen ⟨.bl _,H1,I1,by rw[r1.none_iff];rfl,q1⟩
def tB(t:TE):TT:=λσ H Q=>t σ H λx H1=>∃c,x=.bl c/\Q c H1
def DF{op:CmpOp}{t:TE}(h:PC X op a b t)(h1:behindInMarks op b=false:=by first|exact Qdp _ (by decide)<|by decide|rfl):PT X (.Compare a [op] [b] pos)<|tB t:=by intro aa s σ H Q I hw;refine wpAny_isTrue_Compare1 (Qd (h aa s σ H _ I hw) λv s1 h1=>Qd h1 λu s2 h2=>Qd h2 λc s3⟨x,H1,I1,r1,q1⟩=>?_) h1;obtain⟨d,rfl,q⟩:=q1;cases r1;exact wpAny_truthy_bool ⟨H1,I1,q⟩
def RF{e:Expr}{t:TE}(h:PE X e t)(he:∀whole,isTrue e X.env whole=(do let v<-whole;standAt e.pos;holding [v]<|truthy v):=by intro _;rfl):PT X e<|tB t:=by intro aa s σ H Q I hw;refine isTrue_plain (Qd (h aa s σ H _ I hw) λv s1⟨x,H1,I1,r1,q1⟩=>?_)<|he _;obtain⟨d,rfl,q⟩:=q1;cases r1;exact wpAny_truthy_bool ⟨H1,I1,q⟩
variable{tA ie:TT}{rest:List Expr}
def Cz(t u:TT):TT:=λσ H Q=>t σ H λc H1=>if c=true then u σ H1 Q else Q false H1
def B4(t u:TT):TT:=λσ H Q=>t σ H λc H1=>if c=true then Q true H1 else u σ H1 Q
def B3(t:TT):TT:=λσ H Q=>t σ H λc H1=>Q (!c) H1
def QfF(ha:PT X a tA):PW X (.BoolOp .And [a] pos) tA:=by intro wh aa s σ H Q I h;refine isTrue_and<|Qd (ha aa s σ H Q I h) λc s1 e=>?_;cases c with|true=>exact isTrue_and_nil e|false=>exact e
def QfH(ha:PT X a tA):PW X (.BoolOp .Or [a] pos) tA:=by intro wh aa s σ H Q I h;refine isTrue_or<|Qd (ha aa s σ H Q I h) λc s1 e=>?_;cases c with|false=>exact isTrue_or_nil e|true=>exact e
def QfE(ha:PT X a tA)(hb:PW X (.BoolOp .And (b::rest) pos) ie):PW X (.BoolOp .And (a::b::rest) pos)<|Cz tA ie:=by intro wh aa s σ H Q I h;refine isTrue_and<|Qd (ha aa s σ H _ I h) λc s1⟨H1,I1,q1⟩=>?_;cases c with|true=>exact hb wh aa s1 σ H1 Q I1 q1|false=>exact⟨H1,I1,q1⟩
def QfG(ha:PT X a tA)(hb:PW X (.BoolOp .Or (b::rest) pos) ie):PW X (.BoolOp .Or (a::b::rest) pos)<|B4 tA ie:=by intro wh aa s σ H Q I h;refine isTrue_or<|Qd (ha aa s σ H _ I h) λc s1⟨H1,I1,q1⟩=>?_;cases c with|true=>exact⟨H1,I1,q1⟩|false=>exact hb wh aa s1 σ H1 Q I1 q1
def Ov(ha:PT X a tA):PT X (.UnaryOp .Not a pos)<|B3 tA:=by intro aa s σ H Q I h;exact isTrue_not<|ha aa s σ H (λc H1=>Q (!c) H1) I h
noncomputable def QgL(ta tb:TE):TE:=λσ H Q=>ta σ H λx H1=>∃c,x=.bl c/\if c=true then tb σ H1 Q else Q (.bl false) H1
noncomputable def QgQ(ta tb:TE):TE:=λσ H Q=>ta σ H λx H1=>∃c,x=.bl c/\if c=true then Q (.bl true) H1 else tb σ H1 Q
noncomputable def QgP(ta:TE):TE:=λσ H Q=>ta σ H λx H1=>∃c,x=.bl c/\Q (.bl<|!c) H1
def Qfi{op}{t:TE}(h:PE X a t):PE X (.BoolOp op [a] pos) t:=λaa s σ H Q I hw=>BoolOp_one<|h aa s σ H Q I hw
def Qfb(ha:PE X a ta)(hb:PE X (.BoolOp .And (b::rest) pos) tb):PE X (.BoolOp .And (a::b::rest) pos)<|QgL ta tb:=by intro aa s σ H Q I h;refine BoolOp_and<|Qd (ha aa s σ H _ I h) λv s1⟨x,H1,I1,r1,q1⟩=>?_;obtain⟨c,rfl,q1⟩:=q1;cases r1;refine wpAny_truthy_bool ?_;cases c with|true=>exact hb aa s1 σ H1 Q I1 q1|false=>exact⟨.bl false,H1,I1,rfl,q1⟩
def Qfj(ha:PE X a ta)(hb:PE X (.BoolOp .Or (b::rest) pos) tb):PE X (.BoolOp .Or (a::b::rest) pos)<|QgQ ta tb:=by intro aa s σ H Q I h;refine BoolOp_or<|Qd (ha aa s σ H _ I h) λv s1⟨x,H1,I1,r1,q1⟩=>?_;obtain⟨c,rfl,q1⟩:=q1;cases r1;refine wpAny_truthy_bool ?_;cases c with|false=>exact hb aa s1 σ H1 Q I1 q1|true=>exact⟨.bl true,H1,I1,rfl,q1⟩
def Qfh(ha:PE X a ta):PE X (.UnaryOp .Not a pos)<|QgP ta:=by intro aa s σ H Q I h;refine UnaryOp_<|Qd (ha aa s σ H _ I h) λv s1⟨x,H1,I1,r1,q1⟩=>?_;obtain⟨c,rfl,q1⟩:=q1;cases r1;exact not_of<|wpAny_truthy_bool ⟨.bl<|!c,H1,I1,rfl,q1⟩
def U5(t:TT)(ta tb:TE):TE:=λσ H Q=>t σ H λc H1=>if c=true then ta σ H1 Q else tb σ H1 Q
def RC{c:Expr}(hc:PT X c tA)(ha:PE X a ta)(hb:PE X b tb):PE X (.IfExp c a b pos)<|U5 tA ta tb:=by intro aa s σ H Q I h;refine wpAny_IfExp<|Qd (hc aa s σ H _ I h) λd s1⟨H1,I1,q1⟩=>?_;cases d with|true=>exact ha aa s1 σ H1 Q I1 q1|false=>exact hb aa s1 σ H1 Q I1 q1
end
def SqL(K:W.Frag)(H:Hp)(a:Addr)(xs:List V):Prop:=Rd H a (.lst xs)\/∃(o:Obj)(its:Array Value)(n:Nat),K.lookup a=some o/\o.cls=.type "list"/\o.dict=none/\o.data=.seq its n/\its.size<=sizeLine/\Vals xs its.toList
def SqT(K:W.Frag)(H:Hp)(a:Addr)(xs:List V):Prop:=Rd H a (.tup xs)\/∃(o:Obj)(its:Array Value)(n:Nat),K.lookup a=some o/\o.cls=.type "tuple"/\o.data=.seq its n/\its.size<=sizeLine/\Vals xs its.toList
noncomputable def Bv:Value->Option V|.none=>some .non|.bool b=>some<|.bl b|.int i _=>some<|.int i|.str x _=>some<|.str x|.bytes b _=>some<|.byt b|.float b _=>some<|.flt b|.ref a=>some<|.ref a|.type n=>some<|.ty n|_=>none
def RelV.abs{x:V}{u:Value}(r:RelV x u):Bv u=some x:=by cases x with|non=>cases r;rfl|bl _=>cases r;rfl|int _=>obtain⟨t,rfl⟩:=r;rfl|str _=>obtain⟨t,rfl⟩:=r;rfl|byt _=>obtain⟨t,rfl⟩:=r;rfl|flt _=>obtain⟨t,rfl⟩:=r;rfl|ref _=>cases r;rfl|ty _=>cases r;rfl
def RelV.inj{x y:V}{u:Value}(r:RelV x u)(q:RelV y u):x=y:=Q5<|r.abs.symm.trans q.abs
theorem Vals.inj{xs ys:List V}{us:List Value}(h:Vals xs us)(q:Vals ys us):xs=ys:=by induction h generalizing ys with|nil=>cases q;rfl|cons r t ih=>cases q with|cons r' t'=>rw[r.inj r',ih t']
section
variable{X:Cx}{aa:List<|Addr×Obj}{σ:St}{H:Hp}{s:Shared}{a:Addr}{xs ys:List V}
def SqL.of{K:W.Frag}(h:H a=some (.lst xs)):SqL K H a xs:=.inl<|.inl h
def SqT.of{K:W.Frag}(h:H a=some (.tup xs)):SqT K H a xs:=.inl<|.inl h
def Inv.list(I:Inv X aa σ H s)(h:SqL X.K H a xs):∃its:List Value,Vals xs its/\PlainL s.heap a its.toArray/\xs.length<=sizeLine:=by
 rcases h with h|⟨o,its,n,hk,hc,hd,hs,hz,r⟩
 .obtain⟨z,its,n,r,e⟩:=h.ok I.hok;exact⟨its,r,⟨_,n,e,rfl,rfl,rfl⟩,z⟩
 .refine⟨its.toList,r,⟨o,n,I.kIn a o hk,hc,hd,by simpa using hs⟩,?_⟩;have e:=r.length;simp only[Ow]at e;omega
def Inv.tuple(I:Inv X aa σ H s)(h:SqT X.K H a xs):∃its:List Value,Vals xs its/\IsTup s.heap a its.toArray/\xs.length<=sizeLine:=by
 rcases h with h|⟨o,its,n,hk,hc,hs,hz,r⟩
 .obtain⟨z,its,r,p⟩:=h.ok I.hok;exact⟨its,r,p,z⟩
 .refine⟨its.toList,r,⟨o,I.kIn a o hk,hc,n,by simpa using hs⟩,?_⟩;have e:=r.length;simp only[Ow]at e;omega
def Inv.list_inj(I:Inv X aa σ H s)(h:SqL X.K H a xs)(h':SqL X.K H a ys):xs=ys:=by
 obtain⟨its,r,⟨o,n,e,_,_,d⟩,_⟩:=I.list h;obtain⟨its',r',⟨o',n',e',_,_,d'⟩,_⟩:=I.list h';rw[e]at e';cases e';rw[d]at d';injection d' with d1 _;have:its=its':=by simpa using congrArg Array.toList d1
 subst this;exact r.inj r'
end
noncomputable abbrev Cx.wish(X:Cx)(E:Value->Shared->Prop):Cx:={X with xe:=E}
abbrev Cx.nox(X:Cx):Cx:=X.wish λ_ _=>False
theorem Cx.Ok.wish{X:Cx}(ok:X.Ok)(E:Value->Shared->Prop):(X.wish E).Ok:=⟨ok.mod,ok.kind,ok.glob,ok.blt,ok.above,ok.inj,ok.has,ok.cab,ok.hd,ok.frames,ok.stk,ok.exf,ok.bs,ok.bsz,ok.noex,ok.exfs,ok.funs,ok.frf⟩
def Cx.Ok.unwish{X:Cx}{E:Value->Shared->Prop}(ok:(X.wish E).Ok):X.Ok:=⟨ok.mod,ok.kind,ok.glob,ok.blt,ok.above,ok.inj,ok.has,ok.cab,ok.hd,ok.frames,ok.stk,ok.exf,ok.bs,ok.bsz,ok.noex,ok.exfs,ok.funs,ok.frf⟩
section
variable{X:Cx}{aa:List<|Addr×Obj}{σ:St}{H:Hp}{s:Shared}{E:Value->Shared->Prop}
theorem Inv.wish(I:Inv X aa σ H s)(E:Value->Shared->Prop):Inv (X.wish E) aa σ H s:=⟨I.ok.wish E,I.os,I.bare,I.ae,I.loc,I.cell,I.free,I.freeC,I.pin,I.hok,I.len⟩
theorem Inv.unwish(I:Inv (X.wish E) aa σ H s):Inv X aa σ H s:=⟨I.ok.unwish,I.os,I.bare,I.ae,I.loc,I.cell,I.free,I.freeC,I.pin,I.hok,I.len⟩
theorem SP.unwish{D:Ends}{f:Flow}{s':Shared}(h:SP (X.wish E) aa D f s'):SP X aa D f s':=by cases f with|next=>obtain⟨σ',H',I,q⟩:=h;exact⟨σ',H',I.unwish,q⟩|brk=>obtain⟨σ',H',I,q⟩:=h;exact⟨σ',H',I.unwish,q⟩|cont=>obtain⟨σ',H',I,q⟩:=h;exact⟨σ',H',I.unwish,q⟩|ret u=>obtain⟨v,σ',H',I,r,q⟩:=h;exact⟨v,σ',H',I.unwish,r,q⟩
theorem PE.nox{e:Expr}{t:TE}(h:PE X.nox e t):PE X e t:=λaa s σ H Q I hw=>wpAny_mono (h aa s σ H Q (I.wish _) hw) (by rintro _ _⟨v,H',I',r,q⟩;exact⟨v,H',I'.unwish,r,q⟩) λ_ _ z=>False.elim z
theorem PT.nox{e:Expr}{t:TT}(h:PT X.nox e t):PT X e t:=λaa s σ H Q I hw=>wpAny_mono (h aa s σ H Q (I.wish _) hw) (by rintro _ _⟨H',I',q⟩;exact⟨H',I'.unwish,q⟩) λ_ _ z=>False.elim z
theorem PSs.nox{st:List Stmt}{t:TS}(h:PSs X.nox st t):PSs X st t:=λaa s σ H D I hw=>wpAny_mono (h aa s σ H D (I.wish _) hw) (λ_ _ q=>q.unwish) λ_ _ z=>False.elim z
end
section
variable{X:Cx}{st:Stmt}{rest:List Stmt}{t u:TS}{e:Expr}{te:TE}{pos:Pos}
def XO:TS:=λD σ H=>D.nx σ H
noncomputable def ZY(t u:TS):TS:=λD σ H=>t {D with nx:=u D} σ H
def Yu:PSs X [] XO:=λ_ _ σ H _ I h=>wpAny_execs_nil ⟨σ,H,I,h⟩
def Z1(h1:PS X st t)(h2:PSs X rest u):PSs X (st::rest)<|ZY t u:=by intro aa s σ H D I h;refine wpAny_execs_cons<|Qd (h1 aa s σ H {D with nx:=u D} I h) λf s1 q=>?_;cases f with|next=>obtain⟨σ',H',I',q⟩:=q;exact h2 aa s1 σ' H' D I' q|ret v=>exact q|brk=>exact q|cont=>exact q
def ZT(h1:PS X st t):PSs X [st] t:=by intro aa s σ H D I h;refine wpAny_execs_cons<|Qd (h1 aa s σ H D I h) λf s1 q=>?_;cases f with|next=>exact wpAny_execs_nil q|ret v=>exact q|brk=>exact q|cont=>exact q
def Inv.quiet{aa:List<|Addr×Obj}{σ:St}{H:Hp}{s:Shared}(I:Inv X aa σ H s):interactive X.env=false:=by simp[interactive,I.ok.kind]
noncomputable def Vo(te:TE):TS:=λD σ H=>te σ H λ_ H1=>D.nx σ H1
def VF(he:PE X e te)(hs:swapsWith e none pos.line X.env=pure false:=by rfl):PS X (.Expr e pos)<|Vo te:=by intro aa s σ H D I h;exact wpAny_Expr_any (Qd (he aa s σ H _ I h) λv s1⟨x,H1,I1,r1,q1⟩=>⟨σ,H1,I1,q1⟩) I.quiet hs
noncomputable def ZX(te:TE):TS:=λD σ H=>te σ H D.rt
def ZN(he:PE X e te):PS X (.Return (some e) pos)<|ZX te:=by intro aa s σ H D I h;exact wpAny_Return_some<|Qd (he aa s σ H _ I h) λv s1⟨x,H1,I1,r1,q1⟩=>⟨x,σ,H1,I1,r1,q1⟩
def XM(c:TT)(t u:TS):TS:=λD σ H=>c σ H λb H1=>if b=true then t D σ H1 else u D σ H1
def Yt{c:Expr}{a b:List Stmt}{tc:TT}(hc:PT X c tc)(ha:PSs X a t)(hb:PSs X b u):PS X (.If c a b pos)<|XM tc t u:=by intro aa s σ H D I h;refine wpAny_If<|Qd (hc aa s σ H _ I h) λd s1⟨H1,I1,q1⟩=>?_;cases d with|true=>exact ha aa s1 σ H1 D I1 q1|false=>exact hb aa s1 σ H1 D I1 q1
end
noncomputable abbrev TG:=V->St->Hp->(St->Hp->Prop)->Prop
noncomputable abbrev XS:=List V->St->Hp->(St->Hp->Prop)->Prop
def PG(X:Cx)(target:Expr)(t:TG):Prop:=∀(aa:List<|Addr×Obj)(s:Shared)(σ:St)(H:Hp)(v:V)(u:Value)(Q:St->Hp->Prop),Inv X aa σ H s->RelV v u->t v σ H Q->wpAny (model X.prog X.w) X.A (assign target X.env u) (λ_ s'=>∃σ' H',Inv X aa σ' H' s'/\Q σ' H') X.xe s
def PGs(X:Cx)(ts:List Expr)(t:XS):Prop:=∀(aa:List<|Addr×Obj)(s:Shared)(σ:St)(H:Hp)(vs:List V)(us:List Value)(Q:St->Hp->Prop),Inv X aa σ H s->Vals vs us->t vs σ H Q->wpAny (model X.prog X.w) X.A (assignInOrder ((assignEach ts X.env).map (·.2)) us) (λ_ s'=>∃σ' H',Inv X aa σ' H' s'/\Q σ' H') X.xe s
noncomputable abbrev Nk:=V->V->V->Hp->(Hp->Prop)->Prop
def Iw(X:Cx)(t:Nk):Prop:=∀(aa:List<|Addr×Obj)(s:Shared)(σ:St)(H:Hp)(o i v:V)(ov iv u:Value)(Q:Hp->Prop),Inv X aa σ H s->RelV o ov->RelV i iv->RelV v u->t o i v H Q->wpAny (model X.prog X.w) X.A (setItem ov iv u) (λ_ s'=>∃H',Inv X aa σ H' s'/\Q H') X.xe s
section
variable{X:Cx}{pos:Pos}
def W2(i:Nat):TG:=λv σ H Q=>Q (σ.set i<|some v) H
def Qfl{i:Nat}{x:Str}(hN:X.N.Nodup)(hi:X.N[i]?=some x)(hx:WN X.env.scope x)(hf:WP X x:=by first|exact .inl rfl|exact .inr rfl|assumption):PG X (.Name x pos)<|W2 i:=by intro aa s σ H v u Q I r h;exact wpAny_assign_Name<|Ri I hN hi hx r (λs' I'=>⟨_,H,I',h⟩) hf
def QbO:XS:=λvs σ H Q=>vs=[]/\Q σ H
def QbN(t:TG)(u:XS):XS:=λvs σ H Q=>∃v r,vs=v::r/\t v σ H λσ' H'=>u r σ' H' Q
def Qfp:PGs X [] QbO:=by intro aa s σ H vs us Q I r h;obtain⟨e,h⟩:=h;subst e;cases r;exact assignInOrder_nil ⟨σ,H,I,h⟩
def Qfo{e:Expr}{es:List Expr}{t:TG}{u:XS}(h1:PG X e t)(h2:PGs X es u)(hs:(assignEach (e::es) X.env).map (·.2)=assign e X.env::(assignEach es X.env).map (·.2):=by rfl):PGs X (e::es)<|QbN t u:=by intro aa s σ H vs us Q I r h;obtain⟨v,vr,e1,h⟩:=h;subst e1;cases r with|cons r rr=>rw[hs];refine assignInOrder_cons<|Qd (h1 aa s σ H _ _ _ I r h) λ_ s1⟨σ1,H1,I1,q1⟩=>?_;exact h2 aa s1 σ1 H1 _ _ Q I1 rr q1
def QbP(K:W.Frag)(n:Nat)(t:XS):TG:=λv σ H Q=>∃a xs,v=.ref a/\SqT K H a xs/\xs.length=n/\t xs σ H Q
def Qfn{es:List Expr}{k:Nat}{t:XS}{n:Nat}(hc:X.calm=true)(h:PGs X es t)(hn:(assignEach es X.env).length=n:=by rfl)(bG:(assignEach es X.env).findIdx? (·.1)=none:=by rfl):PG X (.Tuple es k pos)<|QbP X.K n t:=by intro aa s σ H v u Q I r hw;obtain⟨a,xs,e1,hq,hl,hw⟩:=hw;subst e1;cases r;obtain⟨its,rv,ht,hz⟩:=I.tuple hq;refine assign_Tuple_tuple (I.ok.hd hc) ht (by simp[hn,<-hl,rv.length]) bG λh' hx=>?_;have I1:Inv X aa σ H {s with heap:=h'}:=I.kept (t':=s.toks) λb o e=>hx b o (Z5<|Heap.lt_size e) e;exact h aa _ σ H xs _ Q I1 (by simpa using rv) hw
def Fe(to ti:TE)(t:Nk):TG:=λv σ H Q=>to σ H λo H1=>ti σ H1 λi H2=>t o i v H2 λH3=>Q σ H3
def Qfm{o i:Expr}{to ti:TE}{t:Nk}(ho:PE X o to)(hi:PE X i ti)(hs:Iw X t)(ha:∀v,assign (.Subscript o i pos) X.env v=(do
   let ov<-holding [v]<|eval o X.env let iv<-holding [v,ov] (eval i X.env)standAt pos
   holding [v,ov,iv] (setItem ov iv v)release [v,ov,iv] []):=by intro _;rfl):PG X (.Subscript o i pos)<|Fe to ti t:=by
 intro aa s σ H v u Q I r h;rw[ha];refine wpAny_bind<|wpAny_holding<|Qd (ho aa s σ H _ I h) λov s1⟨x,H1,I1,r1,q1⟩=>?_;refine wpAny_bind<|wpAny_holding<|Qd (hi aa s1 σ H1 _ I1 q1) λiv s2⟨y,H2,I2,r2,q2⟩=>?_;refine wpAny_bind<|wpAny_standAt<|wpAny_bind<|wpAny_holding<|Qd (hs aa s2 σ H2 x y v ov iv u _ I2 r1 r2 r q2) λ_ s3⟨H3,I3,q3⟩=>?_;exact wpAny_release ⟨σ,H3,I3,q3⟩
def Vm(te:TE)(g:TG):TS:=λD σ H=>te σ H λx H1=>g x σ H1 D.nx
def QfA{tg e:Expr}{te:TE}{g:TG}(he:PE X e te)(hg:PG X tg g)(hs:swapsWithSole [tg] e pos.line X.env=pure false:=by rfl)(hw:swappedStores [tg] e X.env=pure none:=by rfl)(h1:(assignEach [tg] X.env).map (·.2)=[assign tg X.env]:=by rfl):PS X (.Assign [tg] e pos)<|Vm te g:=by intro aa s σ H D I h;refine wpAny_Assign_stores (Qd (he aa s σ H _ I h) λv s1⟨x,H1,I1,r1,q1⟩=>?_) hs hw;rw[h1];exact Qd (hg aa s1 σ H1 x v _ I1 r1 q1) λ_ s2 q=>q
def VG{i:Nat}{x:Str}{e:Expr}{te:TE}{pos':Pos}(hN:X.N.Nodup)(hi:X.N[i]?=some x)(hx:WN X.env.scope x)(he:PE X e te)(hs:swapsWith e (some<|.Name x pos') pos.line X.env=pure false:=by rfl)(hf:WP X x:=by first|exact .inl rfl|exact .inr rfl|assumption):PS X (.Assign [.Name x pos'] e pos)<|Vm te<|W2 i:=by intro aa s σ H D I h;refine wpAny_Assign_Name (Qd (he aa s σ H _ I h) λv s1⟨y,H1,I1,r1,q1⟩=>?_) hs;exact Ri I1 hN hi hx r1 (λs2 I2=>⟨_,H1,I2,q1⟩) hf
end
structure It where
 go:Nat->Hp->Prop
 yld:Nat->Hp->V->Hp->Prop
 stop:Nat->Hp->Prop
def Ye(X:Cx)(aa:List<|Addr×Obj)(H:Hp)(b:Addr):Prop:=H b=none/\b≠X.env.locals/\b∉X.fs/\(b∈X.ex\/X.s₀.heap.objs.size<=b)/\(∀x c,X.env.cells.lookup x=some c->c≠b)/\∀p∈X.pn++aa,p.1≠b
def Inv.fpOk{X:Cx}{aa:List<|Addr×Obj}{σ:St}{H H':Hp}{s:Shared}{b:Addr}(I:Inv X aa σ H s)(hb:s.heap.objs.size<=b)(hn:H' b=none):Ye X aa H' b:=by
 refine⟨hn,ne_of_gt<|ZW I.lt hb,I.nofs hb,.inr<|ZU I.sz hb,λx c e z=>?_,λp hp z=>?_⟩
 .obtain⟨v,q⟩:=I.cell x c e;exact absurd (ZW q.lt<|by rw[z];exact hb)<|X6 _
 .exact absurd (ZW (Heap.lt_size (I.pin p hp).1)<|by rw[z];exact hb)<|X6 _
structure Turn(P:Program)(w:World)(K:W.Frag)(tg:Expr)(J:It)(fp:List Addr)(it:Addr)(tn:Nat->Heap->Prop):Prop where
 mem:it∈fp
 obj:∀i h,tn i h->∀b∈fp,∃o,h.get? b=some o/\∀v,o.data≠.cell v
 keep:∀i h h',tn i h->(∀b∈fp,∀o,h.get? b=some o->h'.get? b=some o)->tn i h'
 item:∀(X:Cx),X.prog=P->X.w=w->X.K=K->X.calm=true->∀(i:Nat)(aa:List<|Addr×Obj)(s:Shared)(σ:St)(H:Hp)(E:Value->Shared->Prop),Inv X aa σ H s->(∀b∈fp,Ye X aa H b)->tn i s.heap->J.go i H->wpAny (model P w) X.A (pyNext<|.ref it) (λr s1=>∃u,r=some u/\wpAny (model P w) X.A (letOwnedTupleGo tg (.ref it) u) (λ_ s2=>∃x H',Inv X aa σ H' s2/\RelV x u/\J.yld i H x H'/\tn (i+1) s2.heap/\∀b∈fp,H' b=none) E s1) E s
 done:∀(X:Cx),X.prog=P->X.w=w->X.K=K->X.calm=true->∀(i:Nat)(aa:List<|Addr×Obj)(s:Shared)(σ:St)(H:Hp)(E:Value->Shared->Prop),Inv X aa σ H s->(∀b∈fp,Ye X aa H b)->tn i s.heap->J.stop i H->wpAny (model P w) X.A (pyNext<|.ref it) (λr s1=>r=none/\Inv X aa σ H s1) E s
 self:∀(A:Around)(i:Nat)(s:Shared)(Q:Value->Shared->Prop)(E:Value->Shared->Prop),tn i s.heap->Q (.ref it) s->wpAny (model P w) A (pyIter<|.ref it) Q E s
abbrev TI:=St->Hp->(It->Hp->Prop)->Prop
inductive PIE(X:Cx)(aa:List<|Addr×Obj)(σ:St)(tg:Expr)(R:It->Hp->Prop)(iC:Value)(s2:Shared):Prop|mk(it:Addr)(fp:List Addr)(tn:Nat->Heap->Prop)(J:It)(H':Hp)(h1:iC=.ref it)(h2:Inv X aa σ H' s2)(h3:Turn X.prog X.w X.K tg J fp it tn)(h4:tn 0 s2.heap)(h5:∀b∈fp,Ye X aa H' b)(h6:R J H'):PIE X aa σ tg R iC s2
def PI(X:Cx)(tg iter:Expr)(wi:TI):Prop:=∀(aa:List<|Addr×Obj)(s:Shared)(σ:St)(H:Hp)(R:It->Hp->Prop),Inv X aa σ H s->wi σ H R->wpAny (model X.prog X.w) X.A (eval iter X.env) (λv s1=>wpAny (model X.prog X.w) X.A (pyIter v) (PIE X aa σ tg R) X.xe s1) X.xe s
def Mz{M:Model}{A:Around}{E:Value->Shared->Prop}{s:Shared}{tg:Expr}{it:Addr}{u:Value}{o:Obj}{n:String}{vs:Array Value}{Q:Unit->Shared->Prop}(ho:s.heap.get? it=some o)(hc:o.cls=.type n)(hd:o.data=.fields vs)(hn:["enumerate","zip","dict_itemiterator","dict_reverseitemiterator","odict_iterator","itertools.zip_longest","itertools.pairwise"].contains n=false)(hQ:Q () s):wpAny M A (letOwnedTupleGo tg (.ref it) u) Q E s:=by unfold letOwnedTupleGo;cases tg<;>first|exact wpAny_pure hQ|(cases u<;>first|exact wpAny_pure hQ|(refine wpAny_bind<|wpAny_load ho ?_;rw[hc,hd];show wpAny M A (if(["enumerate","zip","dict_itemiterator","dict_reverseitemiterator","odict_iterator","itertools.zip_longest","itertools.pairwise"].contains n&&vs[0]?==some (rawInt _))=true then _ else _) Q E s;rw[if_neg<|by intro h;rw[hn,Bool.false_and]at h;cases h];exact wpAny_pure hQ))
def NZ(K:W.Frag)(a:Addr):It:=⟨λi H=>∃xs x,SqL K H a xs/\xs[i]?=some x,λi H x H'=>H'=H/\∀xs,SqL K H a xs->xs[i]?=some x,λi H=>∃xs,SqL K H a xs/\xs.length<=i⟩
noncomputable def Na(lo:Int)(n:Nat):It:=⟨λi _=>i<n,λi H x H'=>H'=H/\x=.int (lo+i),λi _=>n<=i⟩
def Qg4{P:Program}{w:World}{K:W.Frag}{tg:Expr}(a it:Addr):Turn P w K tg (NZ K a) [it] it λi h=>h.IsListIter it a i where
 mem:=by simp
 obj:=λi h st b hb=>by
  have e:b=it:=by simpa using hb
  subst e;obtain⟨o,e,c,d⟩:=st;exact⟨o,e,λv z=>by rw[d]at z;cases z⟩
 keep:=λi h h' st k=>st.at λo e=>k it (by simp) o e
 item:=by
  intro X hP hw hK hc i aa s σ H E I hf st hg;subst hP hw hK;obtain⟨xs,x,hq,hx⟩:=hg;obtain⟨its,rv,p,hz⟩:=I.list hq;obtain⟨u,hu,ru⟩:=rv.get hx;obtain⟨f0,f1,f2,f3,f4,f5⟩:=hf it (by simp);refine wpAny_pyNext_list_item st p.isList (x:=u) (by simpa using hu) λh' eS sb=>?_;have I1:Inv X aa σ H {s with heap:=h'}:=I.turned (t':=s.toks) (λb o hb e=>(sb.2 b hb).trans e) f0 f1 f3 f4 f5;obtain⟨o,e,c,d⟩:=id eS;exact⟨u,rfl,Mz (s:={s with heap:=h'}) e c d (by decide) ⟨x,H,I1,ru,⟨rfl,λys hy=>by rw[I.list_inj hy hq];exact hx⟩,eS,λb hb=>(hf b hb).1⟩⟩
 done:=by
  intro X hP hw hK hc i aa s σ H E I hf st hg;subst hP hw hK;obtain⟨xs,hq,hx⟩:=hg;obtain⟨its,rv,p,hz⟩:=I.list hq;obtain⟨f0,f1,f2,f3,f4,f5⟩:=hf it (by simp);have hl:=rv.length;exact wpAny_pyNext_list_end (I.ok.hd hc) st p.isList (by simp;omega) λh' eb=>⟨rfl,I.turned (t':=s.toks) (λb o hb e=>eb b o hb e) f0 f1 f3 f4 f5⟩
 self:=λ_ _ _ _ _ st h=>wpAny_pyIter_listiter st h
def Qg5{P:Program}{w:World}{K:W.Frag}{tg:Expr}(it:Addr)(lo:Int)(n:Nat):Turn P w K tg (Na lo n) [it] it λi h=>IsRangeIter h it (lo+(i:Nat)*1) ((n:Int)-(i:Nat)) 1 where
 mem:=by simp
 obj:=λi h st b hb=>by
  have e:b=it:=by simpa using hb
  subst e;exact⟨_,st,λv z=>by have z':Data.fields _=Data.cell v:=z;cases z'⟩
 keep:=λi h h' st k=>k it (by simp) _ st
 item:=by
  intro X hP hw hK hc i aa s σ H E I hf st hg;subst hP hw hK;obtain⟨f0,f1,f2,f3,f4,f5⟩:=hf it (by simp);have W:=Walks.range (prog:=X.prog) (w:=X.w) (I.ok.hd hc) it lo 1 n;refine W.item i s _ _ hg st λv h' tk hv eS kk=>?_;obtain⟨t,rfl⟩:=hv;have I1:Inv X aa σ H {s with heap:=h',toks:=tk}:=I.turned (λb o hb e=>kk b o (by simpa using hb) e) f0 f1 f3 f4 f5;refine⟨_,rfl,Mz (s:={s with heap:=h',toks:=tk}) (n:="range_iterator") eS rfl rfl (by decide) ⟨.int<|lo+i,H,I1,⟨t,?_⟩,⟨rfl,rfl⟩,eS,λb hb=>(hf b hb).1⟩⟩;rw[Int.mul_one]
 done:=by
  intro X hP hw hK hc i aa s σ H E I hf st hg;subst hP hw hK;obtain⟨f0,f1,f2,f3,f4,f5⟩:=hf it (by simp);exact wpAny_pyNext_range_end (I.ok.hd hc) st (by have:n<=i:=hg;omega) λh' eb=>⟨rfl,I.turned (t':=s.toks) (λb o hb e=>eb b o hb e) f0 f1 f3 f4 f5⟩
 self:=λ_ _ _ _ _ st h=>wpAny_pyIter_rangeiter st h
section
variable{X:Cx}{tg:Expr}
def QbX(K:W.Frag)(tl:TE):TI:=λσ H R=>tl σ H λx H1=>∃a,x=.ref a/\(∃xs,SqL K H1 a xs)/\R (NZ K a) H1
def Qfr{l:Expr}{tl:TE}(hl:PE X l tl):PI X tg l<|QbX X.K tl:=by
 intro aa s σ H R I h;refine Qd (hl aa s σ H _ I h) ?_;rintro v s1⟨x,H1,I1,r1,q1⟩;obtain⟨a,e,⟨xs,hq⟩,q⟩:=q1;subst e;cases r1;obtain⟨its,rv,p,hz⟩:=I1.list hq;refine wpAny_pyIter_list p.isList ?_;refine⟨s1.heap.objs.size,[s1.heap.objs.size],_,_,H1,rfl,I1.kept (t':=s1.toks) λb o e=>Heap.get?_push_of_some _ e,Qg4 a _,⟨_,Heap.get?_push_size _ rfl,rfl,rfl⟩,λb hb=>?_,q⟩;have e:b=s1.heap.objs.size:=by simpa using hb
 subst e;exact I1.fpOk (Qm _)<|I1.hok.fresh<|Qm _
def QfR{aa:List<|Addr×Obj}{σ:St}{H:Hp}{s:Shared}{R:It->Hp->Prop}{E:Value->Shared->Prop}{lo hi:Int}{t u v:Tok}{tk:Nat}(I:Inv X aa σ H s)(h1:-2^62<=lo)(h2:lo<2^62)(h3:-2^62<=hi)(h4:hi<2^62)(q:R (Na lo (hi-lo).toNat) H):wpAny (model X.prog X.w) X.A (pyIter<|.ref s.heap.objs.size) (PIE X aa σ tg R) E {s with heap:=s.heap.push {cls:=.type "range",data:=.fields #[.int lo t,.int hi u,.int 1 v]},toks:=tk}:=by
 refine wpAny_pyIter_range (IsRange.new ..) (small_one h1 h2 h3 h4) ?_;have I1:Inv X aa σ H {s with heap:=s.heap.push {cls:=.type "range",data:=.fields #[.int lo t,.int hi u,.int 1 v]},toks:=tk}:=I.kept λb o e=>Heap.get?_push_of_some _ e;refine⟨(s.heap.push {cls:=.type "range",data:=.fields #[.int lo t,.int hi u,.int 1 v]}).objs.size,[(s.heap.push {cls:=.type "range",data:=.fields #[.int lo t,.int hi u,.int 1 v]}).objs.size],_,_,H,rfl,I1.kept (t':=tk) λb o e=>Heap.get?_push_of_some _ e,Qg5 _ lo (hi-lo).toNat,?_,λb hb=>?_,q⟩
 .have e1:lo+((0:Nat):Int)*1=lo:=by simp
  have e2:(((hi-lo).toNat:Nat):Int)-((0:Nat):Int)=Builtin.Range.rangeSize lo hi 1:=by rw[rangeSize_one];split<;>omega
  show IsRangeIter _ _ (lo+((0:Nat):Int)*1) ((((hi-lo).toNat:Nat):Int)-((0:Nat):Int)) 1;rw[e1,e2];exact Heap.get?_push_size _ rfl
 .have e:b=(s.heap.push {cls:=.type "range",data:=.fields #[.int lo t,.int hi u,.int 1 v]}).objs.size:=by simpa using hb
  subst e;exact I1.fpOk (Qm _)<|I1.hok.fresh<|Qm _
def QbY(ta:TA):TI:=λσ H R=>ta σ H λvs H1=>∃j:Int,vs=[.int j]/\-2^62<=j/\j<2^62/\R (Na 0 j.toNat) H1
def Qfs{a:Expr}{ta:TA}{p pos:Pos}(hg:Gl X "range")(hm:X.mg "range"=none)(ha:PA X [a] ta)(hs:starEach [a] X.env=[(false,eval a X.env)]:=by rfl):PI X tg (.Call (.Name "range" p) [a] [] pos)<|QbY ta:=by intro aa s σ H R I h;refine Call_<|Sd I hg hm boot_range<|PyProof.Rows.callWith_type1 (Qd (ha pos aa s σ H _ I h) λus s1⟨vs,H1,I1,r1,q1⟩=>?_) hs rfl;obtain⟨j,e,q1,q2,q⟩:=q1;subst e;cases r1 with|cons r rr=>cases rr;obtain⟨t,rfl⟩:=r;exact call_range_1<|QfR I1 (by omega) (by omega) q1 q2<|by simpa using q
def QgN(wi:TI)(g:TG)(tb:TS):TS:=λD σ H=>wi σ H λJ H1=>∃W:Nat->Nat->St->Hp->Prop,(∃m,W 0 m σ H1)/\∀i m σ H,W i m σ H->J.stop i H/\D.nx σ H\/J.go i H/\∃N:St->Hp->Prop,(∀σ' H',N σ' H'->∃m',m'<m/\W (i+1) m' σ' H')/\∀x H',J.yld i H x H'->g x σ H' λσ2 H2=>tb {D with nx:=N,ct:=N,bk:=D.nx} σ2 H2
noncomputable def RE(fp:List Addr)(h:Heap):List<|Addr×Obj:=fp.filterMap λb=>(h.get? b).map λo=>(b,o)
def O6{fp:List Addr}{h:Heap}{b:Addr}{o:Obj}(hb:b∈fp)(e:h.get? b=some o):(b,o)∈RE fp h:=List.mem_filterMap.mpr ⟨b,hb,by rw[e];rfl⟩
def Qdz{fp:List Addr}{h:Heap}{p:Addr×Obj}(hp:p∈RE fp h):p.1∈fp/\h.get? p.1=some p.2:=by obtain⟨b,hb,e⟩:=List.mem_filterMap.mp hp;cases q:h.get? b with|none=>rw[q]at e;cases e|some o=>rw[q]at e;have e':(b,o)=p:=Q5 e;subst e';exact⟨hb,q⟩
def Inv.pinned{aa:List<|Addr×Obj}{σ:St}{H:Hp}{s:Shared}{fp:List Addr}(I:Inv X aa σ H s)(hf:∀b∈fp,Ye X aa H b)(ho:∀b∈fp,∃o,s.heap.get? b=some o/\∀v,o.data≠.cell v):Inv X (aa++RE fp s.heap) σ H s:=I.pins_of λp hp=>(q_8.mp hp).elim (λz=>I.pin p<|Ze _ z) λz=>by obtain⟨hb,e⟩:=Qdz z;obtain⟨f0,f1,f2,_⟩:=hf p.1 hb;obtain⟨o,e',d⟩:=ho p.1 hb;rw[e]at e';cases e';exact⟨e,f0,f1,f2,d⟩
def Inv.unpinned{aa pl:List<|Addr×Obj}{σ:St}{H:Hp}{s:Shared}(I:Inv X (aa++pl) σ H s):Inv X aa σ H s:=I.pins_of λp hp=>I.pin p<|Ze _<|Y2 _ hp
def Lk{iter:Expr}{body:List Stmt}{wi:TI}{g:TG}{tb:TS}{pos:Pos}(hp:PassesOwn (model X.prog X.w) X.A X.env X.xe)(hc:X.calm=true)(hi:PI X tg iter wi)(hg:PG X tg g)(hb:PSs X body tb)(hs:∀x,foldedSetIterable iter X.env x=pure x:=by intro _;rfl):PS X (.For tg iter body [] pos)<|QgN wi g tb:=by
 intro aa s σ H D I h;refine wpAny_For (Qd (hi aa s σ H _ I h) λv s1 h1=>Qd h1 λiC s2 h2=>?_) hs;obtain⟨it,fp,tn,J,H2,e,I2,T,gx,f2,W,⟨m0,w0⟩,turn⟩:=h2;subst e;have stat:∀{H':Hp},(∀b∈fp,H' b=none)->∀b∈fp,Ye X aa H' b:=λhn b hb=>⟨hn b hb,(f2 b hb).2⟩;refine codeAny_forLoop_any (λn s'=>∃i σ' H',Inv X aa σ' H' s'/\tn i s'.heap/\(∀b∈fp,H' b=none)/\W i n σ' H') ?_ m0 ⟨0,σ,H2,I2,gx,λb hb=>(f2 b hb).1,w0⟩;rintro n s3⟨i,σ3,H3,I3,gw,gO,w3⟩;rcases turn i n σ3 H3 w3 with⟨stop,qn⟩|⟨go,N,hN,step⟩
 .refine wpAny_passesOwn hp<|Qd (T.done X rfl rfl rfl hc i aa s3 σ3 H3 X.xe I3 (stat gO) gw stop) λr s4⟨hr,I4⟩=>?_;subst hr;exact wpAny_execs_nil ⟨σ3,H3,I4,qn⟩
 .refine wpAny_passesOwn hp<|Qd (T.item X rfl rfl rfl hc i aa s3 σ3 H3 X.xe I3 (stat gO) gw go) λr s4⟨u,hr,h4⟩=>?_;subst hr;refine wpAny_passesOwn hp<|Qd h4 λ_ s5⟨x,H5,I5,r5,y5,fE,jB⟩=>?_;have jJ:=I5.pinned (stat jB)<|T.obj _ _ fE;refine wpAny_passesOwn hp<|Qd (hg _ s5 σ3 H5 x u _ jJ r5<|step x H5 y5) λ_ s6⟨σ6,H6,I6,q6⟩=>?_;refine wpAny_passesOwn hp<|Qd (hb _ s6 σ6 H6 _ I6 q6) λf s7 q7=>?_;have again:∀{σ7:St}{H7:Hp},Inv X (aa++RE fp s5.heap) σ7 H7 s7->N σ7 H7->∃m,m<n/\∃i σ' H',Inv X aa σ' H' s7/\tn i s7.heap/\(∀b∈fp,H' b=none)/\W i m σ' H':=λ{σ7 H7}I7 n7=>by
   obtain⟨m',hm,w7⟩:=hN σ7 H7 n7;refine⟨m',hm,i+1,σ7,H7,I7.unpinned,T.keep _ _ _ fE λb hb o e=>(I7.pin (b,o)<|Ze _<|Ze _<|O6 hb e).1,λb hb=>?_,w7⟩;obtain⟨o,e,d⟩:=T.obj _ _ fE b hb;exact(I7.pin (b,o)<|Ze _<|Ze _<|O6 hb e).2.1
  cases f with
  |next=>obtain⟨σ7,H7,I7,n7⟩:=q7;exact again I7 n7|cont=>obtain⟨σ7,H7,I7,n7⟩:=q7;exact again I7 n7|brk=>obtain⟨σ7,H7,I7,q7⟩:=q7;exact⟨σ7,H7,I7.unpinned,q7⟩|ret v=>obtain⟨x7,σ7,H7,I7,r7,q7⟩:=q7;exact⟨x7,σ7,H7,I7.unpinned,r7,q7⟩
end
abbrev R2:=V->V->Hp->VK->Prop
def OpR(X:Cx)(f:Value->Value->Sem Value)(r:R2):Prop:=∀(aa:List<|Addr×Obj)(s:Shared)(σ:St)(H:Hp)(x y:V)(v u:Value)(Q:VK),Inv X aa σ H s->RelV x v->RelV y u->r x y H Q->wpAny (model X.prog X.w) X.A (f v u) (EP X aa σ Q) X.xe s
def Nl(X:Cx)(f:Value->Sem Value)(r:V->Hp->VK->Prop):Prop:=∀(aa:List<|Addr×Obj)(s:Shared)(σ:St)(H:Hp)(x:V)(v:Value)(Q:VK),Inv X aa σ H s->RelV x v->r x H Q->wpAny (model X.prog X.w) X.A (f v) (EP X aa σ Q) X.xe s
def CallR(X:Cx)(f:Value)(r:List V->Hp->VK->Prop):Prop:=∀(aa:List<|Addr×Obj)(s:Shared)(σ:St)(H:Hp)(xs:List V)(us:List Value)(Q:VK),Inv X aa σ H s->Vals xs us->r xs H Q->wpAny (model X.prog X.w) X.A (call f us) (EP X aa σ Q) X.xe s
noncomputable def XQ(r:R2)(ta tb:TE):TE:=λσ H Q=>ta σ H λx H1=>tb σ H1 λy H2=>r x y H2 Q
noncomputable def tUn(r:V->Hp->VK->Prop)(ta:TE):TE:=λσ H Q=>ta σ H λx H1=>r x H1 Q
noncomputable def rI(C:Int->Int->Prop)(g:Int->Int->V):R2:=λx y H Q=>∃i j,x=.int i/\y=.int j/\C i j/\Q (g i j) H
noncomputable def VL(g:Int->Int->V):R2:=λx y H Q=>∃i j,x=.int i/\y=.int j/\Q (g i j) H
noncomputable def rU(g:Int->V):V->Hp->VK->Prop:=λx H Q=>∃i,x=.int i/\Q (g i) H
section
variable{X:Cx}{a b c:Expr}{ta tb tc:TE}{pos:Pos}
def Ny(ha:PE X a ta)(hb:PE X b tb){aa:List<|Addr×Obj}{s:Shared}{σ:St}{H:Hp}{R:V->V->Hp->Prop}(I:Inv X aa σ H s)(h:ta σ H λx H1=>tb σ H1 λy H2=>R x y H2){Q:Value->Shared->Prop}{f:Value->Value->Sem Value}(hf:∀v u s2 x y H2,Inv X aa σ H2 s2->RelV x v->RelV y u->R x y H2->wpAny (model X.prog X.w) X.A (f v u) Q X.xe s2):wpAny (model X.prog X.w) X.A (eval a X.env) (λv s₁=>wpAny (model X.prog X.w) X.A (eval b X.env) (λu s₂=>wpAny (model X.prog X.w) X.A (f v u) Q X.xe s₂) X.xe s₁) X.xe s:=by refine Qd (ha aa s σ H _ I h) ?_;rintro v s1⟨x,H1,I1,r1,q1⟩;refine Qd (hb aa s1 σ H1 _ I1 q1) ?_;rintro u s2⟨y,H2,I2,r2,q2⟩;exact hf v u s2 x y H2 I2 r1 r2 q2
def D9{op:Operator}{r:R2}(ho:OpR X (binaryOp op) r)(ha:PE X a ta)(hb:PE X b tb):PE X (.BinOp a op b pos)<|XQ r ta tb:=by intro aa s σ H Q I h;exact wpAny_BinOp<|Ny ha hb I h λv u s2 x y H2 I2 rx ry q=>ho aa s2 σ H2 x y v u Q I2 rx ry q
def DA{op:UnaryOp}{r:V->Hp->VK->Prop}(ho:Nl X (unaryOp op) r)(ha:PE X a ta):PE X (.UnaryOp op a pos)<|tUn r ta:=by intro aa s σ H Q I h;exact UnaryOp_<|Qd (ha aa s σ H _ I h) λv s1⟨x,H1,I1,r1,q1⟩=>ho aa s1 σ H1 x v Q I1 r1 q1
def OE{f:Value->Value->Sem Value}{C:Int->Int->Prop}{g:Int->Int->Int}(rule:∀(i j:Int)(t u:Tok)(s:Shared)(Q:Value->Shared->Prop)(E:Value->Shared->Prop),C i j->Q (.int (g i j) s.toks) {s with toks:=s.toks+1}->wpAny (model X.prog X.w) X.A (f (.int i t)<|.int j u) Q E s):OpR X f<|rI C λi j=>.int<|g i j:=by intro aa s σ H x y v u Q I rx ry h;obtain⟨i,j,rfl,rfl,hc,q⟩:=h;obtain⟨t,rfl⟩:=rx;obtain⟨t',rfl⟩:=ry;exact rule i j t t' s _ _ hc ⟨.int<|g i j,H,I.tok _,⟨_,rfl⟩,q⟩
def Ep{f:Value->Value->Sem Value}{g:Int->Int->Int}(rule:∀(i j:Int)(t u:Tok)(s:Shared)(Q:Value->Shared->Prop)(E:Value->Shared->Prop),Q (.int (g i j) s.toks) {s with toks:=s.toks+1}->wpAny (model X.prog X.w) X.A (f (.int i t)<|.int j u) Q E s):OpR X f<|VL λi j=>.int<|g i j:=by intro aa s σ H x y v u Q I rx ry h;obtain⟨i,j,rfl,rfl,q⟩:=h;obtain⟨t,rfl⟩:=rx;obtain⟨t',rfl⟩:=ry;exact rule i j t t' s _ _ ⟨.int<|g i j,H,I.tok _,⟨_,rfl⟩,q⟩
def Eo{f:Value->Value->Sem Value}{g:Int->Int->Bool}(rule:∀(i j:Int)(t u:Tok)(s:Shared)(Q:Value->Shared->Prop)(E:Value->Shared->Prop),Q (.bool<|g i j) s->wpAny (model X.prog X.w) X.A (f (.int i t)<|.int j u) Q E s):OpR X f<|VL λi j=>.bl<|g i j:=by intro aa s σ H x y v u Q I rx ry h;obtain⟨i,j,rfl,rfl,q⟩:=h;obtain⟨t,rfl⟩:=rx;obtain⟨t',rfl⟩:=ry;exact rule i j t t' s _ _ ⟨.bl<|g i j,H,I,rfl,q⟩
def NM(i j:Int):Prop:=0<j/\j<1073741824
def NN(i j:Int):Prop:=0<=j/\j<=1000000/\i.natAbs<2^64
def CMul(i j:Int):Prop:=-2^64<i/\i<2^64\/-2^64<j/\j<2^64
def CMul.ok{i j:Int}(h:CMul i j):IntMulOk i j:=by
 rcases h with⟨h1,h2⟩|⟨h1,h2⟩;.exact .of_left<|intBits_le_64 h1 h2
 .exact .of_right<|intBits_le_64 h1 h2
def QeH:OpR X (binaryOp .Add)<|VL λi j=>.int<|i+j:=Ep λ_ _ _ _ _ _ _ q=>add_int q
def QeZ:OpR X (binaryOp .Sub)<|VL λi j=>.int<|i-j:=Ep λ_ _ _ _ _ _ _ q=>sub_int q
def Eu:OpR X (binaryOp .Mult)<|rI CMul λi j=>.int<|i*j:=OE λ_ _ _ _ _ _ _ hc q=>mul_int q hc.ok
def QeL:OpR X (binaryOp .FloorDiv)<|rI NM λi j=>.int<|i/j:=OE λi j _ _ _ _ _ hc q=>by have h1:(0:Int)<j:=hc.1;have h2:j<1073741824:=hc.2;exact floordiv_int (by omega) (by rw[Int.fdiv_eq_ediv_of_nonneg i<|by omega];exact q)<|.inl<|PyProof.noPylong_small<|by omega
def QeR:OpR X (binaryOp .Mod)<|rI (λ_ j=>0<j) λi j=>.int<|i%j:=OE λi j _ _ _ _ _ hc q=>by have h1:(0:Int)<j:=hc;exact mod_int' (by omega)<|by rw[Int.fmod_eq_emod_of_nonneg i<|by omega];exact q
def QeX:OpR X (binaryOp .Pow)<|rI NN λi j=>.int<|i^j.toNat:=OE λ_ _ _ _ _ _ _ hc q=>pow_int_small hc.1 hc.2.1 hc.2.2 q
def unI{f:Value->Sem Value}{g:Int->Int}(rule:∀(i:Int)(t:Tok)(s:Shared)(Q:Value->Shared->Prop)(E:Value->Shared->Prop),Q (.int (g i) s.toks) {s with toks:=s.toks+1}->wpAny (model X.prog X.w) X.A (f<|.int i t) Q E s):Nl X f<|rU λi=>.int<|g i:=by intro aa s σ H x v Q I rx h;obtain⟨i,rfl,q⟩:=h;obtain⟨t,rfl⟩:=rx;exact rule i t s _ _ ⟨.int<|g i,H,I.tok _,⟨_,rfl⟩,q⟩
def BE:Nl X (unaryOp .USub)<|rU λi=>.int<|-i:=unI λ_ _ _ _ _ q=>neg_int q
end
section
variable{X:Cx}{a b c:Expr}{ta tb tc:TE}{pos:Pos}
def Mt{aa:List<|Addr×Obj}{σ:St}{H:Hp}{s:Shared}{Q:VK}{k k':Bool}(I:Inv X aa σ H s)(q:Q (.bl k) H)(e:k=k'):EP X aa σ Q (.bool k') s:=by subst e;exact⟨.bl k,H,I,rfl,q⟩
def QeQ:OpR X (compareOp .Lt)<|VL λi j=>.bl<|decide<|i<j:=Eo λ_ _ _ _ _ _ _ q=>lt_int q
def QeM:OpR X (compareOp .Gt)<|VL λi j=>.bl<|decide<|j<i:=Eo λ_ _ _ _ _ _ _ q=>gt_int q
def Et:OpR X (compareOp .Is) λx y H Q=>y=.non/\Q (.bl<|decide<|x=.non) H:=by intro aa s σ H x y v u Q I rx ry h;obtain⟨rfl,q⟩:=h;cases ry;refine is_none_gen<|Mt I q ?_;cases x<;>first|(cases rx;rfl)|(obtain⟨t,rfl⟩:=rx;rfl)
def OpR.or{f:Value->Value->Sem Value}{r r':R2}(h:OpR X f r)(h':OpR X f r'):OpR X f λx y H Q=>r x y H Q\/r' x y H Q:=by
 intro aa s σ H x y v u Q I rx ry q;rcases q with q|q;.exact h aa s σ H x y v u Q I rx ry q
 .exact h' aa s σ H x y v u Q I rx ry q
def JU(b:Expr){op:CmpOp}(h:op≠.In:=by decide)(h2:op≠.NotIn:=by decide):behindInMarks op b=false:=by
 have e1:(op==CmpOp.In)=false:=by cases op<;>first|rfl|exact absurd rfl h
 have e2:(op==CmpOp.NotIn)=false:=by cases op<;>first|rfl|exact absurd rfl h2
 cases b<;>simp[behindInMarks,e1,e2]
def Qfe{op:CmpOp}{r:R2}(ho:OpR X (compareOp op) r)(ha:PE X a ta)(hb:PE X b tb)(hm:behindInMarks op b=false):PE X (.Compare a [op] [b] pos)<|XQ r ta tb:=by intro aa s σ H Q I h;exact wpAny_Compare1 (Ny ha hb I h λv u s2 x y H2 I2 rx ry q=>ho aa s2 σ H2 x y v u Q I2 rx ry q) hm
def QgT(t:TE):TT:=λσ H Q=>t σ H λx H'=>∃k,x=.bl k/\Q k H'
def Ll{op:CmpOp}{r:R2}(ho:OpR X (compareOp op) r)(ha:PE X a ta)(hb:PE X b tb)(hm:behindInMarks op b=false):PT X (.Compare a [op] [b] pos)<|QgT<|XQ r ta tb:=by intro aa s σ H Q I h;refine wpAny_isTrue_Compare1 (Qd (ha aa s σ H _ I h) λv s1⟨x,H1,I1,r1,q1⟩=>Qd (hb aa s1 σ H1 _ I1 q1) λu s2⟨y,H2,I2,r2,q2⟩=>Qd (ho aa s2 σ H2 x y v u _ I2 r1 r2 q2) λc s3⟨z,H3,I3,r3,k,e,q3⟩=>?_) hm;subst e;cases r3;exact wpAny_truthy_bool ⟨H3,I3,q3⟩
noncomputable def B0(r r':R2)(ta tb tc:TE):TE:=λσ H Q=>ta σ H λx H1=>tb σ H1 λy H2=>r x y H2 λz H3=>∃k,z=.bl k/\if k=true then tc σ H3 λw' H4=>r' y w' H4 Q else Q (.bl false) H3
def Qfd{op fJ:CmpOp}{r r':R2}(ho:OpR X (compareOp op) r)(dg:OpR X (compareOp fJ) r')(ha:PE X a ta)(hb:PE X b tb)(hc:PE X c tc)(hm:lastMarks [op,fJ] [b,c]=false:=by with_unfolding_all rfl):PE X (.Compare a [op,fJ] [b,c] pos)<|B0 r r' ta tb tc:=by intro aa s σ H Q I h;refine Compare_chain (Qd (ha aa s σ H _ I h) λv s1⟨x,H1,I1,r1,q1⟩=>chain_link<|Qd (hb aa s1 σ H1 _ I1 q1) λu s2⟨y,H2,I2,r2,q2⟩=>Qd (ho aa s2 σ H2 x y v u _ I2 r1 r2 q2) λd s3⟨z,H3,I3,r3,k,e,q3⟩=>?_) hm;subst e;cases r3;refine wpAny_truthy_bool ?_;cases k with|false=>exact ite_ff ⟨.bl false,H3,I3,rfl,q3⟩|true=>exact ite_tt<|chain_last<|Qd (hc aa s3 σ H3 _ I3 q3) λw' s4⟨z',H4,I4,r4,q4⟩=>dg aa s4 σ H4 y z' u w' Q I4 r2 r4 q4
def TX:(sizeLine:Nat)<2^63:=by rw[sizeLine_eq];decide
def QeI:OpR X (binaryOp .Add) λx y H Q=>∃i j,x=.str i/\y=.str j/\i.length+j.length<=sizeLine/\Q (.str<|i++j) H:=by intro aa s σ H x y v u Q I rx ry h;obtain⟨i,j,rfl,rfl,hz,q⟩:=h;obtain⟨t,rfl⟩:=rx;obtain⟨t',rfl⟩:=ry;exact add_str (λt' tk=>⟨.str<|i++j,H,I.tok _,⟨_,rfl⟩,q⟩) hz
def Wn{x:V}{us:List Value}(r:Vals [x] us):∃u,us=[u]/\RelV x u:=by cases r with|cons r1 r2=>cases r2;exact⟨_,rfl,r1⟩
def Rl{x y:V}{us:List Value}(r:Vals [x,y] us):∃u w',us=[u,w']/\RelV x u/\RelV y w':=by cases r with|cons r1 r2=>cases r2 with|cons r3 r4=>cases r4;exact⟨_,_,rfl,r1,r3⟩
def AZ(hc:X.calm=true):CallR X (.builtin "max") λxs H Q=>∃i j,xs=[.int i,.int j]/\Q (.int<|if j>i then j else i) H:=by
 intro aa s σ H xs us Q I r h;obtain⟨i,j,rfl,q⟩:=h;obtain⟨u,w',rfl,⟨t,rfl⟩,⟨t',rfl⟩⟩:=Rl r;refine max_two_ints (I.ok.hd hc) λh' tk k=>⟨_,H,I.kept k,?_,q⟩;by_cases hj:j>i;.rw[if_pos hj,if_pos hj];exact⟨_,rfl⟩
 .rw[if_neg hj,if_neg hj];exact⟨_,rfl⟩
def Ac(hc:X.calm=true):CallR X (.builtin "min") λxs H Q=>∃i j,xs=[.int i,.int j]/\Q (.int<|if j<i then j else i) H:=by
 intro aa s σ H xs us Q I r h;obtain⟨i,j,rfl,q⟩:=h;obtain⟨u,w',rfl,⟨t,rfl⟩,⟨t',rfl⟩⟩:=Rl r;refine min_two_ints (I.ok.hd hc) λh' tk k=>⟨_,H,I.kept k,?_,q⟩;by_cases hj:j<i;.rw[if_pos hj,if_pos hj];exact⟨_,rfl⟩
 .rw[if_neg hj,if_neg hj];exact⟨_,rfl⟩
def AV:CallR X (.type "int") λxs H Q=>(∃i,xs=[.int i]/\Q (.int i) H)\/∃k,xs=[.bl k]/\Q (.int<|if k then 1 else 0) H:=by
 intro aa s σ H xs us Q I r h;rcases h with⟨i,rfl,q⟩|⟨k,rfl,q⟩;.obtain⟨u,rfl,t,rfl⟩:=Wn r;exact call_int_int ⟨.int i,H,I,⟨_,rfl⟩,q⟩
 .obtain⟨u,rfl,r1⟩:=Wn r;cases r1;exact call_int_bool ⟨.int<|if k then 1 else 0,H,I.tok _,⟨_,rfl⟩,q⟩
def Af:CallR X (.type "str") λxs H Q=>∃i,xs=[.int i]/\i.natAbs.log2<1920/\Q (.str<|toString i) H:=by intro aa s σ H xs us Q I r h;obtain⟨i,rfl,hz,q⟩:=h;obtain⟨u,rfl,t,rfl⟩:=Wn r;exact PySem.P.str_of_int hz ⟨.str _,H,I.tok _,⟨_,rfl⟩,q⟩
end
structure ObjM(h:Heap)(x dx C:Addr)(mA:Str->Option Value):Prop where
 obj:h.get? x=some (W.instObj C dx)ns:h.Ns1 dx mA
 ne:dx≠x
def EH{h:Heap}{dx:Addr}{mA:Str->Option Value}(n:h.Ns1 dx mA):∃od,h.get? dx=some od/\∀name,W.lookIn name od=some (mA name):=by
 obtain⟨o,es,ep,ho,hd,hk,_,hm⟩:=n;refine⟨o,ho,λname=>?_⟩;have e:=hm name;unfold nsFind findBy at e;rw[<-Array.find?_toList]at e;unfold W.lookIn;rw[hd];dsimp only;split;.rename_i y q;rw[q]at e;exact congrArg some e
 .rename_i q;rw[q]at e;have a:es.toList.any (·.refKey)=false:=by
   rw[List.any_eq_false];intro y hy;obtain⟨z,t,jZ⟩:=hk y<|Array.mem_toList_iff.mp hy;simp[DictEntry.refKey,jZ]
  have a':¬es.toList.any (·.refKey)=true:=by rw[a];exact VH
  rw[if_neg a'];exact congrArg some e
def ObjM.look{h:Heap}{x dx C:Addr}{mA:Str->Option Value}(I:ObjM h x dx C mA):∃od,W.InstAt h x (W.instObj C dx) C (some od)/\∀name,W.lookIn name od=some (mA name):=let⟨od,ho,hl⟩:=EH I.ns
 ⟨od,⟨I.obj,rfl,rfl,ho⟩,hl⟩
def RelO.some_of{v:V}{o:Option Value}(r:RelO (some v) o):∃u,o=some u/\RelV v u:=by cases o with|none=>exact(show False from r).elim|some u=>exact⟨u,rfl,r⟩
def QbQ{v:V}{u:Value}(r:RelV v u):W.handedIn u=true:=by cases v with|non=>cases show u=Value.none from r;rfl|bl b=>cases show u=Value.bool b from r;rfl|int i=>obtain⟨t,e⟩:=show∃t,u=Value.int i t from r;cases e;rfl|str x=>obtain⟨t,e⟩:=show∃t,u=Value.str x t from r;cases e;rfl|byt b=>obtain⟨t,e⟩:=show∃t,u=Value.bytes b t from r;cases e;rfl|flt b=>obtain⟨t,e⟩:=show∃t,u=Value.float b t from r;cases e;rfl|ref a=>cases show u=Value.ref a from r;rfl|ty n=>cases show u=Value.type n from r;rfl
section
variable{P:Program}{w:World}{H H':Hp}{h h':Heap}{a C dx:Addr}{fs jA:List<|Str×V}
def Qb6(hok:HOk P w H h)(e:H a=some (.ins C dx fs)):∃mA,ObjM h a dx C mA/\(∀f,RelO (fs.lookup f)<|mA f)/\PySem.Within mA (fs.map (·.1))/\fs.length<=1000/\H dx=some (.own a):=by obtain⟨d,z,ne,ob,mA,n,r,q⟩:=show ObjOk P w H h a<|.ins C dx fs from hok a _ e;exact⟨mA,⟨ob,n,ne⟩,r,q,z,d⟩
end
structure Cls(K:W.Frag)(C:Addr):Prop where
 pg:W.plainGet K C Str.empty=true
 hd:W.hasDictIn K C=true
 po:W.plainOver K C=true
 sa:W.findIn K (.ref C) "__setattr__"=some (some<|.builtin "object.__setattr__")
def Cls.get{K:W.Frag}{C:Addr}(c:Cls K C)(f:Str):W.plainGet K C f=true:=c.pg
section
variable{X:Cx}{aa:List<|Addr×Obj}{σ:St}{H:Hp}{s:Shared}{a C dx:Addr}{fs:List<|Str×V}{f:Str}{v:V}{A:Around}{E:Value->Shared->Prop}
def A7{prog:Program}{w:World}{env:Env}{e:Expr}{f:Str}{pos:Pos}{s:Shared}{Q:Value->Shared->Prop}(hb:attributeBase e f env (eval e env)=eval e env)(h:wpAny (model prog w) A (eval e env) (λo s₁=>wpAny (model prog w) A (getAttr o f true) Q E s₁) E s):wpAny (model prog w) A (eval (.Attribute e f pos) env) Q E s:=Attribute_any_ h<|by rw[arm_eval_Attribute,hb]
end
section
variable{X:Cx}{aa:List<|Addr×Obj}{σ:St}{H:Hp}{s:Shared}{A:Around}{E:Value->Shared->Prop}{Q:Value->Shared->Prop}{c:Value}{b:Bool}
inductive TyOf(K:W.Frag)(H:Hp):V->Value->Prop where|non:TyOf K H .non<|.type "NoneType"|bl(x:Bool):TyOf K H (.bl x)<|.type "bool"|int(i:Int):TyOf K H (.int i)<|.type "int"|str(x:Str):TyOf K H (.str x)<|.type "str"|flt(x:UInt64):TyOf K H (.flt x)<|.type "float"|lst{a:Addr}{xs:List V}(e:H a=some (.lst xs)):TyOf K H (.ref a)<|.type "list"|frz{a:Addr}{o:Obj}{xs:List V}(e:H a=some (.frz o<|.lst xs)):TyOf K H (.ref a)<|.type "list"|tup{a:Addr}{xs:List V}(e:H a=some (.tup xs)):TyOf K H (.ref a)<|.type "tuple"|dK{a:Addr}{aC:List<|Zg×V}(e:H a=some (.dK aC)):TyOf K H (.ref a)<|.type "dict"|dT{a:Addr}{aC:List<|List Zg×V}(e:H a=some (.dT aC)):TyOf K H (.ref a)<|.type "dict"|frzD{a:Addr}{o:Obj}{aC:List<|Zg×V}(e:H a=some (.frz o<|.dK aC)):TyOf K H (.ref a)<|.type "dict"|ins{a C dx:Addr}{fs:List<|Str×V}(e:H a=some (.ins C dx fs))(cl:Cls K C)(ha:W.findIn K (.ref C) "__class__"=some (some<|.builtin "object.__class__"))(hn:W.specialIn K (.builtin "object.__class__") "__get__"=some (some<|.builtin "getset_descriptor.__get__"))(kJ:W.takesIn K (.builtin "object.__class__")=some true)(hm:W.mroIn K C (.type "object")=some true):TyOf K H (.ref a)<|.ref C
def Qcm{x:V}{u t:Value}(I:Inv X aa σ H s)(rx:RelV x u)(ty:TyOf X.K H x t)(e:W.kitOne X.K t c=some b)(h:∀tk,Q (.bool b) {s with toks:=tk}):wpAny (model X.prog X.w) A (call (.builtin "isinstance") [u,c]) Q E s:=by cases ty with|non=>cases show u=Value.none from rx;exact W.kia_one W.kitx_none I.kIn True.intro e (λz=>nomatch z) h|bl y=>cases show u=Value.bool y from rx;exact W.kia_one W.kitx_bool I.kIn True.intro e (λz=>nomatch z) h|int i=>obtain⟨t,q⟩:=show∃t,u=Value.int i t from rx;cases q;exact W.kia_one W.kitx_int I.kIn True.intro e (λz=>nomatch z) h|str y=>obtain⟨t,q⟩:=show∃t,u=Value.str y t from rx;cases q;exact W.kia_one W.kitx_str I.kIn True.intro e (λz=>nomatch z) h|flt y=>obtain⟨t,q⟩:=show∃t,u=Value.float y t from rx;cases q;exact W.kia_one W.kitx_float I.kIn True.intro e (λz=>nomatch z) h|@lst a xs ea=>cases show u=Value.ref a from rx;obtain⟨_,_,n,_,h1⟩:=show ObjOk X.prog X.w H s.heap a<|.lst xs from I.hok a _ ea;exact W.kia_one W.kitx_list I.kIn ⟨_,h1,rfl⟩ e (λz=>nomatch z) h|@frz a ob xs ea=>cases show u=Value.ref a from rx;obtain⟨_,_,_,n,_,h1⟩:=show ObjOk X.prog X.w H s.heap a<|.frz ob<|.lst xs from I.hok a _ ea;exact W.kia_one W.kitx_list I.kIn ⟨_,h1,rfl⟩ e (λz=>nomatch z) h|@tup a xs ea=>cases show u=Value.ref a from rx;obtain⟨_,_,_,p⟩:=show ObjOk X.prog X.w H s.heap a<|.tup xs from I.hok a _ ea;obtain⟨o,h1,h2,_⟩:=p;exact W.kia_one W.kitx_tuple I.kIn ⟨o,h1,h2⟩ e (λz=>nomatch z) h|@dK a aC ea=>cases show u=Value.ref a from rx;obtain⟨_,_,vs,_,p⟩:=show ObjOk X.prog X.w H s.heap a<|.dK aC from I.hok a _ ea;obtain⟨o,es,ep,h1,h2,_⟩:=p;exact W.kia_one W.kitx_dict I.kIn ⟨o,h1,h2.1⟩ e (λz=>nomatch z) h|@frzD a ob aC ea=>cases show u=Value.ref a from rx;obtain⟨_,_,vs,_,p⟩:=(show ObjOk X.prog X.w H s.heap a<|.frz ob<|.dK aC from I.hok a _ ea).2;obtain⟨o,es,ep,h1,h2,_⟩:=p;exact W.kia_one W.kitx_dict I.kIn ⟨o,h1,h2.1⟩ e (λz=>nomatch z) h|@dT a aC ea=>cases show u=Value.ref a from rx;obtain⟨_,_,xs,_,o,es,ep,h1,h2,_⟩:=show ObjOk X.prog X.w H s.heap a<|.dT aC from I.hok a _ ea;exact W.kia_one W.kitx_dict I.kIn ⟨o,h1,h2.1⟩ e (λz=>nomatch z) h|@ins a C dx fs ea cl ha hn kJ hm=>cases show u=Value.ref a from rx;obtain⟨mA,O,_⟩:=Qb6 I.hok ea;obtain⟨od,J,_⟩:=O.look;exact W.kia_one (W.kitx_own (cl.get _) cl.hd ha hn kJ hm) I.kIn J e (λz=>nomatch z) h
end
structure Room(k:Nat)(A:Around):Prop where
 hd:A.handled=none
 dp:A.depth+3*k+5<recursionLimit
 un:A.units+16*k+200<cLine
def Room.mono{j k:Nat}{A:Around}(r:Room k A)(h:j<=k):Room j A:=⟨r.hd,by have:=r.dp;omega,by have:=r.un;omega⟩
theorem Room.deeper{k:Nat}{A:Around}(r:Room (k+1) A)(env:Env):Room k<|A.deeper env:=⟨r.hd,by have:=r.dp;show A.depth+1+3*k+5<_;omega,by have:=r.un;show A.units+3+16*k+200<_;omega⟩
theorem Room.in1{k:Nat}{A:Around}(r:Room (k+1) A):Room k A.in1:=⟨r.hd,by have:=r.dp;show A.depth+3*k+5<_;omega,by have:=r.un;show A.units+1+16*k+200<_;omega⟩
def Qc7{A:Around}{C:Addr}{us:List Value}{kw:List<|Str×Value}:(A.under<|.builtin "type.__call__" ⟨.ref C::us,kw⟩).depth=A.depth+1:=by first|rfl|simp[Around.under,Code.weight,Code.isCreation,Code.isGuard,Code.isCaller,Code.frames,Code.isFrame,guardIds]
def Qc8{A:Around}{C:Addr}{us:List Value}{kw:List<|Str×Value}:(A.under<|.builtin "type.__call__" ⟨.ref C::us,kw⟩).units=A.units+1:=by first|rfl|simp[Around.under,Code.cUnits,Code.frames,Code.isFrame]
def Room.make{k:Nat}{A:Around}(r:Room (k+1) A)(C:Addr)(us:List Value)(kw:List<|Str×Value):Room k<|A.under<|.builtin "type.__call__" ⟨.ref C::us,kw⟩:=⟨r.hd,by have:=r.dp;rw[Qc7];omega,by have:=r.un;rw[Qc8];omega⟩
theorem Room.depth{k:Nat}{A:Around}(r:Room k A):A.depth<recursionLimit:=by have:=r.dp;omega
theorem Room.units{k:Nat}{A:Around}(r:Room k A):A.units+64<cLine:=by have:=r.un;omega
def Jm:TA:=λ_ H Q=>Q [] H
def Jc(ta:TE)(tr:TA):TA:=λσ H Q=>ta σ H λx H1=>tr σ H1 λxs H2=>Q (x::xs) H2
section
variable{X:Cx}{e:Expr}{es:List Expr}{te:TE}{t:TA}{pos:Pos}
def JL:PA X [] Jm:=λ_ _ _ _ H Q I h=>Calls.spliced_nil ⟨[],H,I,.nil,h⟩
def J5(ha:PE X e te)(hr:PA X es t)(hs:Wp X e es:=by rfl):PA X (e::es)<|Jc te t:=by intro pos aa s σ H Q I h;rw[hs];show wpAny _ _ (spliced<|(false,eval e X.env)::backTo pos (starEach es X.env)) _ _ s;refine Calls.spliced_cons<|Qd (ha aa s σ H _ I h) λu s1⟨x,H1,I1,r1,q1⟩=>?_;exact Qd (hr pos aa s1 σ H1 _ I1 q1)<|by rintro us s2⟨xs,H2,I2,r2,q2⟩;exact⟨x::xs,H2,I2,.cons r1 r2,q2⟩
def Kf(t:TA):TE:=λσ H Q=>t σ H λxs H1=>xs.length<=sizeLine/\∀p,H1 p=none->Q (.ref p) (upd H1 p<|.tup xs)
def Tt(t:TA):TE:=λσ H Q=>t σ H λxs H1=>xs.length<=sizeLine/\∀p,H1 p=none->Q (.ref p) (upd H1 p<|.lst xs)
def Lh{x1}(h:PA X es t):PE X (.Tuple es x1 pos)<|Kf t:=by intro aa s σ H Q I hq;refine wpAny_Tuple_spliced<|Qd (h pos aa s σ H _ I hq) λus s1⟨xs,H1,I1,r,z,q⟩=>⟨by rw[<-r.length];exact z,?_⟩;have hf:H1 s1.heap.objs.size=none:=I1.hok.fresh<|Qm _;refine⟨.ref s1.heap.objs.size,upd H1 s1.heap.objs.size<|.tup xs,I1.laid (t':=s1.toks) (λb u e=>Heap.get?_push_of_some _ e) (Qm _) ?_,rfl,q _ hf⟩;exact⟨z,us,r,⟨_,Heap.get?_push_size _ rfl,rfl,_,rfl⟩⟩
def X5(h:PA X es t):PE X (.List es pos)<|Tt t:=by intro aa s σ H Q I hq;refine wpAny_List_spliced<|Qd (h pos aa s σ H _ I hq) λus s1⟨xs,H1,I1,r,z,q⟩=>⟨by rw[<-r.length];exact z,?_⟩;have hf:H1 s1.heap.objs.size=none:=I1.hok.fresh<|Qm _;refine⟨.ref s1.heap.objs.size,upd H1 s1.heap.objs.size<|.lst xs,I1.laid (t':=s1.toks) (λb u e=>Heap.get?_push_of_some _ e) (Qm _) ?_,rfl,q _ hf⟩;exact⟨z,us,0,r,Heap.get?_push_size _ rfl⟩
end
abbrev Sp:=List V->Hp->VK->XK->Prop
noncomputable abbrev YO:=List Env->Hp->Shared->XK->Value->Shared->Prop
structure Env0(P:Program)(w:World)(K:W.Frag)(mg:Str->Option Value)(ae:Heap)(A:Around)(af:List Env)(s:Shared)(H:Hp):Prop where
 frames:A.frames=some af
 mod:Mod K mg ae
 bs:∀b o,ae.get? b=some o->s.heap.get? b=some o/\H b=none
 bsz:ae.objs.size<=s.heap.objs.size
 funs:s.heap.FunFrames ae af
 frf:∀b∈ZG af,H b=none
 hok:HOk P w H s.heap
 bare:AllBare s.gens
def CE(af:List Env)(P:Program)(w:World)(H:Hp)(s:Shared)(Q:VK)(u:Value)(s':Shared):Prop:=∃v H',s'.os=s.os/\AllBare s'.gens/\Un (ZG af) [] H H' s.heap s'.heap/\HOk P w H' s'.heap/\RelV v u/\Q v H'
def CR(CX:YO)(af:List Env)(P:Program)(w:World)(H:Hp)(s:Shared)(Q:VK)(E:XK)(r:Result)(s':Shared):Prop:=match r with|.ok (.ret u)=>CE af P w H s Q u s'|.ok _=>False|.error e=>CX af H s E e s'
structure FnOk(P:Program)(w:World)(K:W.Frag)(mg:Str->Option Value)(ae:Heap)(CX:YO)(k:Nat)(f:Addr)(fd:FuncData)(ps:List Str)(sp:Sp):Prop where
 len:∀vs H Q E,sp vs H Q E->vs.length=ps.length
 run:∀(A:Around)(af:List Env)(s:Shared)(H:Hp)(args:Args)(us:List Value)(vs:List V)(Q:VK)(E:XK),Room k A->Env0 P w K mg ae A af s H->BindsTo s fd args (ps.zip us)->Vals vs us->sp vs H Q E->codeAny (model P w) A (.call (.ref f) args) (CR CX af P w H s Q E) s
theorem FnOk.mono{P:Program}{w:World}{K:W.Frag}{mg:Str->Option Value}{ae:Heap}{CX:YO}{j k:Nat}{f:Addr}{fd:FuncData}{ps:List Str}{sp:Sp}(F:FnOk P w K mg ae CX j f fd ps sp)(h:j<=k):FnOk P w K mg ae CX k f fd ps sp:=⟨F.len,λA af s H args us vs Q E hr=>F.run A af s H args us vs Q E<|hr.mono h⟩
def FnOk.imp{P:Program}{w:World}{K:W.Frag}{mg:Str->Option Value}{ae:Heap}{CX:YO}{k:Nat}{f:Addr}{fd:FuncData}{ps:List Str}{sp kh:Sp}(F:FnOk P w K mg ae CX k f fd ps sp)(h:∀vs H Q E,kh vs H Q E->sp vs H Q E):FnOk P w K mg ae CX k f fd ps kh:=⟨λvs H Q E q=>F.len vs H Q E<|h _ _ _ _ q,λA af s H args us vs Q E hr he hb hv hs=>F.run A af s H args us vs Q E hr he hb hv<|h _ _ _ _ hs⟩
def Env0.make{P:Program}{w:World}{K:W.Frag}{mg:Str->Option Value}{ae:Heap}{A:Around}{af:List Env}{s:Shared}{H:Hp}(e:Env0 P w K mg ae A af s H)(C:Addr)(us:List Value)(kw:List<|Str×Value):Env0 P w K mg ae (A.under<|.builtin "type.__call__" ⟨.ref C::us,kw⟩) af s H:=⟨by first|exact e.frames|(simpa[Around.under,Code.envs,Code.isFrame,pushEnvs]using e.frames),e.mod,e.bs,e.bsz,e.funs,e.frf,e.hok,e.bare⟩
theorem Env0.in1{P:Program}{w:World}{K:W.Frag}{mg:Str->Option Value}{ae:Heap}{A:Around}{af:List Env}{s:Shared}{H:Hp}(e:Env0 P w K mg ae A af s H):Env0 P w K mg ae A.in1 af s H:=⟨e.frames,e.mod,e.bs,e.bsz,e.funs,e.frf,e.hok,e.bare⟩
section
variable{X:Cx}{aa:List<|Addr×Obj}{σ:St}{H:Hp}{s s':Shared}
def Inv.env0(I:Inv X aa σ H s):Env0 X.prog X.w X.K X.mg X.ae X.A X.stack s H:=⟨I.ok.frames,I.ok.mod,I.bs,ZU I.ok.bsz I.sz,I.stack,I.stkFree,I.hok,I.bare⟩
def Inv.after{Q:VK}{u:Value}(I:Inv X aa σ H s)(h:CE X.stack X.prog X.w H s Q u s'):EP X aa σ Q u s':=by obtain⟨v,H',os,bare,un,hok,r,q⟩:=h;obtain⟨hh,g,d,t,mi⟩:=s';obtain rfl:mi=s.os:=os;exact⟨v,H',I.call (h':=hh) (g':=g) (d':=d) (t':=t) (ch:=[]) un hok bare λb z=>absurd z<|by simp,r,q⟩
end
def Yx(sp:Sp)(fc:List V)(E:XK)(t:TA):TE:=λσ H Q=>t σ H λvs H1=>sp (vs++fc) H1 Q E
def Binds(K:W.Frag)(fd:FuncData)(ps:List Str)(ds:List Value):Prop:=∀(s:Shared)(us:List Value),K.In s.heap->(us++ds).length=ps.length->BindsTo s fd ⟨us,[]⟩ (ps.zip<|us++ds)
def Binds.all{K:W.Frag}{fd:FuncData}{ps:List Str}(h:∀us:List Value,us.length=ps.length->bindArgs fd ⟨us,[]⟩=pure (ps.zip us)):Binds K fd ps []:=λs us _ hl=>by rw[Yv]at hl⊢;exact .of_eq<|h us hl
def Ng(CX:YO)(X:Cx)(E:XK):Prop:=∀(aa:List<|Addr×Obj)(σ:St)(H:Hp)(s:Shared)(e:Value)(s':Shared),Inv X aa σ H s->CX X.stack H s E e s'->X.xe e s'
section
variable{X:Cx}{CX:YO}{k:Nat}{f C:Addr}{fd:FuncData}{ps:List Str}{sp:Sp}{fc:List V}{ds:List Value}{E:XK}{x m:Str}{p pos apos:Pos}{e o:Expr}{es:List Expr}{ta:TE}{t:TA}
def Qf9{aa:List<|Addr×Obj}{σ:St}{H:Hp}{s:Shared}{Q:VK}{us:List Value}{vs:List V}(F:FnOk X.prog X.w X.K X.mg X.ae CX k f fd ps sp)(hr:Room k X.A)(hb:Binds X.K fd ps ds)(hd:Vals fc ds)(hx:Ng CX X E)(I:Inv X aa σ H s)(r:Vals vs us)(h:sp (vs++fc) H Q E):wpAny (model X.prog X.w) X.A (call (.ref f) us) (EP X aa σ Q) X.xe s:=by
 have r2:Vals (vs++fc)<|us++ds:=r.append hd;have hl:(us++ds).length=ps.length:=by rw[<-r2.length];exact F.len _ _ _ _ h
 refine wpAny_call<|codeAny_mono (F.run X.A X.stack s H ⟨us,[]⟩ (us++ds) (vs++fc) Q E hr I.env0 (hb s us I.kIn hl) r2 h) λr s' hq=>?_;cases r with|error e=>exact hx aa σ H s e s' I hq|ok fl=>cases fl with|ret u=>exact I.after hq|next=>exact False.elim hq|brk=>exact False.elim hq|cont=>exact False.elim hq
def Lg(F:FnOk X.prog X.w X.K X.mg X.ae CX k f fd ps sp)(hr:Room k X.A)(hg:Gl X x)(hm:X.mg x=some (.ref f))(hk:W.keepIn X.K (.ref f)=true)(hb:Binds X.K fd ps ds)(hd:Vals fc ds)(hx:Ng CX X E)(ha:PA X (e::es) t)(aY:XV x:=by decide)(he:Wp X e es:=by rfl)(aQ:WF X pos es:=by rfl):PE X (.Call (.Name x p) (e::es) [] pos)<|Yx sp fc E t:=by intro aa s σ H Q I h;refine wpAny_Call_Name_kw<|Se I hg hm ?_ aY;refine W.callWith_K (h₀:=X.ae) I.ok.mod.kin hk (Qd (ha pos aa s σ H _ I h) λus s1⟨vs,H1,I1,r,q⟩=>⟨I1.kIn,?_⟩) he aQ;exact Qf9 F hr hb hd hx I1 r q
end
structure FnScope(N P:List Str)(sc:Scope):Prop where
 kind:sc.kind=.function
 co:sc.isCoroutine=false
 gen:sc.isGenerator=false
 nd:N.Nodup
 pre:N.take P.length=P
 par:∀x∈P,sc.names.lookup x=some .local\/sc.names.lookup x=some .cell
 nofree:∀y∈sc.names,y.2≠.free
theorem GR{kindOf:Str->Option NameKind}{x:Str}:∀{binds:List<|Str×Value}{m:Str->Option Value},(∀v,(x,v)∉binds)->bindL kindOf binds m x=m x
 |[],_,_=>rfl|(n,v)::r,m,h=>by
  unfold bindL;rw[GR λw hw=>h w<|Qy _ hw];split
  .have:x≠n:=by rintro rfl;exact h v JY
   simp[this]
  .rfl
theorem GP{kindOf:Str->Option NameKind}{x:Str}:∀{binds:List<|Str×Value}{m:Str->Option Value},(∀v,(x,v)∉binds)->bindC kindOf binds m x=m x
 |[],_,_=>rfl|(n,v)::r,m,h=>by
  unfold bindC;rw[GP λw hw=>h w<|Qy _ hw];split;.rfl
  .have:x≠n:=by rintro rfl;exact h v JY
   simp[this]
theorem GQ{kindOf:Str->Option NameKind}{x:Str}{v:Value}:∀{P:List Str}{vs:List Value}{i:Nat}{m:Str->Option Value},P.Nodup->P[i]?=some x->vs[i]?=some v->kindOf x=some .local->bindL kindOf (P.zip vs) m x=some v|[],_,_,_,_,h,_,_=>by simp at h|_::_,[],_,_,_,_,h,_=>by simp at h|p::P,w::vs,0,m,nd,h1,h2,hk=>by simp at h1 h2;subst h1;subst h2;show bindL kindOf ((p,w)::P.zip vs) m p=_;unfold bindL;rw[GR λv hv=>(q_25.mp nd).1 (of_mem_zip hv).1,if_pos hk];simp|p::P,w::vs,i+1,m,nd,h1,h2,hk=>by show bindL kindOf ((p,w)::P.zip vs) m x=_;unfold bindL;exact GQ (i:=i) (q_25.mp nd).2 (by simpa using h1) (by simpa using h2) hk
theorem GO{kindOf:Str->Option NameKind}{x:Str}{v:Value}:∀{P:List Str}{vs:List Value}{i:Nat}{m:Str->Option Value},P.Nodup->P[i]?=some x->vs[i]?=some v->kindOf x≠some .local->bindC kindOf (P.zip vs) m x=some v|[],_,_,_,_,h,_,_=>by simp at h|_::_,[],_,_,_,_,h,_=>by simp at h|p::P,w::vs,0,m,nd,h1,h2,hk=>by simp at h1 h2;subst h1;subst h2;show bindC kindOf ((p,w)::P.zip vs) m p=_;unfold bindC;rw[GP λv hv=>(q_25.mp nd).1 (of_mem_zip hv).1,if_neg hk];simp|p::P,w::vs,i+1,m,nd,h1,h2,hk=>by show bindC kindOf ((p,w)::P.zip vs) m x=_;unfold bindC;exact GO (i:=i) (q_25.mp nd).2 (by simpa using h1) (by simpa using h2) hk
noncomputable def ZV(N:List Str)(vs:List V):St:=vs.map some++List.replicate (N.length-vs.length) none
def JK(CX:YO)(P:Program)(w:World)(K:W.Frag)(mg:Str->Option Value)(ae:Heap)(N:List Str)(qual:Str)(scope:Scope)(f:Addr)(cd:Value)(A:Around)(af:List Env)(s:Shared)(H:Hp)(E:XK):Cx where
 prog:=P
 w:=w
 K:=K
 mg:=mg
 ae:=ae
 A:=A.deeper<|envOfC qual scope s.heap.objs.size f cd
 N:=N
 s₀:=s
 H₀:=H
 env:=envOfC qual scope s.heap.objs.size f cd
 af:=af
 stack:=envOfC qual scope s.heap.objs.size f cd::af
 ex:=[]
 calm:=true
 fn:=λ_=>true
 pn:=[]
 xe:=λe s'=>wpAny (model P w) (A.deeper<|envOfC qual scope s.heap.objs.size f cd) (leaving (envOfC qual scope s.heap.objs.size f cd) e) (λ_ ij=>CX af H s E e ij) (λe' ij=>CX af H s E e' ij) s'
def Gd{sc:Scope}{n:Nat}{x:Str}(h:sc.names.lookup x=some .cell):∃c,(cellsFrom n sc.names []).lookup x=some c:=by have q:=W.cellsFrom_some sc.names n []<|.inl h;exact Option.isSome_iff_exists.mp q
def Fm{CX:YO}{P:Program}{w:World}{K:W.Frag}{mg:Str->Option Value}{ae:Heap}{N ps:List Str}{qual:Str}{scope:Scope}{f:Addr}{cd:Value}{A:Around}{af:List Env}{s s1:Shared}{H:Hp}{E:XK}{us:List Value}{vs:List V}(S:FnScope N ps scope)(hd:A.handled=none)(e0:Env0 P w K mg ae A af s H)(hl:vs.length=ps.length)(r:Vals vs us)(x:InCallC s s.heap.objs.size (bindL (envOfC qual scope s.heap.objs.size f cd).kindOf (ps.zip us) λ_=>none) (cellsFrom (s.heap.objs.size+1) scope.names []) (bindC (envOfC qual scope s.heap.objs.size f cd).kindOf (ps.zip us) λ_=>none) s1):Inv (JK CX P w K mg ae N qual scope f cd A af s H E) [] (ZV N vs) H s1:=by
 have aQ:ps.length<=N.length:=by have:=congrArg List.length S.pre;rw[X7]at this;omega
 obtain⟨h1,tk,rfl,hk⟩:=x.done;have gy:∀b:Addr,b∉(JK CX P w K mg ae N qual scope f cd A af s H E).ex:=λb z=>absurd (show b∈([]:List Addr)from z) (by simp);refine⟨⟨e0.mod,S.kind,rfl,rfl,Qm _,λy z c h1 h2=>?_,λy hy=>?_,λy c _ h=>?_,λ_=>hd,Around.frames_deeper e0.frames,.inr ⟨rfl,rfl⟩,λb z=>absurd z<|gy b,e0.bs,e0.bsz,λb _ _=>gy b,λb z=>absurd z<|gy b,e0.funs,e0.frf⟩,rfl,e0.bare,Un.kept hk,⟨_,x.toInCall.ns,λi y v h1 h2 h3=>?_⟩,λy c h=>⟨_,x.cell y c h⟩,e0.hok.fresh<|Qm _,λy c h=>?_,λp hp=>absurd (show p∈([]:List<|Addr×Obj)from hp)<|by simp,e0.hok.kept hk,?_⟩;.exact name_of_addr x.apart (PySem.mem_of_lookup h1)<|PySem.mem_of_lookup h2
 .have hy:scope.names.lookup y=some .cell\/scope.names.lookup y=some .free:=hy;rcases hy with hy|hy;.exact Gd hy
  .exact absurd rfl<|S.nofree _<|PySem.mem_of_lookup hy
 .exact le_of_lt<|x.above y c<|PySem.mem_of_lookup h
 .have hi:i<vs.length:=by
   unfold ZV at h2;by_cases hi:i<vs.length;.exact hi
   .rw[RH<|by simpa using hi]at h2;rw[RJ]at h2;split at h2<;>cases h2
  have ha:vs[i]?=some v:=by
   unfold ZV at h2;rw[RK<|by simpa using hi,WG]at h2;cases e:vs[i]?with
   |none=>rw[e]at h2;cases h2|some a=>rw[e]at h2;cases h2;rfl
  obtain⟨u,hu,rv⟩:=r.get ha;have hp:ps[i]?=some y:=by rw[<-S.pre,List.getElem?_take_of_lt<|by omega];exact h1
  have kE:ps.Nodup:=by rw[<-S.pre];exact S.nd.sublist<|List.take_sublist _ _
  refine⟨u,rv,?_⟩;rcases S.par y<|List.mem_of_getElem? hp with k|k;.exact .inl ⟨k,GQ kE hp hu k⟩
  .obtain⟨c,e⟩:=Gd (n:=s.heap.objs.size+1) k;refine .inr ⟨.inl k,c,e,?_⟩;have q:=x.cell y c e;rw[GO kE hp hu<|by show scope.names.lookup y≠_;rw[k];decide]at q;exact q
 .exact e0.hok.fresh<|le_of_lt<|x.above y c<|PySem.mem_of_lookup h
 .unfold ZV;show _=N.length;rw[JZ,Qr,RL];omega
def FY{CX:YO}{P:Program}{w:World}{K:W.Frag}{mg:Str->Option Value}{ae:Heap}{k:Nat}{f:Addr}{name qual:Str}{params:Arguments}{body:List Stmt}{scope:Scope}{dV kV doc pm ah ct oc:Value}{an od:Option Addr}{osl:Array<|Option Value}{N ps:List Str}{sp:Sp}(lk:K.lookup f=some ⟨oc,od,.func<|W.fnOf name qual params body scope dV kV doc pm an ah ct,osl⟩)(bE:W.codeIn K ah qual=true)(S:FnScope N ps scope)(len:∀vs H Q E,sp vs H Q E->vs.length=ps.length)(bH:∀(A:Around)(af:List Env)(s:Shared)(H:Hp)(vs:List V)(Q:VK)(E:XK),Room k (A.deeper<|envOfC qual scope s.heap.objs.size f ah)->sp vs H Q E->∃t,PSs (JK CX P w K mg ae N qual scope f ah A af s H E) body t/\t {nx:=λ_ H'=>Q .non H',rt:=Q} (ZV N vs) H):FnOk P w K mg ae CX (k+1) f (W.fnOf name qual params body scope dV kV doc pm an ah ct) ps sp:=by
 refine⟨len,λA af s H args us vs Q E hr e0 hb r cX=>?_⟩;have hl:=len _ _ _ _ cX;have KX:K.In s.heap:=e0.mod.kin.keeps λb o e=>(e0.bs b o e).1;have lim:s.heap.NoLimit:=e0.mod.nolimit.keeps λb o e=>(e0.bs b o e).1;have hX:∀y∈ps.zip us,scope.names.lookup y.1=some .local\/scope.names.lookup y.1=some .cell/\((cellsFrom (s.heap.objs.size+1) scope.names []).lookup y.1).isSome=true:=by
  rintro⟨n,v⟩hy;rcases S.par n (of_mem_zip hy).1 with q|q;.exact .inl q
  .exact .inr ⟨q,W.cellsFrom_some _ _ _<|.inl q⟩
 refine codeAny_call_function hr.depth (KX _ _ lk) rfl S.co S.gen rfl (W.codeRec_of KX bE)<|hb _ _ _ _ ?_;refine wpAny_newFunctionEnv_cells S.kind hX λenv he s1 x=>?_;subst he;refine⟨lim.keeps x.toInCall.keep,codeAny_func ?_⟩;obtain⟨t,ht,hq⟩:=bH A af s H vs Q E (hr.deeper _) cX;have I:Inv (JK CX P w K mg ae N qual scope f ah A af s H E) [] (ZV N vs) H s1:=Fm S hr.hd e0 hl r x;refine wpAny_mono (ht [] s1 (ZV N vs) H _ I hq) (λfl s' hs=>?_) λe s' hs=>hs;have fin:∀{σ':St}{H':Hp}{v:V}{u:Value},Inv (JK CX P w K mg ae N qual scope f ah A af s H E) [] σ' H' s'->RelV v u->Q v H'->CE af P w H s Q u s':=λ{σ' H' v u}J rv q=>⟨v,H',J.os,J.bare,J.ae,J.hok,rv,q⟩;cases fl with|ret u=>obtain⟨v,σ',H',J,rv,q⟩:=hs;exact fin J rv q|next=>obtain⟨σ',H',J,q⟩:=hs;exact fin (v:=V.non) (u:=Value.none) J rfl q|brk=>obtain⟨_,_,_,q⟩:=hs;exact False.elim q|cont=>obtain⟨_,_,_,q⟩:=hs;exact False.elim q
section
variable{X:Cx}{x:Str}{p pos:Pos}{e:Expr}{es:List Expr}{t:TA}{id T:String}{r:List V->Hp->VK->Prop}
def Kb(r:List V->Hp->VK->Prop)(t:TA):TE:=λσ H Q=>t σ H λvs H1=>r vs H1 Q
def RB(hc:CallR X (.builtin id) r)(hg:Gl X x)(hm:X.mg x=none)(hv:bootBuiltins x=some (.builtin id))(ha:PA X (e::es) t)(hn:x≠"__name__":=by decide)(aY:XV x:=by decide)(he:Wp X e es:=by rfl)(aQ:WF X pos es:=by rfl):PE X (.Call (.Name x p) (e::es) [] pos)<|Kb r t:=by intro aa s σ H Q I h;refine wpAny_Call_Name_kw<|Sd I hg hm hv ?_ hn aY;exact PyProof.Rows.callWith_builtin1 (Qd (ha pos aa s σ H _ I h) λus s1⟨vs,H1,I1,r1,q1⟩=>hc aa s1 σ H1 vs us Q I1 r1 q1) he aQ
def D8(hc:CallR X (.type T) r)(hg:Gl X x)(hm:X.mg x=none)(hv:bootBuiltins x=some (.type T))(ha:PA X (e::es) t)(hn:x≠"__name__":=by decide)(aY:XV x:=by decide)(he:Wp X e es:=by rfl)(aQ:WF X pos es:=by rfl):PE X (.Call (.Name x p) (e::es) [] pos)<|Kb r t:=by intro aa s σ H Q I h;refine wpAny_Call_Name_kw<|Sd I hg hm hv ?_ hn aY;exact PyProof.Rows.callWith_type1 (Qd (ha pos aa s σ H _ I h) λus s1⟨vs,H1,I1,r1,q1⟩=>hc aa s1 σ H1 vs us Q I1 r1 q1) he aQ
end
end L2
namespace HT
open PySem PyProof.Rows
section
variable{prog:Program}{w:World}{A:Around}{E:Value->Shared->Prop}{s:Shared}
def cat_tup{t b:Addr}{vs ws:List Value}{Q:Value->Shared->Prop}(ht:IsTup s.heap t vs.toArray)(hb:IsTup s.heap b ws.toArray)(hv:vs≠[])(h1:ws=[]->Q (.ref t) s)(h2:ws≠[]->Q (.ref s.heap.objs.size) {s with heap:=s.heap.push {cls:=.type "tuple",data:=.seq (vs++ws).toArray}})(cW:vs.length+ws.length<=sizeLine):wpAny (model prog w) A (binaryOp .Add (.ref t)<|.ref b) Q E s:=by
 obtain⟨⟨cls,dd,data,sl⟩,ho,hc,n,hd⟩:=id ht;obtain⟨⟨oK,jF,data2,kj⟩,iF,kS,n2,hd2⟩:=id hb;simp only at hc hd kS hd2;subst hc hd kS hd2;have e:vs.toArray++ws.toArray=(vs++ws).toArray:=by simp
 by_cases hw:ws=[]
 .exact concat_meets ⟨_,ho,rfl⟩ ⟨_,iF,rfl⟩ noFill_tuple_add seq_tuple_add PySem.F.slot_tuple_add PySem.F.entry_tuple_add (PySem.F.args_tuple_add_2 _ _) (tuple_addW1 t b vs.toArray ws.toArray n n2 dd jF sl kj (by simpa using hv)<|by simp[hw]) ⟨ho,iF,h1 hw⟩
 .refine concat_meets ⟨_,ho,rfl⟩ ⟨_,iF,rfl⟩ noFill_tuple_add seq_tuple_add PySem.F.slot_tuple_add PySem.F.entry_tuple_add (PySem.F.args_tuple_add_2 _ _) (tuple_addW2 t b vs.toArray ws.toArray n n2 dd jF sl kj (by simpa using hv) (by simpa using hw)<|by rw[Jh,Jh];exact cW) ⟨ho,iF,?_⟩;rw[e];exact h2 hw
noncomputable def sIx(n d:Nat):Option Int->Nat|none=>d|some v=>if v<0 then(v+(n:Int)).toNat else min v.toNat n
def Qgc(n d:Nat)(hd:d<=n)(o:Option Int):sIx n d o<=n:=by cases o with|none=>exact hd|some v=>
  show(if v<0 then(v+(n:Int)).toNat else min v.toNat n)<=n;by_cases hv:v<0;.rw[if_pos hv];omega
  .rw[if_neg hv];exact Nat.min_le_right _ _
def minN(k n:Nat):min (k:Int) (n:Int)=((min k n:Nat):Int):=by
 rcases Nat.le_total k n with q|q;.rw[Nat.min_eq_left q,Int.min_eq_left<|Int.ofNat_le.mpr q]
 .rw[Nat.min_eq_right q,Int.min_eq_right<|Int.ofNat_le.mpr q]
def Gg(v:Int)(n d:Nat):(if v<0 then max (v+(n:Int)) 0 else min v (n:Int))=((sIx n d<|some v:Nat):Int):=by
 show(if v<0 then max (v+(n:Int)) 0 else min v (n:Int))=((if v<0 then(v+(n:Int)).toNat else min v.toNat n:Nat):Int);by_cases hv:v<0;.rw[if_pos hv,if_pos hv,Int.ofNat_toNat]
 .obtain⟨k,rfl⟩:=Tj<|Int.not_lt.mp hv;rw[if_neg hv,if_neg hv,Xs,minN]
def Bx(lo hi:Option Int)(n:Nat):Builtin.Slice.sliceAdjust lo hi 1 (n:Int)=(((sIx n 0 lo:Nat):Int),((sIx n n hi:Nat):Int)):=by
 have h1:¬(1:Int)<0:=by omega
 unfold Builtin.Slice.sliceAdjust;simp only[h1,if_false];refine Prod.ext ?_ ?_;.cases lo with|none=>rfl|some v=>exact Gg v n 0
 .cases hi with
  |none=>rfl|some v=>exact Gg v n n
def Qfu(i j:Nat):Builtin.Slice.slicePlaces (i:Int) (j:Int) 1=j-i:=by
 unfold Builtin.Slice.slicePlaces;have h1:(1:Int)>0:=by decide
 simp only[h1,if_true,Int.ediv_one];split;.rw[Int.sub_add_cancel,Int.toNat_sub]
 .exact(Nat.sub_eq_zero_of_le<|Int.ofNat_le.mp<|Int.not_lt.mp ‹_›).symm
def Cg{v:Value}{o:Option Int}{Q:Option Int->Shared->Prop}(p:IsPart v o)(h:Q o s):wpAny (model prog w) A (Builtin.Slice.slicePartIndex v) Q E s:=by cases p with|none=>exact slicePart_none h|int i t=>exact slicePart_int h
def Qgt{sl:Addr}{vl vu:Value}{lo hi:Option Int}{n:Nat}{Q:Int×Int×Nat->Shared->Prop}(hs:s.heap.IsSliceOf sl vl vu .none)(pl:IsPart vl lo)(pu:IsPart vu hi)(h:Q (((sIx n 0 lo:Nat):Int),1,sIx n n hi-sIx n 0 lo) s):wpAny (model prog w) A (Builtin.Slice.sliceApplied (.ref sl)<|pure (n:Int)) Q E s:=by obtain⟨os,fK,kQ,iJ⟩:=id hs;unfold Builtin.Slice.sliceApplied Builtin.Slice.sliceFields;refine wpAny_bind<|wpAny_bind<|wpAny_field fK iJ (x:=vl) rfl<|wpAny_bind<|wpAny_field fK iJ (x:=vu) rfl<|wpAny_bind<|wpAny_field fK iJ (x:=.none) rfl<|wpAny_pure ?_;refine wpAny_bind<|slicePart_none ?_;show wpAny _ _ (if((1:Int)==0)=true then _ else _) _ _ s;rw[if_neg<|by decide];refine wpAny_bind<|Cg pl<|wpAny_bind<|Cg pu<|wpAny_bind<|wpAny_pure ?_;show wpAny _ _ (match Builtin.Slice.sliceAdjust lo hi 1 (n:Int)with|(lo,hi)=>pure (lo,(1:Int),Builtin.Slice.slicePlaces lo hi 1)) _ _ s;rw[Bx lo hi n];show wpAny _ _ (pure (((sIx n 0 lo:Nat):Int),(1:Int),Builtin.Slice.slicePlaces ((sIx n 0 lo:Nat):Int) ((sIx n n hi:Nat):Int) 1)) _ _ s;rw[Qfu];exact wpAny_pure h
def Qft(xs:Array Value)(i k:Nat):((List.range k).filterMap λ(m:Nat)=>xs[((i:Int)+(m:Int)*1).toNat]?).toArray=((xs.toList.drop i).take k).toArray:=by
 have e:(λ(m:Nat)=>xs[((i:Int)+(m:Int)*1).toNat]?)=λm=>xs[i+m]?:=by
  funext m;have:((i:Int)+(m:Int)*1).toNat=i+m:=by omega
  rw[this]
 rw[e];have:=pick_run xs i k;rw[List.filterMap_map]at this;have e2:((λx=>xs[x]?)∘λx=>i+x)=λm=>xs[i+m]?:=rfl;rw[e2]at this;rw[this]
def getItem_tuple_cut{t sl:Addr}{items:Array Value}{vl vu:Value}{lo hi:Option Int}{Q:Value->Shared->Prop}(ht:IsTup s.heap t items)(hs:s.heap.IsSliceOf sl vl vu .none)(pl:IsPart vl lo)(pu:IsPart vu hi)(hw:¬(sIx items.size 0 lo=0/\sIx items.size items.size hi=items.size))(h:Q (.ref s.heap.objs.size) {s with heap:=s.heap.push {cls:=.type "tuple",data:=.seq ((items.toList.drop<|sIx items.size 0 lo).take<|sIx items.size items.size hi-sIx items.size 0 lo).toArray}})(cW:items.size<=sizeLine):wpAny (model prog w) A (getItem (.ref t)<|.ref sl) Q E s:=by
 have dh:sizeOk<|.seq ((items.toList.drop<|sIx items.size 0 lo).take<|sIx items.size items.size hi-sIx items.size 0 lo).toArray:=by
  show((items.toList.drop<|sIx items.size 0 lo).take<|sIx items.size items.size hi-sIx items.size 0 lo).toArray.size<=sizeLine;rw[Jh,X7,X8,Ow];omega
 have hj:sIx items.size items.size hi<=items.size:=Qgc _ _ (Qm _) hi;obtain⟨os,fK,kQ,iJ⟩:=id hs;have gM:s.TypeIs (.ref sl) "slice":=⟨os,fK,kQ⟩;unfold getItem;try with_reducible refine wpAny_holding ?_
 first|refine wpAny_bind<|wpAny_pure ?_|skip
 refine wpAny_bind<|wpAny_sequenceKey ht.typeIs (by decide) ?_;refine wpAny_bind<|wpAny_callSpecial?_slot (name:=Str.ofString "__getitem__") ht.typeIs PyProof.Rows.slot_tuple_getitem<|wpAny_call_entry PyProof.Rows.slot_tuple_getitem ht.typeIs entry_tuple_getitem ?_<|args_tuple_getitem _ _;show wpAny _ _ (Builtin.Tuple.tupleItemsOf (.ref t)>>=_) _ _ s;refine wpAny_bind<|tupleItemsOf_ ht ?_;refine wpAny_bind<|wpAny_typeOf gM ?_;rw[if_pos<|by decide];refine wpAny_bind<|Qgt hs pl pu ?_;have dP:¬(((sIx items.size 0 lo:Nat):Int)==0&&(1:Int)==1&&sIx items.size items.size hi-sIx items.size 0 lo==items.size)=true:=by
  intro q;rw[Ja,Ja]at q;have q1:((sIx items.size 0 lo:Nat):Int)=0:=eq_of_beq q.1.1;have q2:sIx items.size items.size hi-sIx items.size 0 lo=items.size:=eq_of_beq q.2;exact hw ⟨by omega,by omega⟩
 show wpAny _ _ (if(((sIx items.size 0 lo:Nat):Int)==0&&(1:Int)==1&&sIx items.size items.size hi-sIx items.size 0 lo==items.size)=true then _ else _) _ _ s;rw[if_neg dP,Qft];first|exact wpAny_bind (m:=Builtin.Tuple.tupleExact _)<|wpAny_newObj_type (wpAny_pure ⟨_,rfl,wpAny_pure h⟩) dh|exact wpAny_bind (m:=Builtin.Tuple.tupleExact _)<|wpAny_newObj_type (wpAny_bind<|wpAny_pure<|wpAny_pure ⟨_,rfl,wpAny_pure h⟩) dh|exact wpAny_bind<|wpAny_bind (m:=Builtin.Tuple.tupleExact _)<|wpAny_newObj_type (wpAny_pure<|wpAny_pure ⟨_,rfl,wpAny_pure h⟩) dh|exact wpAny_bind<|wpAny_bind (m:=Builtin.Tuple.tupleExact _)<|wpAny_newObj_type (wpAny_pure ⟨_,rfl,wpAny_pure h⟩) dh
end
end HT
namespace L2
open PySem PySem.Spec PyProof.Rows
noncomputable abbrev TO:=St->Hp->(Option Int->Hp->Prop)->Prop
def PO(X:Cx)(e:Option Expr)(t:TO):Prop:=∀(aa:List<|Addr×Obj)(s:Shared)(σ:St)(H:Hp)(Q:Option Int->Hp->Prop),Inv X aa σ H s->t σ H Q->wpAny (model X.prog X.w) X.A (evalPart e X.env) (λu s'=>∃o H',Inv X aa σ H' s'/\IsPart u o/\Q o H') X.xe s
def QgO:TO:=λ_ H Q=>Q none H
def QgR(t:TE):TO:=λσ H Q=>t σ H λx H1=>∃i,x=.int i/\Q (some i) H1
section
variable{X:Cx}{e:Expr}{te:TE}{lo hi:Option Expr}{tl th:TO}{pos p2:Pos}
def Qfv:PO X none QgO:=by intro aa s σ H Q I h;rw[evalPart_none];exact wpAny_pure ⟨none,H,I,.none,h⟩
def Qfw(h:PE X e te):PO X (some e)<|QgR te:=by intro aa s σ H Q I hw;rw[evalPart_some];refine Qd (h aa s σ H _ I hw) ?_;rintro u s1⟨x,H1,I1,r1,q1⟩;obtain⟨i,rfl,q⟩:=q1;obtain⟨t,rfl⟩:=r1;exact⟨some i,H1,I1,.int i t,q⟩
def SlR(X:Cx)(r:V->Option Int->Option Int->Hp->VK->Prop):Prop:=∀(aa:List<|Addr×Obj)(s:Shared)(σ:St)(H:Hp)(x:V)(v vl vu:Value)(lo hi:Option Int)(sl:Addr)(Q:VK),Inv X aa σ H s->RelV x v->s.heap.IsSliceOf sl vl vu .none->IsPart vl lo->IsPart vu hi->r x lo hi H Q->∃T id,typeLookup (.type T) "__getitem__"=pure (some<|.builtin id)/\s.TypeIs v T/\wpAny (model X.prog X.w) X.A (getItem v<|.ref sl) (EP X aa σ Q) X.xe s
def SlR.or{r r':V->Option Int->Option Int->Hp->VK->Prop}(h:SlR X r)(h':SlR X r'):SlR X λx lo hi H Q=>r x lo hi H Q\/r' x lo hi H Q:=by
 intro aa s σ H x v vl vu lo hi sl Q I rx hs pl pu q;rcases q with q|q;.exact h aa s σ H x v vl vu lo hi sl Q I rx hs pl pu q
 .exact h' aa s σ H x v vl vu lo hi sl Q I rx hs pl pu q
def tSl(r:V->Option Int->Option Int->Hp->VK->Prop)(te:TE)(tl th:TO):TE:=λσ H Q=>te σ H λx H1=>tl σ H1 λl H2=>th σ H2 λu H3=>r x l u H3 Q
def Qfk{r:V->Option Int->Option Int->Hp->VK->Prop}(hr:SlR X r)(he:PE X e te)(hl:PO X lo tl)(hu:PO X hi th):PE X (.Subscript e (.Slice lo hi none p2) pos)<|tSl r te tl th:=by intro aa s σ H Q I h;refine Subscript_<|Qd (he aa s σ H _ I h) λv s1⟨x,H1,I1,r1,q1⟩=>?_;refine wpAny_Slice<|Qd (hl aa s1 σ H1 _ I1 q1) λvl s2⟨l,H2,I2,pl,q2⟩=>Qd (hu aa s2 σ H2 _ I2 q2) λvu s3⟨u,H3,I3,pu,q3⟩=>?_;rw[evalPart_none];refine wpAny_pure ?_;have I4:Inv X aa σ H3 {s3 with heap:=s3.heap.push {cls:=.type "slice",data:=.fields #[vl,vu,.none]}}:=I3.kept (t':=s3.toks) λb ob q=>Heap.get?_push_of_some _ q;obtain⟨T,id,hT,ht,hg⟩:=hr aa {s3 with heap:=s3.heap.push {cls:=.type "slice",data:=.fields #[vl,vu,.none]}} σ H3 x v vl vu l u s3.heap.objs.size Q I4 r1 (Heap.IsSliceOf.new ..) pl pu q3;show wpAny (model X.prog X.w) X.A (subscriptTail e (.Slice lo hi none p2) v<|.ref s3.heap.objs.size) (EP X aa σ Q) X.xe {s3 with heap:=s3.heap.push {cls:=.type "slice",data:=.fields #[vl,vu,.none]}};exact tail_any (ops:=[.ref s3.heap.objs.size,v]) ht hT hg<|by with_unfolding_all rfl
def VS(xs:List V)(lo hi:Option Int):List V:=(xs.drop<|HT.sIx xs.length 0 lo).take<|HT.sIx xs.length xs.length hi-HT.sIx xs.length 0 lo
def Gn(xs:List V)(lo hi:Option Int):(VS xs lo hi).length<=xs.length:=by unfold VS;rw[X7,X8];exact ZU (Nat.min_le_right _ _)<|Nat.sub_le _ _
def QfP(K:W.Frag):V->Option Int->Option Int->Hp->VK->Prop:=λx lo hi H Q=>∃a xs,x=.ref a/\SqT K H a xs/\¬(HT.sIx xs.length 0 lo=0/\HT.sIx xs.length xs.length hi=xs.length)/\∀p,H p=none->Q (.ref p) (upd H p<|.tup<|VS xs lo hi)
def Qgs:SlR X<|QfP X.K:=by
 intro aa s σ H x v vl vu lo hi sl Q I rx hs pl pu h;obtain⟨a,xs,rfl,hx,hw,q⟩:=h;cases rx;obtain⟨its,r,ht,hz⟩:=I.tuple hx;have hlen:its.toArray.size=xs.length:=by rw[Jh];exact r.length.symm
 refine⟨"tuple",_,PyProof.Rows.slot_tuple_getitem.lookup,ht.typeIs,?_⟩;refine HT.getItem_tuple_cut ht hs pl pu (by rw[hlen];exact hw) ?_ (by rw[hlen];exact hz);rw[hlen];refine⟨.ref s.heap.objs.size,_,I.laid (t':=s.toks) (o:=.tup<|VS xs lo hi) (λb ob q=>Heap.get?_push_of_some _ q) (Qm _) ?_,rfl,q _<|I.hok.fresh<|Qm _⟩;exact⟨ZU (Gn xs lo hi) hz,_,(r.drop<|HT.sIx xs.length 0 lo).take<|HT.sIx xs.length xs.length hi-HT.sIx xs.length 0 lo,IsTup.new _ _⟩
def Lq(K:W.Frag):R2:=λx y H Q=>∃a b xs ys,x=.ref a/\y=.ref b/\SqT K H a xs/\SqT K H b ys/\xs≠[]/\xs.length+ys.length<=sizeLine/\(ys=[]->Q (.ref a) H)/\(ys≠[]->∀p,H p=none->Q (.ref p) (upd H p<|.tup<|xs++ys))
def Vals.nil_iff{xs:List V}{us:List Value}(r:Vals xs us):us=[]↔xs=[]:=by cases r with|nil=>simp|cons _ _=>simp
def QeJ:OpR X (binaryOp .Add)<|Lq X.K:=by intro aa s σ H x y v u Q I rx ry h;obtain⟨a,b,xs,ys,rfl,rfl,ha,hb,hx,hz,q1,q2⟩:=h;cases rx;cases ry;obtain⟨its,r1,p1,_⟩:=I.tuple ha;obtain⟨cF,r2,p2,_⟩:=I.tuple hb;refine HT.cat_tup p1 p2 (λz=>hx<|r1.nil_iff.mp z) (λz=>⟨.ref a,H,I,rfl,q1<|r2.nil_iff.mp z⟩) (λz=>?_) (by rw[<-r1.length,<-r2.length];exact hz);refine⟨.ref s.heap.objs.size,_,I.laid (t':=s.toks) (o:=.tup<|xs++ys) (λb ob q=>Heap.get?_push_of_some _ q) (Qm _) ?_,rfl,q2 (λw=>z<|r2.nil_iff.mpr w) _<|I.hok.fresh<|Qm _⟩;exact⟨by rw[JZ];exact hz,_,r1.append r2,IsTup.new _ _⟩
end
noncomputable def WX(n:Nat)(i:Int):Option Nat:=if 0<=i then(if i<n then some i.toNat else none)else if-(n:Int)<=i then some (i+n).toNat else none
def V0{α:Type}(xs:List α)(i:Int):Option α:=(WX xs.length i).bind λj=>xs[j]?
def Fy{n:Nat}{i:Int}{j:Nat}(h:WX n i=some j):seqIndex? i n=some j/\j<n/\-(n:Int)<=i/\i<n:=by
 unfold WX at h;by_cases h0:0<=i
 .rw[if_pos h0]at h;by_cases h1:i<n;.rw[if_pos h1]at h;have e:i.toNat=j:=Q5 h;exact⟨by rw[seqIndex_of h0 h1,e],by omega,by omega,h1⟩
  .rw[if_neg h1]at h;cases h
 .rw[if_neg h0]at h;by_cases h1:-(n:Int)<=i
  .rw[if_pos h1]at h;have e:(i+n).toNat=j:=Q5 h;exact⟨by rw[seqIndex_neg (by omega) h1,e],by omega,h1,by omega⟩
  .rw[if_neg h1]at h;cases h
def Nt{α:Type}{xs:List α}{i:Int}{v:α}(h:V0 xs i=some v):∃j,seqIndex? i xs.length=some j/\xs[j]?=some v/\j<xs.length/\-(xs.length:Int)<=i/\i<xs.length:=by unfold V0 at h;cases e:WX xs.length i with|none=>rw[e]at h;cases h|some j=>rw[e]at h;obtain⟨h1,h2,h3,h4⟩:=Fy e;exact⟨j,h1,h,h2,h3,h4⟩
def HK{α:Type}(xs:List α)(v:α):V0 (xs++[v]) (-1)=some v:=by
 have hl:(xs++[v]).length=xs.length+1:=by simp
 have e:WX (xs++[v]).length (-1)=some xs.length:=by
  unfold WX;rw[hl,if_neg<|by decide,if_pos<|by omega];congr 1;omega
 unfold V0;rw[e];show(xs++[v])[xs.length]?=some v;simp
def Ni(b:Expr):Prop:=∀o i,subscripted b false o i=operate [o,i] (getItem o i)
def IxR(X:Cx)(r:R2):Prop:=∀(value slice:Expr)(aa:List<|Addr×Obj)(s:Shared)(σ:St)(H:Hp)(x y:V)(v u:Value)(Q:VK),Inv X aa σ H s->RelV x v->RelV y u->r x y H Q->subscripted slice false v u=operate [v,u] (getItem v u)->wpAny (model X.prog X.w) X.A (subscriptTail value slice v u) (EP X aa σ Q) X.xe s
def MtR(X:Cx)(id:String)(r:V->List V->Hp->VK->Prop):Prop:=∀(aa:List<|Addr×Obj)(s:Shared)(σ:St)(H:Hp)(x:V)(xs:List V)(v:Value)(us:List Value)(Q:VK),Inv X aa σ H s->RelV x v->Vals xs us->r x xs H Q->wpAny (model X.prog X.w) X.A (call (.builtin id)<|v::us) (EP X aa σ Q) X.xe s
section
variable{X:Cx}{a b:Expr}{ta tb:TE}{pos:Pos}
def IxR.or{r r':R2}(h:IxR X r)(h':IxR X r'):IxR X λx y H Q=>r x y H Q\/r' x y H Q:=by
 intro value slice aa s σ H x y v u Q I rx ry q hs;rcases q with q|q;.exact h value slice aa s σ H x y v u Q I rx ry q hs
 .exact h' value slice aa s σ H x y v u Q I rx ry q hs
def MtR.or{id:String}{r r':V->List V->Hp->VK->Prop}(h:MtR X id r)(h':MtR X id r'):MtR X id λx xs H Q=>r x xs H Q\/r' x xs H Q:=by
 intro aa s σ H x xs v us Q I rx rs q;rcases q with q|q;.exact h aa s σ H x xs v us Q I rx rs q
 .exact h' aa s σ H x xs v us Q I rx rs q
def Y1{r:R2}(hr:IxR X r)(ha:PE X a ta)(hb:PE X b tb)(hs:Ni b):PE X (.Subscript a b pos)<|XQ r ta tb:=by intro aa s σ H Q I h;exact Subscript_<|Ny ha hb I h λv u s2 x y H2 I2 rx ry q=>hr a b aa s2 σ H2 x y v u Q I2 rx ry q<|hs _ _
def DO(K:W.Frag):R2:=λx y H Q=>∃p xs i v,x=.ref p/\y=.int i/\SqL K H p xs/\V0 xs i=some v/\Q v H
def DQ(K:W.Frag):R2:=λx y H Q=>∃p xs i v,x=.ref p/\y=.int i/\SqT K H p xs/\V0 xs i=some v/\Q v H
def DP:R2:=λx y H Q=>∃z i c,x=.str z/\y=.int i/\z.length<=sizeLine/\V0 z.cps.toList i=some c/\Q (.str ⟨#[c]⟩) H
def ix_list:IxR X<|DO X.K:=by
 intro value slice aa s σ H x y v u Q I rx ry h hs;obtain⟨p,xs,i,z,rfl,rfl,hq,he,q⟩:=h;cases rx;obtain⟨t,rfl⟩:=ry;obtain⟨its,r,pl,hz⟩:=I.list hq;obtain⟨j,h1,h2,h3,h4,h5⟩:=Nt he;obtain⟨w,ew,ej⟩:=r.get h2;have hl:=r.length;have hn:=TX;have fin:EP X aa σ Q w s:=⟨z,H,I,ej,q⟩;by_cases h0:0<=i
 .have hj:i.toNat=j:=by
   rw[seqIndex_of h0 h5]at h1;exact Q5 h1
  exact item_listR pl.isList h0 (by omega) (by rw[hj];simpa using ew) fin hs
 .have hj:(i+(its.toArray.size:Int)).toNat=j:=by
   rw[seqIndex_neg (by omega) h4]at h1;rw[Jh,<-hl];exact Q5 h1
  exact subscriptTail_builtinR (x:=w) pl.isList.typeIs slot_list_getitem.lookup (wpAny_getItem_list_neg (Q:=λr s'=>r=w/\EP X aa σ Q r s') pl.isList (by omega) (by rw[Jh]<;>omega) (by omega) (by rw[hj];simpa using ew) ⟨rfl,fin⟩) hs
def ix_tup:IxR X<|DQ X.K:=by intro value slice aa s σ H x y v u Q I rx ry h hs;obtain⟨p,xs,i,z,rfl,rfl,hq,he,q⟩:=h;cases rx;obtain⟨t,rfl⟩:=ry;obtain⟨its,r,pl,hz⟩:=I.tuple hq;obtain⟨j,h1,h2,h3,h4,h5⟩:=Nt he;obtain⟨w,ew,ej⟩:=r.get h2;have hl:=r.length;have hn:=TX;have fin:EP X aa σ Q w s:=⟨z,H,I,ej,q⟩;exact subscriptTail_builtinR (x:=w) pl.typeIs slot_tuple_getitem.lookup (getItem_tuple (j:=j) (Q:=λr s'=>r=w/\EP X aa σ Q r s') pl (by omega) (by omega) (by rw[Jh,<-hl];exact h1) (by simpa using ew) ⟨rfl,fin⟩) hs
def Qcy:IxR X DP:=by
 intro value slice aa s σ H x y v u Q I rx ry h hs;obtain⟨z,i,c,rfl,rfl,hz,he,q⟩:=h;obtain⟨t,rfl⟩:=rx;obtain⟨t',rfl⟩:=ry;obtain⟨j,h1,h2,h3,h4,h5⟩:=Nt he;have hl:z.cps.toList.length=z.length:=by simp[Str.length]
 rw[hl]at h1 h4 h5;have hn:=TX;exact tail_any (typeIs_str s z t) slot_str_getitem.lookup (getItem_str (c:=c) (by
  have e1:decide (i< -(2^63:Int))=false:=J0 (by omega);have e2:decide (i≥2^63)=false:=J0 (by omega);rw[e1,e2,Bool.or_false]) (by rw[h1];simpa using h2) ⟨.str ⟨#[c]⟩,H,I.tok _,⟨_,rfl⟩,q⟩) hs
def Tn(K:W.Frag):R2:=λx y H Q=>DO K x y H Q\/DQ K x y H Q\/DP x y H Q
def Zy:IxR X<|Tn X.K:=ix_list.or<|ix_tup.or Qcy
def Qda(its:List Value)(n j:Nat)(u:Value):Obj.mapSeq (·.setIfInBounds j u) {cls:=.type "list",data:=.seq its.toArray n}={cls:=.type "list",data:=.seq (its.set j u).toArray n}:=by simp[Obj.mapSeq]
theorem Inv.lst{aa:List<|Addr×Obj}{σ:St}{H:Hp}{s:Shared}{p:Addr}{xs:List V}(I:Inv X aa σ H s)(h:H p=some (.lst xs)):∃(its:List Value)(n:Nat),Vals xs its/\s.heap.get? p=some {cls:=.type "list",data:=.seq its.toArray n}/\xs.length<=sizeLine:=by obtain⟨z,its,n,r,e⟩:=I.hok p _ h;exact⟨its,n,r,e,z⟩
def Inv.lstUpd{aa:List<|Addr×Obj}{σ:St}{H:Hp}{s:Shared}{p:Addr}{xs ys:List V}{its its':List Value}{n n':Nat}{f:Obj->Obj}(I:Inv X aa σ H s)(h:H p=some (.lst xs))(ho:s.heap.get? p=some {cls:=.type "list",data:=.seq its.toArray n})(hf:f {cls:=.type "list",data:=.seq its.toArray n}={cls:=.type "list",data:=.seq its'.toArray n'})(r:Vals ys its')(hz:ys.length<=sizeLine)(t:Nat):Inv X aa σ (upd H p<|.lst ys) {s with heap:=s.heap.update p f,toks:=t}:=by
 have e:(s.heap.update p f).get? p=some {cls:=.type "list",data:=.seq its'.toArray n'}:=by rw[Heap.get?_update_self f ho<|by rw[hf]<;>rfl,hf]
 refine I.write (x:=p) (e:=p) (by rw[h];trivial) (.inl rfl) (λb u hb q=>(Heap.get?_update_other _ _<|Ne.symm hb).trans q) ⟨_,e⟩ ?_;exact⟨hz,its',n',r,e⟩
def DY:V->V->V->Hp->(Hp->Prop)->Prop:=λo i v H Q=>∃p xs k j,o=.ref p/\i=.int k/\H p=some (.lst xs)/\WX xs.length k=some j/\Q (upd H p<|.lst<|xs.set j v)
def Qgn:Iw X DY:=by
 intro aa s σ H o i v ov iv u Q I ro ri rv h;obtain⟨p,xs,k,j,rfl,rfl,hp,hj,q⟩:=h;cases ro;obtain⟨t,rfl⟩:=ri;obtain⟨its,n,r,ho,hz⟩:=I.lst hp;obtain⟨h1,h2,h3,h4⟩:=Fy hj;have hl:=r.length;have hn:=TX;have I':Inv X aa σ (upd H p<|.lst<|xs.set j v) {s with heap:=s.heap.update p (Obj.mapSeq (·.setIfInBounds j u))}:=I.lstUpd hp ho (Qda its n j u) (r.set rv j) (by rw[Z2];exact hz) s.toks;by_cases h0:0<=k
 .have hk:k.toNat=j:=by
   rw[seqIndex_of h0 h4]at h1;exact Q5 h1
  exact W.ki_setAt ho h0 (by omega) (by rw[Jh,<-hl];exact h4)<|by rw[hk];exact⟨_,I',q⟩
 .have hk:(k+(its.toArray.size:Int)).toNat=j:=by
   rw[seqIndex_neg (by omega) h3]at h1;rw[Jh,<-hl];exact Q5 h1
  exact W.ki_setBack ho (by omega) (by rw[Jh,<-hl];exact h3) (by omega)<|by rw[hk];exact⟨_,I',q⟩
def M3(i:Int)(n:Nat):max 0 (min (if i<0 then i+(n:Int)else i) (n:Int))=((if i<0 then(i+(n:Int)).toNat else min i.toNat n:Nat):Int):=by
 by_cases h:i<0;.rw[if_pos h,if_pos h,Int.min_eq_left<|Int.add_le_of_le_sub_right<|by rw[Int.sub_self];exact Int.le_of_lt h,Int.ofNat_toNat,Int.max_comm]
 .obtain⟨k,rfl⟩:=Tj<|Int.not_lt.mp h;rw[if_neg h,if_neg h,Xs,Int.max_eq_right<|Int.le_min.mpr ⟨Int.not_lt.mp h,Int.natCast_nonneg n⟩];exact HT.minN k n
def Qgw(lo hi:Option Int)(n:Nat):(sliceBounds lo hi none n).1=((HT.sIx n 0 lo:Nat):Int)/\(sliceBounds lo hi none n).2.1=((HT.sIx n n hi:Nat):Int)/\(sliceBounds lo hi none n).2.2=1:=by
 refine⟨?_,?_,rfl⟩;.cases lo with
  |none=>rfl|some i=>exact M3 i n
 .cases hi with|none=>rfl|some i=>exact M3 i n
def Qgu(its:List Value)(lo hi:Option Int):slicePick its.toArray lo hi none=((its.drop<|HT.sIx its.length 0 lo).take<|HT.sIx its.length its.length hi-HT.sIx its.length 0 lo).toArray:=by obtain⟨h1,h2,h3⟩:=Qgw lo hi its.toArray.size;unfold slicePick;rw[h1,h2,h3];simp only[sliceRange_one,pick_run,Jh]<;>rfl
def QfN(K:W.Frag):V->Option Int->Option Int->Hp->VK->Prop:=λx lo hi H Q=>∃a xs,x=.ref a/\SqL K H a xs/\∀p,H p=none->Q (.ref p) (upd H p<|.lst<|VS xs lo hi)
def Qgq:SlR X<|QfN X.K:=by intro aa s σ H x v vl vu lo hi sl Q I rx hs pl pu h;obtain⟨a,xs,rfl,hx,q⟩:=h;cases rx;obtain⟨its,r,ht,hz⟩:=I.list hx;have hlen:=r.length;refine⟨"list",_,slot_list_getitem.lookup,ht.isList.typeIs,?_⟩;refine wpAny_getItem_list_slice ht.isList hs pl pu .none (by simp) ?_ (by rw[Jh]<;>omega);rw[Qgu,<-hlen];refine⟨.ref s.heap.objs.size,_,I.laid (t':=s.toks) (o:=.lst<|VS xs lo hi) (λb ob q=>Heap.get?_push_of_some _ q) (Qm _) ?_,rfl,q _<|I.hok.fresh<|Qm _⟩;exact⟨ZU (Gn xs lo hi) hz,_,0,(r.drop<|HT.sIx xs.length 0 lo).take<|HT.sIx xs.length xs.length hi-HT.sIx xs.length 0 lo,Heap.get?_push_size _ rfl⟩
noncomputable def Vy:V->Bool|.non=>true|.bl _=>true|.int _=>true|.str _=>true|_=>false
noncomputable def Ws:V->V->Bool|.non,.non=>true|.bl a,.bl b=>a==b|.bl a,.int b=>(if a then 1 else 0)==b|.int a,.bl b=>a==if b then 1 else 0|.int a,.int b=>a==b|.str a,.str b=>a==b|_,_=>false
def Qby{A:Around}{s:Shared}{y x:V}{u v:Value}(ry:RelV y u)(rx:RelV x v)(fy:Vy y=true)(fx:Vy x=true):SeqAt.EqAt A s u v<|Ws y x:=by cases y with
 |non=>
  cases ry;cases x with
  |non=>cases rx;exact SeqAt.EqAt.same _|bl b=>cases rx;exact SeqAt.EqAt.none_bool b|int b=>obtain⟨t,rfl⟩:=rx;exact SeqAt.EqAt.none_int b t|str b=>obtain⟨t,rfl⟩:=rx;exact SeqAt.EqAt.none_str b t|_=>exact absurd (show false=true from fx) VH
 |bl a=>
  cases ry;cases x with
  |non=>cases rx;exact SeqAt.EqAt.bool_none a|bl b=>cases rx;exact SeqAt.EqAt.bool_bool a b|int b=>obtain⟨t,rfl⟩:=rx;exact SeqAt.EqAt.bool_int a b t|str b=>obtain⟨t,rfl⟩:=rx;exact SeqAt.EqAt.bool_str a b t|_=>exact absurd (show false=true from fx) VH
 |int a=>
  obtain⟨t',rfl⟩:=ry;cases x with
  |non=>cases rx;exact SeqAt.EqAt.int_none a t'|bl b=>cases rx;exact SeqAt.EqAt.int_bool a t' b|int b=>obtain⟨t,rfl⟩:=rx;exact SeqAt.EqAt.int_int a t' b t|str b=>obtain⟨t,rfl⟩:=rx;exact SeqAt.EqAt.int_str a t' b t|_=>exact absurd (show false=true from fx) VH
 |str a=>
  obtain⟨t',rfl⟩:=ry;cases x with
  |non=>cases rx;exact SeqAt.EqAt.str_none a t'|bl b=>cases rx;exact SeqAt.EqAt.str_bool a t' b|int b=>obtain⟨t,rfl⟩:=rx;exact SeqAt.EqAt.str_int a t' b t|str b=>obtain⟨t,rfl⟩:=rx;exact SeqAt.EqAt.str_str a t' b t|_=>exact absurd (show false=true from fx) VH
 |_=>exact absurd (show false=true from fy) VH
def YU(x:V)(u:Value):Bool:=match u with|.none=>Ws .non x|.bool b=>Ws (.bl b) x|.int i _=>Ws (.int i) x|.str z _=>Ws (.str z) x|_=>false
def FP{x y:V}{u:Value}(r:RelV y u)(f:Vy y=true):YU x u=Ws y x:=by cases y with|non=>cases r;rfl|bl b=>cases r;rfl|int i=>obtain⟨t,rfl⟩:=r;rfl|str z=>obtain⟨t,rfl⟩:=r;rfl|_=>exact absurd (show false=true from f) VH
def P1{x:V}{xs:List V}{us:List Value}(h:Vals xs us)(f:xs.all Vy=true):us.any (YU x)=xs.any λy=>Ws y x:=by induction h with|nil=>rfl|cons r t ih=>rw[VI,Ja]at f;rw[any_cons,any_cons,FP r f.1,ih f.2]
theorem Sl{A:Around}{s:Shared}{x:V}{v:Value}(rx:RelV x v)(fx:Vy x=true):∀{xs:List V}{us:List Value},Vals xs us->xs.all Vy=true->∀u∈us,SeqAt.EqAt A s u v<|YU x u
 |_,_,.nil,_=>λu hu=>by cases hu|y::xs,u::us,.cons r t,f=>λu' hu=>by
  rw[VI,Ja]at f;rcases q_7.mp hu with rfl|hu;.rw[FP r f.1];exact Qby r rx f.1 fx
  .exact Sl rx fx t f.2 u' hu
def inV(x:V)(xs:List V):Bool:=xs.any λy=>Ws y x
def XD(K:W.Frag)(neg:Bool):R2:=λx y H Q=>∃p xs,y=.ref p/\(SqL K H p xs\/SqT K H p xs)/\Vy x=true/\xs.all Vy=true/\Q (.bl<|if neg then !inV x xs else inV x xs) H
def QeN:OpR X (compareOp .In)<|XD X.K false:=by
 intro aa s σ H x y v u Q I rx ry h;obtain⟨p,xs,rfl,hq,fx,fs,q⟩:=h;cases ry;rcases hq with hq|hq
 .obtain⟨its,r,pl,hz⟩:=I.list hq;refine SeqAt.in_listAt (YU x) pl.isList (λw hw=>Sl rx fx r fs w<|by simpa using hw) ⟨.bl _,H,I,rfl,?_⟩;rw[show its.toArray.any (YU x)=its.any (YU x)by simp,P1 r fs];exact q
 .obtain⟨its,r,pl,hz⟩:=I.tuple hq;refine SeqAt.in_tupleAt (YU x) pl (λw hw=>Sl rx fx r fs w<|by simpa using hw) ⟨.bl _,H,I,rfl,?_⟩;rw[show its.toArray.any (YU x)=its.any (YU x)by simp,P1 r fs];exact q
def QeW:OpR X (compareOp .NotIn)<|XD X.K true:=by
 intro aa s σ H x y v u Q I rx ry h;obtain⟨p,xs,rfl,hq,fx,fs,q⟩:=h;cases ry;rcases hq with hq|hq
 .obtain⟨its,r,pl,hz⟩:=I.list hq;refine SeqAt.notIn_listAt (YU x) pl.isList (λw hw=>Sl rx fx r fs w<|by simpa using hw) ⟨.bl _,H,I,rfl,?_⟩;rw[show its.toArray.any (YU x)=its.any (YU x)by simp,P1 r fs];exact q
 .obtain⟨its,r,pl,hz⟩:=I.tuple hq;refine SeqAt.notIn_tupleAt (YU x) pl (λw hw=>Sl rx fx r fs w<|by simpa using hw) ⟨.bl _,H,I,rfl,?_⟩;rw[show its.toArray.any (YU x)=its.any (YU x)by simp,P1 r fs];exact q
def AW:CallR X (.builtin "len") λxs H Q=>∃p ys,xs=[.ref p]/\(SqL X.K H p ys\/SqT X.K H p ys)/\Q (.int ys.length) H:=by
 intro aa s σ H xs us Q I r h;obtain⟨p,ys,rfl,hq,q⟩:=h;obtain⟨u,rfl,rx⟩:=Wn r;cases rx;have hn:=TX;rcases hq with hq|hq;.obtain⟨its,r',pl,hz⟩:=I.list hq;have hlen:=r'.length;exact Calls.call_len_list pl.isList (by simp only[Jh]<;>omega) ⟨.int ys.length,H,I.tok _,⟨s.toks+1,by rw[Jh,hlen]⟩,q⟩
 .obtain⟨its,r',pl,hz⟩:=I.tuple hq;have hlen:=r'.length;exact len_tuple pl (by simp only[Jh]<;>omega) ⟨.int ys.length,H,I.tok _,⟨s.toks+1,by rw[Jh,hlen]⟩,q⟩
def AX:CallR X (.builtin "len") λxs H Q=>∃z,xs=[.str z]/\z.length<=sizeLine/\Q (.int z.length) H:=by intro aa s σ H xs us Q I r h;obtain⟨z,rfl,hz,q⟩:=h;obtain⟨u,rfl,t,rfl⟩:=Wn r;have hn:=TX;exact len_str (by omega) ⟨.int z.length,H,I.tok _,⟨_,rfl⟩,q⟩
def CallR.or{f:Value}{r r':List V->Hp->VK->Prop}(h:CallR X f r)(h':CallR X f r'):CallR X f λxs H Q=>r xs H Q\/r' xs H Q:=by
 intro aa s σ H xs us Q I rs q;rcases q with q|q;.exact h aa s σ H xs us Q I rs q
 .exact h' aa s σ H xs us Q I rs q
def AY:CallR X (.type "list") λxs H Q=>∃p ys,xs=[.ref p]/\(SqL X.K H p ys\/SqT X.K H p ys)/\∀l,H l=none->Q (.ref l) (upd H l<|.lst ys):=by
 intro aa s σ H xs us Q I r h;obtain⟨p,ys,rfl,hq,q⟩:=h;obtain⟨u,rfl,rx⟩:=Wn r;cases rx;have fin:∀(its:List Value),Vals ys its->ys.length<=sizeLine->∀(h':Heap)(c':Nat),(∀b o',s.heap.get? b=some o'->h'.get? b=some o')->h'.get? s.heap.objs.size=some {cls:=.type "list",dict:=none,data:=.seq its.toArray c',slots:=#[]}->EP X aa σ Q (.ref s.heap.objs.size) {s with heap:=h'}:=λits r' hz h' c' kp e=>⟨.ref s.heap.objs.size,_,I.laid (t':=s.toks) kp (Qm _)<|show ObjOk X.prog X.w _ h' _<|.lst ys from⟨hz,its,c',r',e⟩,rfl,q _<|I.hok.fresh<|Qm _⟩;rcases hq with hq|hq
 .obtain⟨its,r',pl,hz⟩:=I.list hq;have hlen:=r'.length;obtain⟨o,ho,hc,n,hd⟩:=pl.isList;exact call_list_seq p (.inl rfl) ho hc hd (λh' c' kp e=>fin its r' hz h' c' kp e)<|by simp only[Jh]<;>omega
 .obtain⟨its,r',pl,hz⟩:=I.tuple hq;have hlen:=r'.length;obtain⟨o,ho,hc,n,hd⟩:=pl;exact call_list_seq p (.inr rfl) ho hc hd (λh' c' kp e=>fin its r' hz h' c' kp e)<|by simp only[Jh]<;>omega
def Ki(K:W.Frag)(T:String)(x:V)(H:Hp):Prop:=match x with|.str _=>T="str"|.int _=>T="int"|.ref p=>(T="list"/\∃xs,SqL K H p xs)\/(T="tuple"/\∃o,K.lookup p=some o/\o.cls=.type "tuple"/\o.dict=none)\/T="dict"/\((∃aC,H p=some (.dK aC))\/∃aC,H p=some (.dT aC))\/T="set"/\∃S n,H p=some (.set S n)|_=>False
def BD{aa:List<|Addr×Obj}{σ:St}{H:Hp}{s:Shared}{T:String}{x:V}{v:Value}(I:Inv X aa σ H s)(r:RelV x v)(ty:Ki X.K T x H):s.TypeIs v T/\∀a,v=.ref a->∃ob,s.heap.get? a=some ob/\ob.dict=none:=by cases x with
 |str z=>obtain⟨t,rfl⟩:=r;cases show T="str"from ty;exact⟨typeIs_str s z t,λ_ e=>nomatch e⟩|int i=>obtain⟨t,rfl⟩:=r;cases show T="int"from ty;exact⟨typeIs_int s i t,λ_ e=>nomatch e⟩|ref p=>
  cases r;rcases ty with⟨rfl,xs,hq⟩|⟨rfl,o,hk,hc,hd⟩|⟨rfl,hk⟩|⟨rfl,S,n,hk⟩
  .obtain⟨its,_,pl,_⟩:=I.list hq;refine⟨pl.isList.typeIs,λa e=>?_⟩;cases e;obtain⟨o,n,e,c,hd,_⟩:=pl;exact⟨o,e,hd⟩
  .refine⟨⟨o,I.kIn p o hk,hc⟩,λa e=>?_⟩;cases e;exact⟨o,I.kIn _ o hk,hd⟩
  .have z:∃o,s.heap.get? p=some o/\o.ExactDict:=by
    rcases hk with⟨aC,hk⟩|⟨aC,hk⟩
    .obtain⟨_,_,_,_,o,_,_,e,ex,_⟩:=I.hok p _ hk;exact⟨o,e,ex⟩
    .obtain⟨_,_,_,_,o,_,_,e,ex,_⟩:=I.hok p _ hk;exact⟨o,e,ex⟩
   obtain⟨o,e,ex⟩:=z;refine⟨⟨o,e,ex.1⟩,λa e2=>?_⟩;cases e2;exact⟨o,e,ex.2.1⟩
  .obtain⟨o,_,_,_,e,ex,_⟩:=I.hok p _ hk;refine⟨⟨o,e,ex.1⟩,λa e2=>?_⟩;cases e2;exact⟨o,e,ex.2.1⟩|_=>exact False.elim ty
def QgM(K:W.Frag)(T:String)(r:V->List V->Hp->VK->Prop)(to:TE):TE:=λσ H Q=>to σ H λx H1=>Ki K T x H1/\r x [] H1 Q
def Vn(K:W.Frag)(T:String)(r:V->List V->Hp->VK->Prop)(to:TE)(t:TA):TE:=λσ H Q=>to σ H λx H1=>Ki K T x H1/\t σ H1 λxs H2=>r x xs H2 Q
variable{o e:Expr}{es:List Expr}{to:TE}{t:TA}{name:Str}{apos ax:Pos}{T id:String}{r:V->List V->Hp->VK->Prop}
def Qfc(pa:PlainAttrs T)(slot:Slot T name id)(eE:typeOf (.builtin id)=pure (.type "method_descriptor"))(hm:MtR X id r)(ho:PE X o to)(az:attributeBase o name X.env (eval o X.env)=eval o X.env:=by rfl)(aF:(apos.endLine==ax.line)=true:=by rfl):PE X (.Call (.Attribute o name apos) [] [] ax)<|QgM X.K T r to:=by intro aa s σ H Q I h;refine wpAny_Call_method0_late az aF<|Qd (ho aa s σ H _ I h) λv s1⟨x,H1,I1,r1,ty,q1⟩=>?_;obtain⟨h1,h2⟩:=BD I1 r1 ty;exact⟨T,id,pa,slot,eE,h1,h2,Calls.callWith_builtin rfl<|PySem.evalArgs_none<|hm aa s1 σ H1 x [] v [] Q I1 r1 .nil q1⟩
def YJ(pa:PlainAttrs T)(slot:Slot T name id)(eE:typeOf (.builtin id)=pure (.type "method_descriptor"))(hm:MtR X id r)(ho:PE X o to)(ha:PA X (e::es) t)(az:attributeBase o name X.env (eval o X.env)=eval o X.env:=by rfl)(cj:((backTo ax<|starEach (e::es) X.env).all (λx=>!x.1)&&(backToKw ax<|keywordEach [] X.env).all (λx=>x.1.isSome)&&decide ((e::es).length+([]:List Keyword).length+(if([]:List Keyword).isEmpty then 0 else 1)<30))=true:=by rfl)(aF:(apos.endLine==ax.line)=true:=by rfl)(hs:Wp X e es:=by rfl)(gc:WF X ax es:=by rfl):PE X (.Call (.Attribute o name apos) (e::es) [] ax)<|Vn X.K T r to t:=by intro aa s σ H Q I h;refine wpAny_Call_method_late az cj aF rfl<|Qd (ho aa s σ H _ I h) λv s1⟨x,H1,I1,r1,ty,q1⟩=>?_;obtain⟨h1,h2⟩:=BD I1 r1 ty;refine⟨T,id,pa,slot,eE,h1,h2,?_⟩;have hA:=ha ax aa s1 σ H1 _ I1 q1;rw[hs]at hA⊢;refine Calls.callWith_builtin (by show(false||(backTo ax<|starEach es X.env).any (·.1))=false;rw[gc]<;>rfl)<|Calls.evalArgs_plain ?_;exact Qd hA<|by rintro us s2⟨vs,H2,I2,r2,q2⟩;exact hm aa s2 σ H2 x vs v us Q I2 r1 r2 q2
end
def Ih(X:Cx)(id:String)(r:V->List V->Hp->VK->Prop):Prop:=∀(aa:List<|Addr×Obj)(s:Shared)(σ:St)(H:Hp)(x:V)(xs:List V)(v:Value)(us:List Value)(Q:VK),Inv X aa σ H s->RelV x v->Vals xs us->r x xs H Q->wpAny (model X.prog X.w) X.A (call (.builtin id)<|v::us) (EP X aa σ Q) X.xe s
def Vals.one{x:V}{us:List Value}(h:Vals [x] us):∃u,us=[u]/\RelV x u:=by cases h with|cons r t=>cases t;exact⟨_,rfl,r⟩
def Vals.two:∀{x y:V}{us:List Value},Vals [x,y] us->∃u v,us=[u,v]/\RelV x u/\RelV y v|_,_,_,.cons r (.cons q .nil)=>⟨_,_,rfl,r,q⟩
def Vals.zero:∀{us:List Value},Vals [] us->us=[]|_,.nil=>rfl
theorem Vals.dropLast{xs:List V}{us:List Value}(h:Vals xs us):Vals xs.dropLast us.dropLast:=by induction h with|nil=>exact .nil|cons r t ih=>cases t with|nil=>exact .nil|cons q t'=>exact .cons r ih
theorem Vals.rep{xs:List V}{us:List Value}(h:Vals xs us):∀k:Nat,Vals (List.replicate k xs).flatten (List.replicate k us).flatten|0=>.nil|k+1=>by rw[X9,X9,Uj,Uj];exact Vals.append h<|Vals.rep h k
theorem Fc(its:List Value):∀(k:Nat)(acc:List Value),List.foldl (λx1 x2=>x1++x2) acc.toArray (List.replicate k its.toArray)=(acc++(List.replicate k its).flatten).toArray
 |0,acc=>by simp|k+1,acc=>by
  have e:acc.toArray++its.toArray=(acc++its).toArray:=by simp
  have e2:acc++its++(List.replicate k its).flatten=acc++(List.replicate (k+1) its).flatten:=by rw[X9,Uj,Zw]
  rw[<-e2,<-Fc its k<|acc++its,<-e,X9,List.foldl_cons]
section
variable{X:Cx}{aa:List<|Addr×Obj}{σ:St}{H:Hp}{s:Shared}{l b:Addr}{xs ys zs:List V}
def Inv.lset{its its':List Value}{n:Nat}{f:Array Value->Array Value}{t':Nat}(I:Inv X aa σ H s)(hH:H l=some (.lst xs))(e:s.heap.get? l=some {cls:=.type "list",data:=.seq its.toArray n})(hf:f its.toArray=its'.toArray)(hv:Vals ys its')(hz:ys.length<=sizeLine):Inv X aa σ (upd H l<|.lst ys) {s with heap:=s.heap.update l<|Obj.mapSeq f,toks:=t'}:=by have q:=PySem.IsL.update e f;rw[hf]at q;refine I.write (x:=l) (e:=l) (by rw[hH];exact trivial) (.inl rfl) (λb' u hb hu=>(Heap.get?_update_other s.heap (Obj.mapSeq f)<|Ne.symm hb).trans hu) ⟨_,q⟩ ?_;exact⟨hz,its',_,hv,q⟩
def Inv.lnew{its:List Value}{t':Nat}(I:Inv X aa σ H s)(hv:Vals ys its)(hz:ys.length<=sizeLine):Inv X aa σ (upd H s.heap.objs.size<|.lst ys) {s with heap:=s.heap.push {cls:=.type "list",data:=.seq its.toArray},toks:=t'}:=I.laid (λ_ _ q=>Heap.get?_push_of_some _ q) (Qm _) ⟨hz,its,0,hv,Heap.get?_push_size _ rfl⟩
theorem Inv.fresh(I:Inv X aa σ H s):H s.heap.objs.size=none:=I.hok.fresh<|Qm _
def Inv.lstM(I:Inv X aa σ H s)(hH:H l=some (.lst xs)):xs.length<=sizeLine/\∃(its:List Value)(n:Nat),Vals xs its/\xs.length=its.length/\s.heap.get? l=some {cls:=.type "list",data:=.seq its.toArray n}:=by obtain⟨z,its,n,r,e⟩:=I.hok l _ hH;exact⟨z,its,n,r,r.length,e⟩
def Eg{n:Nat}(h:n<=sizeLine):Builtin.List.listTooLong n=false:=by unfold Builtin.List.listTooLong;exact J0<|by omega
end
section
variable{X:Cx}
def Vl:V->List V->Hp->VK->Prop:=λx vs H Q=>∃l xs y,x=.ref l/\vs=[y]/\H l=some (.lst xs)/\xs.length<sizeLine/\Q .non (upd H l<|.lst<|xs++[y])
def VC:Ih X "list.append" Vl:=by intro aa s σ H x vs v us Q I rx rv h;obtain⟨l,xs,y,rfl,rfl,hH,hz,q⟩:=h;cases rx;obtain⟨u,rfl,ru⟩:=rv.one;obtain⟨z,its,n,r,hl,e⟩:=I.lstM hH;refine call_meets F.slot_list_append ⟨_,e,rfl⟩ F.entry_list_append (F.args_list_append_2 _ _) (PySem.list_append l its.toArray n u<|by rw[Jh];omega) ⟨e,?_⟩;refine⟨.non,_,I.lset (its':=its++[u]) hH e (by simp) (r.append<|.cons ru .nil) ?_,rfl,q⟩;rw[JZ,RM];omega
def QfK:V->List V->Hp->VK->Prop:=λx vs H Q=>∃l b xs zs,x=.ref l/\vs=[.ref b]/\H l=some (.lst xs)/\H b=some (.lst zs)/\xs.length+zs.length<=sizeLine/\Q .non (upd H l<|.lst<|xs++zs)
def Qdd:Ih X "list.extend" QfK:=by
 intro aa s σ H x vs v us Q I rx rv h;obtain⟨l,b,xs,zs,rfl,rfl,hH,hB,hz,q⟩:=h;cases rx;obtain⟨u,rfl,ru⟩:=rv.one;cases ru;obtain⟨z,its,n,r,hl,e⟩:=I.lstM hH;obtain⟨z2,cF,n2,r2,gF,e2⟩:=I.lstM hB;have cW:its.toArray.size+cF.toArray.size<=sizeLine:=by rw[Jh,Jh];omega
 have dX:¬(!its.toArray.isEmpty&&Builtin.List.listTooLong (its.toArray.size+cF.toArray.size))=true:=by
  rw[Eg cW,Uk];exact VH
 refine call_meets F.slot_list_extend ⟨_,e,rfl⟩ F.entry_list_extend (F.args_list_extend_2 _ _) (AutoSeq1.list_extend_list_list_0 l its.toArray n b cF.toArray n2 dX (by rw[Jh];omega)<|by omega) ⟨e,e2,?_⟩;refine⟨.non,_,I.lset (its':=its++cF) hH e (by simp) (r.append r2) ?_,rfl,q⟩;rw[JZ];omega
def Lp:R2:=λx y H Q=>∃l b xs zs,x=.ref l/\y=.ref b/\H l=some (.lst xs)/\H b=some (.lst zs)/\xs.length+zs.length<=sizeLine/\∀p,H p=none->Q (.ref p) (upd H p<|.lst<|xs++zs)
def Er:OpR X (binaryOp .Add) Lp:=by
 intro aa s σ H x y v u Q I rx ry h;obtain⟨l,b,xs,zs,rfl,rfl,hH,hB,hz,q⟩:=h;cases rx;cases ry;obtain⟨z,its,n,r,hl,e⟩:=I.lstM hH;obtain⟨z2,cF,n2,r2,gF,e2⟩:=I.lstM hB;refine PySem.P.add_list e e2 ?_ (by rw[Jh,Jh];omega);have ea:its.toArray++cF.toArray=(its++cF).toArray:=by simp
 rw[ea];exact⟨.ref _,_,I.lnew (t':=s.toks) (r.append r2)<|by rw[JZ];omega,rfl,q _ I.fresh⟩
def Ls:R2:=λx y H Q=>∃l k xs,x=.ref l/\y=.int k/\H l=some (.lst xs)/\-2^63<=k/\k<2^63/\xs.length*k.toNat<=sizeLine/\∀p,H p=none->Q (.ref p) (upd H p<|.lst (List.replicate k.toNat xs).flatten)
def Qc2{α:Type}(xs:List α)(k:Nat):(List.replicate k xs).flatten.length=k*xs.length:=by induction k with|zero=>simp|succ k ih=>rw[X9,Uj,JZ,ih,Nat.succ_mul,Nat.add_comm]
def QeY:OpR X (binaryOp .Mult) Ls:=by
 intro aa s σ H x y v u Q I rx ry h;obtain⟨l,k,xs,rfl,rfl,hH,h1,h2,hz,q⟩:=h;cases rx;obtain⟨t,rfl⟩:=ry;obtain⟨z,its,n,r,hl,e⟩:=I.lstM hH;have hlen:its.toArray.size*k.toNat<=sizeLine:=by rw[Jh,<-hl];exact hz
 have j7:¬its.toArray.size*k.toNat>(2^63-1)/8:=by
  have:(sizeLine:Nat)<=(2^63-1)/8:=by decide
  omega
 have j4:¬(!Builtin.List.listFitsIndex k)=true:=by
  rw[fitsIndex_both h1 h2];exact VH
 have dX:¬Builtin.List.listTooLong (its.toArray.size*k.toNat)=true:=by rw[Eg hlen];exact VH
 have jW:List.foldl (λx1 x2=>x1++x2) #[] (List.replicate (if its.toArray.isEmpty=true then 0 else k.toNat) its.toArray)=(List.replicate k.toNat its).flatten.toArray:=by
  have f0:∀m:Nat,List.foldl (λx1 x2=>x1++x2) #[] (List.replicate m its.toArray)=(List.replicate m its).flatten.toArray:=λm=>by
   have:=Fc its m [];rw[nil_append]at this;exact this
  rw[f0];cases its with|nil=>simp|cons a r'=>rw[if_neg<|by simp]
 refine wpAny_binaryOp_repeat_ref (T:="list") (U:="int") (by decide) ⟨_,e,rfl⟩ (λs'=>typeIs_int s' k t) noFill_list_mul F.fills_int_mul F.slot_int_rmul repeat_list F.slot_int_index.lookup<|call_meets F.slot_int_rmul (typeIs_int s k t) F.entry_int_rmul (F.args_int_rmul_2 _ _) (int___rmul___int_list k t l its.toArray n) ⟨e,rfl,⟨_,e,rfl⟩,call_meets F.slot_list_mul ⟨_,e,rfl⟩ F.entry_list_mul (F.args_list_mul_2 _ _) (AutoListH.list___mul___list_int_3 l its.toArray n k t j4 j7 dX) ⟨e,?_⟩⟩;rw[jW];exact⟨.ref _,_,I.lnew (t':=s.toks) (r.rep k.toNat)<|by rw[Qc2,Nat.mul_comm];exact hz,rfl,q _ I.fresh⟩
end
end L2
namespace Att
open PySem PySem.W PySem.Calls PyProof.Rows
def Qcb{P:Params}{h:Heap}:∀(ns:List Int)(vs:List Value),WellAll P h vs (ns.map WData.int)->IntsAre vs ns:=by intro ns;induction ns with|nil=>intro vs w;rw[map_nil]at w;cases w;exact .nil|cons n ns ih=>intro vs w;rw[YK]at w;cases w with|cons a b=>cases a;exact .cons _ _<|ih _ b
def Qge{l:OpenLaw}{n:Nat}(hn:l.most=some n){P:Params}{h:Heap}{args:List WData}{vals:List Value}(eP:l.row.toRowW.claim.pre args=true)(i7:WellAll P h vals args):∃a vs ns,vals=[Value.ref a]/\args=[WData.list<|ns.map WData.int]/\h.get? a=some {cls:=.type "list",data:=.seq vs.toArray}/\IntsAre vs ns/\ns.length<=n:=by
 have cM:WShape.hasAll [] args [.list .int]=true:=(pre_splitW eP).1;have hc:l.pre.holds [] {args:=args}=true:=(pre_splitW eP).2;obtain⟨d,r,rfl,h1,h2⟩:=hasAllW_cons cM;obtain rfl:=hasAllW_nil h2;obtain⟨xs,rfl,h3⟩:=hasW_list h1;obtain⟨ns,rfl⟩:=items_int h3;have hlen:ns.length<=n:=by
  unfold OpenLaw.pre at hc;have h4:(WTm.not<|.lt (.lit<|.int (n:Int))<|.len<|.arg 0).holds [] {args:=[.list<|ns.map .int]}=true:=by
   have h4:=(holds_andW hc).1;rw[hn]at h4;exact h4
  have h5:=condW_of h4<|w_not<|w_lt w_lit<|w_len_list<|w_arg rfl;rw[Qr]at h5;refine Nat.le_of_not_lt λq=>?_;have q':(n:Int)<((ns.length:Nat):Int):=by omega
  first
   |(rw[J2 q']at h5;exact absurd h5<|by decide)|(simp at h5;omega)
 cases i7 with|cons w1 w2=>cases w2;cases w1 with|list ho f9=>exact⟨_,_,ns,rfl,rfl,ho,Qcb ns _ f9,hlen⟩
def Qfy(l:OpenLaw)(args:List WData):l.row.toRowW.claim.post args (.bool true) args=true:=postW_of (r:=l.row.toRowW) (X:=true==true) (show WShape.has [] (.bool true) .bool=true by first|rfl|decide|simp[WShape.has,WShape.arms,WShape.armsAll]) (show(WTm.eq .res<|.lit<|.bool true).value [] {args:=args,res:=some<|.bool true,after:=args}=some (.bool<|true==true)from w_eq_bool (w_res rfl) w_lit) rfl
def attach_call{l:OpenLaw}{n:Nat}{q:Program}{loose:List Str}{XP:(Str->Option Value)->Heap->Prop}{YP:World->Heap->Prop}{d:DefRec}(hn:l.most=some n)(gK:d.params.defaults=[])(call:∀(w:World)(s₀ s₁:Shared)(mg mb:Str->Option Value)(fa:Addr)(o:Obj)(pm cd doc:Value)(a:Addr)(vs:List Value)(ns:List Int),Ground q loose [] XP w s₀ mg mb s₁.heap->YP w s₁.heap->s₁.heap.get? fa=some o->o.data=.func (docDef d.name d.params d.body d.scope pm cd doc)->s₁.heap.CodeRec cd d.name->mg d.name=some (.ref fa)->s₁.heap.get? a=some {cls:=.type "list",data:=.seq vs.toArray}->IntsAre vs ns->ns.length<=n->s₁.gens=#[]->codeAny (model l.prog w) callerA (.call (.ref fa) ⟨[.ref a],[]⟩) (λr s'=>r=.ok (.ret<|.bool true)/\OldK s₁.heap s'.heap/\s'.os=s₁.os/\AllBare s'.gens) s₁):WalkO q loose XP YP l.row.toRowW d [] λf vs=>PySem.call f vs:=by intro w s₀ s₁ mg mb G Y fa o pm cd doc dV kV ho hd bE hD gE hg args vals as eP oH hrd i7 iH;obtain rfl:dV=.none:=Dflts.none hD gK;obtain rfl:kV=.none:=Dflts.noKw hD;obtain⟨a,vs,ns,rfl,rfl,fZ,hints,hlen⟩:=Qge hn eP i7;refine enter_call<|codeAny_mono (call w s₀ s₁ mg mb fa o pm cd doc a vs ns G Y ho (fd_plain hd) bE gE fZ hints hlen hg) λr s' hq=>?_;obtain⟨rfl,h2,h3,h4⟩:=hq;exact⟨.inl ⟨.bool true,.bool true,[],rfl,λ_=>rfl,.bool true,Qfy l _,λ_=>⟨List.Pairwise.nil,λ_ hm=>nomatch hm⟩⟩,h2,h3,h4⟩
end Att
namespace L2
open PySem PySem.Spec PyProof.Rows
def Qhf{vs:List Value}{ns:List Int}(h:IntsAre vs ns):Vals (ns.map V.int) vs:=by induction h with|nil=>exact .nil|cons n t h ih=>exact .cons ⟨t,rfl⟩ ih
def Nd(H:Hp):Prop:=∀b,H b=none\/∃o xs,H b=some (.frz o<|.lst xs)
def QcR{P:Program}{w:World}{K:W.Frag}{mg mb:Str->Option Value}{CX:YO}{k:Nat}{fa a:Addr}{fd:FuncData}{x:Str}{sp:Sp}{s₁:Shared}{vs:List Value}{ns:List Int}(KX:K.In s₁.heap)(dH:s₁.heap.Ns mainGlobals mg)(hb:s₁.heap.Ns builtinsNs mb)(nI:∀x:Str,x≠"__name__"->mb x=bootBuiltins x)(jY:s₁.heap.NoLimit)(hg:s₁.gens=#[])(ha:s₁.heap.get? a=some {cls:=.type "list",data:=.seq vs.toArray})(hi:IntsAre vs ns)(hl:ns.length<=sizeLine)(hr:Room k callerA)(F:∀ae:Heap,K.In ae->ae.Ns mainGlobals mg->FnOk P w K mg ae CX k fa fd [x] sp)(ia:∀(s:Shared)(u:Value),BindsTo s fd ⟨[u],[]⟩ [(x,u)])(cX:∀H:Hp,Nd H->SqL K H a (ns.map V.int)->sp [.ref a] H (λv _=>v=.bl true) λ_ _ _=>False)(jz:∀H e s',CX [] H s₁ (λ_ _ _=>False) e s'->False):codeAny (model P w) callerA (.call (.ref fa) ⟨[.ref a],[]⟩) (λr s'=>r=.ok (.ret<|.bool true)/\OldK s₁.heap s'.heap/\s'.os=s₁.os/\AllBare s'.gens) s₁:=by
 have rv:=Qhf hi;have jO:=hi.length;have core:∀H:Hp,Nd H->SqL K H a (ns.map V.int)->HOk P w H s₁.heap->(∀b,H b≠none->b=a)->(H a≠none->K.lookup a=none)->codeAny (model P w) callerA (.call (.ref fa) ⟨[.ref a],[]⟩) (λr s'=>r=.ok (.ret<|.bool true)/\OldK s₁.heap s'.heap/\s'.os=s₁.os/\AllBare s'.gens) s₁:=by
  intro H hO hS hok hA hK;have dj:∀{b:Addr}{o:Obj},s₁.heap.get? b=some o->H b=none->(Wv s₁.heap H).get? b=some o:=λe n=>QbU e n;have gy:∀{b:Addr}{o:Obj}{es:Array DictEntry}{ep:Nat},s₁.heap.get? b=some o->o.data=.dict es ep->H b=none:=λ{b o es ep}e d=>by cases q:H b with|none=>rfl|some u=>
    have e':b=a:=hA b (by rw[q];simp);subst e';rw[ha]at e;cases e;have d':Data.seq vs.toArray _=Data.dict es ep:=d;cases d'
  have iw:∀{b:Addr}{m:Str->Option Value},s₁.heap.Ns b m->(Wv s₁.heap H).Ns b m:=λ{b m}⟨o,es,ep,e,d,r⟩=>⟨o,es,ep,dj e<|gy e d,d,r⟩;have kW:K.In<|Wv s₁.heap H:=λb o e=>dj (KX b o e) (by cases q:H b with
   |none=>rfl|some u=>have e':b=a:=hA b (by rw[q];simp);subst e';rw[hK<|by rw[q];simp]at e;cases e);have hM:Mod K mg<|Wv s₁.heap H:=⟨kW,iw dH,⟨mb,iw hb,nI⟩,let⟨mc,h1,h2⟩:=jY;⟨mc,iw h1,h2⟩⟩;have e0:Env0 P w K mg (Wv s₁.heap H) callerA [] s₁ H:=⟨rfl,hM,λb o e=>Qdy e,Nat.le_of_eq<|QbV _ _,trivial,λb hb=>absurd (show b∈([]:List Addr)from hb)<|by simp,hok,.of_eq hg⟩;refine codeAny_mono ((F _ kW<|iw dH).run callerA [] s₁ H ⟨[.ref a],[]⟩ [.ref a] [.ref a] _ _ hr e0 (ia s₁<|.ref a) (.cons rfl .nil)<|cX H hO hS) λr s' h=>?_;cases r with|error e=>exact(jz H e s' h).elim|ok fl=>cases fl with
   |next=>exact False.elim h|brk=>exact False.elim h|cont=>exact False.elim h|ret u=>
    obtain⟨v,H',os,bare,un,jU,r',q⟩:=h;have q':v=.bl true:=q;subst q';obtain rfl:u=Value.bool true:=r';refine⟨rfl,OldK.of_keep λb o e=>?_,os,bare⟩;cases q:H b with|none=>exact un.keep b o e q (by intro z;exact absurd (show b∈([]:List Addr)from z)<|by simp)<|by simp|some u=>
     rcases hO b with z|⟨ob,xs,z⟩;.rw[q]at z;cases z
     .have z2:=un.frzs b ob _ z;obtain⟨e1,_⟩:=hok b _ z;obtain⟨e2,_⟩:=jU b _ z2;rw[e]at e1;cases e1;exact e2
 cases hk:K.lookup a with
 |some o=>
  have e:=KX a o hk;rw[ha]at e;cases e;refine core (λ_=>none) (λ_=>.inl rfl) (.inr ⟨_,vs.toArray,_,hk,rfl,rfl,rfl,by rw[Jh,jO];exact hl,by simpa using rv⟩) (λb u z=>by have z':(none:Option HO)=some u:=z;cases z') (λb z=>absurd rfl z) λz=>absurd rfl z|none=>
  refine core (λb=>if b=a then some<|.frz {cls:=.type "list",data:=.seq vs.toArray}<|.lst<|ns.map V.int else none) (λb=>?_) (.inl<|.inr ⟨{cls:=.type "list",data:=.seq vs.toArray},if_pos rfl⟩) (λb u z=>?_) (λb z=>?_) λ_=>hk
  .by_cases hb:b=a;.exact .inr ⟨_,_,if_pos hb⟩
   .exact .inl<|if_neg hb
  .by_cases hb:b=a
   .have z':=(if_pos hb).symm.trans z;cases z';subst hb;exact⟨ha,by rw[Qr];exact hl,vs,_,rv,ha⟩
   .have z':=(if_neg hb).symm.trans z;cases z'
  .by_cases hb:b=a;.exact hb
   .exact absurd (if_neg hb) z
def walk_of{l:W.OpenLaw}{n k:Nat}{q:Program}{loose:List Str}{XP:(Str->Option Value)->Heap->Prop}{YP:World->Heap->Prop}{d:DefRec}{K:Params->W.Frag}{CX:World->YO}{sp:World->Sp}{x:Str}(hn:l.most=some n)(eW:n<=sizeLine)(gK:d.params.defaults=[])(hr:Room k callerA)(hY:∀(w:World)(h:Heap),YP w h->(K w.params).In h)(F:∀(w:World)(mg:Str->Option Value)(fa:Addr)(h:Heap),(K w.params).In h->h.Ns mainGlobals mg->mg d.name=some (.ref fa)->∃fd:FuncData,(∀(s:Shared)(u:Value),BindsTo s fd ⟨[u],[]⟩ [(x,u)])/\∀ae:Heap,(K w.params).In ae->ae.Ns mainGlobals mg->FnOk l.prog w (K w.params) mg ae (CX w) k fa fd [x] (sp w))(cX:∀(w:World)(H:Hp)(a:Addr)(ns:List Int),ns.length<=n->Nd H->SqL (K w.params) H a (ns.map V.int)->sp w [.ref a] H (λv _=>v=.bl true) λ_ _ _=>False)(jz:∀(w:World)(H:Hp)(s:Shared)(e:Value)(s':Shared),CX w [] H s (λ_ _ _=>False) e s'->False):W.WalkO q loose XP YP l.row.toRowW d [] λf vs=>PySem.call f vs:=by refine Att.attach_call hn gK λw s₀ s₁ mg mb fa o pm cd doc a vs ns G Y ho hd bE gE fZ hints hlen hg=>?_;have KX:=hY w _ Y;obtain⟨fd,hb,hF⟩:=F w mg fa _ KX G.T.g gE;exact QcR KX G.T.g G.T.b G.T.builtins G.T.nolimit hg fZ hints (ZU hlen eW) hr hF hb (λH hO hS=>cX w H a ns hlen hO hS) λH e s'=>jz w H s₁ e s'
noncomputable def QhC(s:Stmt)(j:Nat):Stmt:=match s with|.ClassDef _ _ _ body _ _ _ _ _ _ _=>body.getD j<|.Pass ⟨0,0,0,0⟩|_=>.Pass ⟨0,0,0,0⟩
noncomputable def YS(s:Stmt):Arguments:=match s with|.FunctionDef _ a _ _ _ _ _ _ _ _=>a|_=>{posonlyargs:=[],args:=[],vararg:=none,kwonlyargs:=[],kw_defaults:=[],kwarg:=none,defaults:=[]}
noncomputable def Ju(s:Stmt):List Stmt:=match s with|.FunctionDef _ _ b _ _ _ _ _ _ _=>b|_=>[]
noncomputable def QN(s:Stmt):Scope:=match s with|.FunctionDef _ _ _ _ _ _ sc _ _ _=>sc|_=>{kind:=.function,names:=[],isGenerator:=false,isCoroutine:=false}
abbrev J9:YO:=λ_ _ _ _ _ _=>False
abbrev E0:XK:=λ_ _ _=>False
def Lf{X:Cx}:Ng J9 X E0:=λ_ _ _ _ _ _ _ h=>h.elim
structure Fun(K:W.Frag)(x qual:Str)(st:Stmt)(f:Addr)(fd:FuncData):Prop where
 ex:∃(oc:Value)(od:Option Addr)(kV doc pm:Value)(an:Option Addr)(ah ct:Value)(osl:Array<|Option Value),fd=W.fnOf x qual (YS st) (Ju st) (QN st) .none kV doc pm an ah ct/\K.lookup f=some ⟨oc,od,.func fd,osl⟩/\W.codeIn K ah qual=true
 kp:W.keepIn K (.ref f)=true
section
variable{P:Program}{w:World}{K:W.Frag}{mg:Str->Option Value}{ae:Heap}
def Fun.ok{x qual:Str}{st:Stmt}{f:Addr}{fd:FuncData}{N ps:List Str}{k:Nat}{sp:Sp}(F:Fun K x qual st f fd)(S:FnScope N ps<|QN st)(len:∀vs H Q E,sp vs H Q E->vs.length=ps.length)(bH:∀(ah:Value)(A:Around)(af:List Env)(s:Shared)(H:Hp)(vs:List V)(Q:VK)(E:XK),Room k (A.deeper<|envOfC qual (QN st) s.heap.objs.size f ah)->sp vs H Q E->∃t,PSs (JK J9 P w K mg ae N qual (QN st) f ah A af s H E).nox (Ju st) t/\t {nx:=λ_ H'=>Q .non H',rt:=Q} (ZV N vs) H):FnOk P w K mg ae J9 (k+1) f fd ps sp:=by obtain⟨oc,od,kV,doc,pm,an,ah,ct,osl,rfl,lk,bE⟩:=F.ex;refine FY lk bE S len λA af s H vs Q E hr cX=>?_;obtain⟨t,h,q⟩:=bH ah A af s H vs Q E hr cX;exact⟨t,h.nox,q⟩
def Fun.binds{x qual:Str}{st:Stmt}{f:Addr}{fd:FuncData}{ps:List Str}(F:Fun K x qual st f fd)(h:∀(kV doc pm:Value)(an:Option Addr)(ah ct:Value)(us:List Value),us.length=ps.length->bindArgs (W.fnOf x qual (YS st) (Ju st) (QN st) .none kV doc pm an ah ct) ⟨us,[]⟩=pure (ps.zip us)):Binds K fd ps []:=by obtain⟨oc,od,kV,doc,pm,an,ah,ct,osl,rfl,lk,bE⟩:=F.ex;exact .all<|h kV doc pm an ah ct
def Mv{x qual:Str}{st:Stmt}{f:Addr}{oc:Value}{od an:Option Addr}{osl:Array<|Option Value}{kV doc pm ah ct:Value}(l:K.lookup f=some ⟨oc,od,.func<|W.fnOf x qual (YS st) (Ju st) (QN st) .none kV doc pm an ah ct,osl⟩)(c:W.codeIn K ah qual=true)(k:W.keepIn K (.ref f)=true):Fun K x qual st f<|W.fnOf x qual (YS st) (Ju st) (QN st) .none kV doc pm an ah ct:=⟨⟨oc,od,kV,doc,pm,an,ah,ct,osl,rfl,l,c⟩,k⟩
end
def ZI{A B:Prop}(h:B):if false=true then A else B:=by rw[if_neg VH];exact h
def ZP{A B:Prop}(h:A):if true=true then A else B:=by rw[if_pos rfl];exact h
section
variable{κ:Type}[DecidableEq κ]
noncomputable def Tu(aC:List<|κ×V)(k:κ):Option V:=(aC.find? λkv=>decide<|kv.1=k).map (·.2)
noncomputable def DG(aC:List<|κ×V)(k:κ)(v:V):List<|κ×V:=if(aC.any λkv=>decide<|kv.1=k)=true then aC.map λkv=>if kv.1=k then(kv.1,v)else kv else aC++[(k,v)]
noncomputable def FK(aC:List<|κ×V)(k:κ):List<|κ×V:=aC.filter λkv=>decide<|kv.1≠k
def Qhd{p:κ×V}{r:List<|κ×V}{k:κ}(e:p.1=k):Tu (p::r) k=some p.2:=by simp[Tu,find?_cons,e]
def Qhc{p:κ×V}{r:List<|κ×V}{k:κ}(e:¬p.1=k):Tu (p::r) k=Tu r k:=by simp[Tu,find?_cons,e]
theorem RelO.getD{o:Option V}{u:Option Value}{d:V}{d':Value}(r:RelO o u)(rd:RelV d d'):RelV (o.getD d)<|u.getD d':=by cases o with
 |none=>cases u with
  |none=>exact rd|some _=>exact(show False from r).elim
 |some _=>cases u with|none=>exact(show False from r).elim|some _=>exact r
def KV.val{aC:List<|κ×V}{vs:List<|κ×Value}(r:KV aC vs)(k:κ):RelO (Tu aC k)<|valueAt vs k:=by unfold KV at r;induction r with|nil=>exact True.intro|@cons p q ps qs h t ih=>
  obtain⟨h1,h2⟩:=h;by_cases e:p.1=k
  .have e':q.1=k:=h1.symm.trans e;have b:valueAt (q::qs) k=some q.2:=by simp[valueAt,find?_cons,e']
   rw[Qhd e,b];exact h2
  .have e':¬q.1=k:=λz=>e<|h1.trans z;have b:valueAt (q::qs) k=valueAt qs k:=by simp[valueAt,find?_cons,e']
   rw[Qhc e,b];exact ih
theorem KV.any{aC:List<|κ×V}{vs:List<|κ×Value}(r:KV aC vs)(k:κ):(aC.any λkv=>decide<|kv.1=k)=vs.any λkv=>decide<|kv.1=k:=by unfold KV at r;induction r with|nil=>rfl|cons h t ih=>rw[any_cons,any_cons,ih,h.1]
def KV.repl{aC:List<|κ×V}{vs:List<|κ×Value}(r:KV aC vs)(k:κ){y:V}{u:Value}(ry:RelV y u):KV (aC.map λkv=>if kv.1=k then(kv.1,y)else kv)<|vs.map λkv=>if kv.1=k then(kv.1,u)else kv:=by unfold KV at r⊢;induction r with|nil=>exact .nil|@cons p q ps qs h t ih=>
  rw[YK,YK];refine .cons ?_ ih;obtain⟨h1,h2⟩:=h;by_cases e:p.1=k;.rw[if_pos e,if_pos<|h1.symm.trans e];exact⟨h1,ry⟩
  .rw[if_neg e,if_neg λz=>e<|h1.trans z];exact⟨h1,h2⟩
def KV.put{aC:List<|κ×V}{vs:List<|κ×Value}(r:KV aC vs)(k:κ){y:V}{u:Value}(ry:RelV y u):KV (DG aC k y)<|stored vs k u:=by
 unfold DG stored;rw[r.any k];by_cases e:(vs.any λkv=>decide<|kv.1=k)=true;.rw[if_pos e,if_pos e];exact r.repl k ry
 .rw[if_neg e,if_neg e];exact Paired.snoc r ⟨rfl,ry⟩
def KV.drop{aC:List<|κ×V}{vs:List<|κ×Value}(r:KV aC vs)(k:κ):KV (FK aC k)<|without vs k:=by unfold KV at r⊢;unfold FK without;induction r with|nil=>exact .nil|@cons p q ps qs h t ih=>
  obtain⟨h1,h2⟩:=h;rw[List.filter_cons,List.filter_cons];by_cases e:p.1=k
  .have a:¬decide (p.1≠k)=true:=by simp[e]
   have b:¬decide (q.1≠k)=true:=by simp[h1.symm.trans e]
   rw[if_neg a,if_neg b];exact ih
  .have e':¬q.1=k:=λz=>e<|h1.trans z;have a:decide (p.1≠k)=true:=by simp[e]
   have b:decide (q.1≠k)=true:=by simp[e']
   rw[if_pos a,if_pos b];exact .cons ⟨h1,h2⟩ ih
theorem KV.length{aC:List<|κ×V}{vs:List<|κ×Value}(r:KV aC vs):aC.length=vs.length:=Paired.length r
end
end L2
namespace Wd
open PySem
noncomputable def An(s:Stmt):List Stmt:=match s with|.ClassDef _ _ _ b _ _ _ _ _ _ _=>b|_=>[]
end Wd
namespace My
open PySem Wd
noncomputable def Qw(i:Nat):Stmt:=PySem.Challenge.pw_leastbook_k28_rows_looked_at.main.body.getD i<|.Pass ⟨0,0,0,0⟩
abbrev RW:Stmt:=(An<|Qw 8).getD 0<|.Pass ⟨0,0,0,0⟩
end My
namespace Hd
open PySem PySem.W PySem.Calls PyProof.Rows My L2
def Qbx(t:Thread):(endAt 0 t).isSome=through t:=by obtain⟨cur,code,pos,st⟩:=t;cases st with
 |nil=>cases cur with
  |pure x=>cases x<;>rfl|_=>rfl
 |cons a b=>rfl
def Qgm{tb:String->Option Builtin}{p:Program}{w:World}{n₀:Nat}{ann:Option Value}{n:Nat}{s s':Shared}{t:Thread}{f:Flow}{c:Code}{q:Pos}(h:segRun tb p w n₀ ann 0 n s t=some (f,s',c,q)):topRun tb p w n₀ ann n s t=some s':=by induction n generalizing s t with|zero=>contradiction|succ n ih=>unfold segRun at h;unfold topRun;rw[<-Qbx];cases he:endAt 0 t with|some g=>rw[he]at h;exact congrArg (Option.map λr:Flow×Shared×Code×Pos=>r.2.1) h|none=>rw[he]at h;cases hk:stepOk n₀ ann t with|false=>rw[hk]at h;contradiction|true=>rw[hk]at h;cases hs:step (denote tb) p w s t with|halt o s₂=>rw[hs]at h;contradiction|go s₂ t₂=>rw[hs]at h;exact ih h
noncomputable def T0(P:Params):BT:=(boot_heap P).objs.toList.foldl (λx o=>(x.1.ins x.2 o,x.2+1)) (BT.nil,0)|>.1
noncomputable def XH(w:World)(os:OsState):SharedT:=⟨T0 w.params,11,{},Array.mk [],boot_drawn,boot_toks,os⟩
def Cn(w:World)(os:OsState):(XH w os).abs=⟨boot_heap w.params,Array.mk [],boot_drawn,boot_toks,os⟩:=by kernel_rfl
noncomputable def runs(p:Program)(M:Nat)(w:World)(os:OsState):Option Shared:=(segRunT treeTable p w 11 (some<|.ref 6) 0 M (XH w os)<|topStub p).map λr=>r.2.1.abs
noncomputable def chk(p:Program)(w:World)(s:Shared):Bool:=staticsOk (importedModules p.main.body) (boot_heap w.params) s.heap&&namesBound p s.heap&&gensDone s&&laidKept (boot_heap w.params) s.heap
def left{p q:Program}{loose:List Str}{Xt:Shared->Bool}{α:Type}{Yf:Shared->α}{Ya:World->α}{N:Nat}{g0:Bool}{M:Nat}(e:opening p=plainProg p.main.scope.names)(f:∀s,fenceModules? p s=some s)(hN:Nat.ble 600 N=true)(le:Nat.ble M N=true)(size:∀w:World,((boot_heap w.params).isNs mainGlobals,(boot_heap w.params).objs.size,(boot_heap w.params).nsMap mainGlobals "__annotations__")=(true,11,some<|.ref 6))(ra:∀(w:World)(os:OsState),(runs p M w os).map (chk p w)=some true)(rb:∀(w:World)(os:OsState),(runs p M w os).map (openSeen q loose (importedModules p.main.body) Xt g0)=some (openGood q loose))(rc:∀(w:World)(os:OsState),(runs p M w os).map Yf=some (Ya w)):LeftO p q loose Xt Yf Ya N g0:=λw=>by
 obtain⟨u,e1,e2⟩:=q_65.mp<|boot_open e hN f w;obtain⟨v,r1,l1⟩:=q_65.mp<|ra w u.os;obtain⟨⟨_,v',_⟩,r2,r3⟩:=q_65.mp r1;have l2:=rb w u.os;have l3:=rc w u.os;rw[r1]at l2 l3;have hu:u=(XH w u.os).abs:=by
  rw[Cn];cases u;cases e2;rfl
 have go:=topRun_mono (N-M) _ _ _ _<|Qgm<|segRun_of r2;rw[Nat.add_sub_of_le<|Nat.le_of_ble_eq_true le]at go;have t:topFrom treeTable p w N u=some v:=by
  have z:=size w;simp only[Prod.mk.injEq]at z;rw[hu];unfold topFrom;rw[Cn]at go⊢;simp only[z.1,z.2.1,z.2.2,go];simp only[<-r3]at l1⊢;unfold chk at l1;simp[l1]
 simp only[openEnds,e1,bind_some,t,map_some];rw[Q5 l2,Q5 l3]
noncomputable abbrev p:=PySem.Challenge.pw_leastbook_k28_rows_looked_at
noncomputable section
noncomputable def LR(s:Stmt):Str:=match s with|.FunctionDef n _ _ _ _ _ _ _ _ _=>n|_=>""
def Qfx(s:Stmt):Pos:=match s with|.FunctionDef _ _ _ _ _ _ _ _ _ p=>p|_=>⟨0,0,0,0⟩
noncomputable abbrev m0:Value:=.str "leastbook.books" 373
noncomputable abbrev m1:Value:=.str "leastbook.texts" 389
noncomputable abbrev m2:Value:=.str "law_leastbook_k28_rows_looked_at" 583
def tb:List<|Nat×Nat×Nat×Nat×Nat×Value:=[(10,160,375,379,1),(11,167,382,386,1)].map (λx=>(x.1,x.2.1,x.2.2.1,x.2.2.2.1,x.2.2.2.2,m0))++[(13,172,391,394,0),(14,179,397,405,1),(15,184,408,411,0),(16,191,414,422,1),(17,198,425,429,1),(18,203,432,435,0),(19,210,438,442,1),(20,217,445,449,1),(21,224,452,456,1),(22,231,459,463,1),(23,238,466,470,1),(24,245,473,478,1),(25,252,481,486,1),(26,259,489,494,1),(27,266,497,502,1),(28,273,505,509,1),(29,280,512,518,1),(30,287,521,526,1),(31,294,529,533,1),(32,301,536,541,1),(33,308,544,548,1),(34,315,551,556,1),(35,322,559,564,1),(36,327,567,570,0),(37,334,573,580,1)].map (λx=>(x.1,x.2.1,x.2.2.1,x.2.2.2.1,x.2.2.2.2,m1))++[(39,341,585,596,1),(40,348,599,605,1),(41,355,608,616,1),(42,362,619,624,1),(43,369,627,632,1),(44,374,635,638,0),(45,379,641,644,0),(46,384,647,650,0),(47,391,653,661,1),(48,396,664,667,0),(49,403,670,674,1),(50,408,677,680,0),(51,413,683,686,0),(52,420,689,694,1),(53,425,697,700,0),(54,430,703,706,0),(55,437,709,714,1),(56,444,717,722,1),(57,451,725,730,1),(58,458,733,739,1),(59,465,742,750,1),(60,472,753,759,1),(61,479,762,769,1),(62,486,772,777,1),(63,493,780,788,1),(64,498,791,794,0),(65,505,797,803,1),(66,510,806,809,0)].map λx=>(x.1,x.2.1,x.2.2.1,x.2.2.2.1,x.2.2.2.2,m2)
noncomputable def en(P:Params)(x:Str)(t:Nat)(v:Value):DictEntry:=⟨PyData.keyHash P x,.str x t,v⟩
def ns(P:Params):List DictEntry:=[en P "__name__" 165<|.str "law_leastbook_k28_rows_looked_at" 583,en P "__doc__" 166<|.none,en P "__package__" 167<|.none,en P "__loader__" 168<|.builtin "__main__.__loader__#opaque",en P "__spec__" 169<|.none,en P "__annotations__" 170<|.ref 6,en P "__builtins__" 171<|.ref 4,en P "__file__" 173<|.str "/claim/cut.py" 172,en P "__cached__" 174<|.none,en P "BookError" 206<|.ref 24,en P "NoStyle" 222<|.ref 37,en P "TooWide" 247<|.ref 56,en P "TooHigh" 272<|.ref 75,en P "Twice" 297<|.ref 94,en P "Loose" 322<|.ref 113,en P "NoLabel" 347<|.ref 132,en P "NoRow" 372<|.ref 151]++((tb.drop 0).take 55).map λr=>en P (LR<|Qw r.1) (r.2.2.2.1+2)<|.ref r.2.1
def ob(r:Nat×Nat×Nat×Nat×Nat×Value):List<|Nat×Obj:=let(i,f,t,u,b,m):=r
 let s:=Qw i
 let x:=LR s
 let l:Value:=.int (Qfx s).line 0
 let c:Str:="/claim/cut.py"
 let n:Value:=.int 0 0
 [(f-1,⟨.type "code",none,.fields #[.str x t,.str x<|t+1,.str c<|t+2,l,.int (YS s).args.length 0,n,n,.int 3 0,.ref<|if b=1 then f-6 else f-4,.bool true,.int 181 0,.ref<|if b=1 then f-5 else f-3,.none,if b=1 then .ref<|f-4 else .none,if b=1 then .ref<|f-3 else .none,.ref<|f-2,.int u 0,l,.str c<|u+1],#[]⟩),(f,⟨.type "function",none,.func<|fnOf x x (YS s) (Ju s) (QN s) .none .none .none m none (.ref<|f-1) .none,#[]⟩)]
def xk(P:Params):List<|Nat×Obj:=[(2,⟨.none,none,.dict #[] 0,#[]⟩),(24,⟨.type "type",none,.cls {name:="BookError",bases:=[.type "ValueError"],mro:=[.ref 24,.type "ValueError",.type "Exception",.type "BaseException",.type "object"],ns:=23,qualname:="BookError",hasDict:=true,slotNames:=[],subclasses:=[.ref 37,.ref 56,.ref 75,.ref 94,.ref 113,.ref 132,.ref 151],abstract:=false,collection:=none,hasDel:=false},#[some<|.ref 15,none,some<|.str "BookError" 189,some<|.str "BookError" 197,some<|.builtin "ValueError.__new__",some<|.bool true]⟩),(23,⟨.type "dict",none,.dict #[en P "__module__" 196<|.str "leastbook.errors" 187,en P "__firstlineno__" 200<|.int 2 199,en P "__static_attributes__" 201<|.ref 22,en P "__weakref__" 203<|.ref 25,en P "__doc__" 204<|.none] 3,#[]⟩),(37,⟨.type "type",none,.cls {name:="NoStyle",bases:=[.ref 24],mro:=[.ref 37,.ref 24,.type "ValueError",.type "Exception",.type "BaseException",.type "object"],ns:=36,qualname:="NoStyle",hasDict:=true,slotNames:=[],subclasses:=[],abstract:=false,collection:=none,hasDel:=false},#[some<|.ref 28,none,some<|.str "NoStyle" 207,some<|.str "NoStyle" 215,some<|.builtin "ValueError.__new__",some<|.bool true]⟩),(36,⟨.type "dict",none,.dict #[en P "__module__" 214<|.str "leastbook.errors" 187,en P "__firstlineno__" 218<|.int 4 217,en P "__static_attributes__" 219<|.ref 35,en P "__doc__" 220<|.none] 2,#[]⟩),(56,⟨.type "type",none,.cls {name:="TooWide",bases:=[.ref 24],mro:=[.ref 56,.ref 24,.type "ValueError",.type "Exception",.type "BaseException",.type "object"],ns:=55,qualname:="TooWide",hasDict:=true,slotNames:=[],subclasses:=[],abstract:=false,collection:=none,hasDel:=false},#[some<|.ref 40,none,some<|.str "TooWide" 223,some<|.str "TooWide" 231,some<|.builtin "ValueError.__new__",some<|.bool true]⟩),(55,⟨.type "dict",none,.dict #[en P "__module__" 230<|.str "leastbook.errors" 187,en P "__firstlineno__" 234<|.int 6 233,en P "__init__" 242<|.ref 53,en P "__static_attributes__" 244<|.ref 54,en P "__doc__" 245<|.none] 2,#[]⟩),(75,⟨.type "type",none,.cls {name:="TooHigh",bases:=[.ref 24],mro:=[.ref 75,.ref 24,.type "ValueError",.type "Exception",.type "BaseException",.type "object"],ns:=74,qualname:="TooHigh",hasDict:=true,slotNames:=[],subclasses:=[],abstract:=false,collection:=none,hasDel:=false},#[some<|.ref 59,none,some<|.str "TooHigh" 248,some<|.str "TooHigh" 256,some<|.builtin "ValueError.__new__",some<|.bool true]⟩),(74,⟨.type "dict",none,.dict #[en P "__module__" 255<|.str "leastbook.errors" 187,en P "__firstlineno__" 259<|.int 11 258,en P "__init__" 267<|.ref 72,en P "__static_attributes__" 269<|.ref 73,en P "__doc__" 270<|.none] 2,#[]⟩),(94,⟨.type "type",none,.cls {name:="Twice",bases:=[.ref 24],mro:=[.ref 94,.ref 24,.type "ValueError",.type "Exception",.type "BaseException",.type "object"],ns:=93,qualname:="Twice",hasDict:=true,slotNames:=[],subclasses:=[],abstract:=false,collection:=none,hasDel:=false},#[some<|.ref 78,none,some<|.str "Twice" 273,some<|.str "Twice" 281,some<|.builtin "ValueError.__new__",some<|.bool true]⟩),(93,⟨.type "dict",none,.dict #[en P "__module__" 280<|.str "leastbook.errors" 187,en P "__firstlineno__" 284<|.int 16 283,en P "__init__" 292<|.ref 91,en P "__static_attributes__" 294<|.ref 92,en P "__doc__" 295<|.none] 2,#[]⟩),(113,⟨.type "type",none,.cls {name:="Loose",bases:=[.ref 24],mro:=[.ref 113,.ref 24,.type "ValueError",.type "Exception",.type "BaseException",.type "object"],ns:=112,qualname:="Loose",hasDict:=true,slotNames:=[],subclasses:=[],abstract:=false,collection:=none,hasDel:=false},#[some<|.ref 97,none,some<|.str "Loose" 298,some<|.str "Loose" 306,some<|.builtin "ValueError.__new__",some<|.bool true]⟩),(112,⟨.type "dict",none,.dict #[en P "__module__" 305<|.str "leastbook.errors" 187,en P "__firstlineno__" 309<|.int 21 308,en P "__init__" 317<|.ref 110,en P "__static_attributes__" 319<|.ref 111,en P "__doc__" 320<|.none] 2,#[]⟩),(132,⟨.type "type",none,.cls {name:="NoLabel",bases:=[.ref 24],mro:=[.ref 132,.ref 24,.type "ValueError",.type "Exception",.type "BaseException",.type "object"],ns:=131,qualname:="NoLabel",hasDict:=true,slotNames:=[],subclasses:=[],abstract:=false,collection:=none,hasDel:=false},#[some<|.ref 116,none,some<|.str "NoLabel" 323,some<|.str "NoLabel" 331,some<|.builtin "ValueError.__new__",some<|.bool true]⟩),(131,⟨.type "dict",none,.dict #[en P "__module__" 330<|.str "leastbook.errors" 187,en P "__firstlineno__" 334<|.int 26 333,en P "__init__" 342<|.ref 129,en P "__static_attributes__" 344<|.ref 130,en P "__doc__" 345<|.none] 2,#[]⟩),(151,⟨.type "type",none,.cls {name:="NoRow",bases:=[.ref 24],mro:=[.ref 151,.ref 24,.type "ValueError",.type "Exception",.type "BaseException",.type "object"],ns:=150,qualname:="NoRow",hasDict:=true,slotNames:=[],subclasses:=[],abstract:=false,collection:=none,hasDel:=false},#[some<|.ref 135,none,some<|.str "NoRow" 348,some<|.str "NoRow" 356,some<|.builtin "ValueError.__new__",some<|.bool true]⟩),(150,⟨.type "dict",none,.dict #[en P "__module__" 355<|.str "leastbook.errors" 187,en P "__firstlineno__" 359<|.int 31 358,en P "__init__" 367<|.ref 148,en P "__static_attributes__" 369<|.ref 149,en P "__doc__" 370<|.none] 2,#[]⟩),(148,⟨.type "function",none,.func<|fnOf "__init__" "NoRow.__init__" (YS RW) (Ju RW) (QN RW) .none .none .none (.str "leastbook.errors" 187) none (.ref 147) .none,#[]⟩),(147,⟨.type "code",none,.fields #[.str "__init__" 360,.str "NoRow.__init__" 361,.str "/claim/cut.py" 362,.int 33 0,.int 2 0,.int 0 0,.int 0 0,.int 3 0,.ref 142,.bool true,.int 181 0,.ref 143,.none,.ref 144,.ref 145,.ref 146,.int 365 0,.int 33 0,.str "/claim/cut.py" 366],#[]⟩)]
def K(P:Params):List<|Nat×Obj:=(3,⟨.type "dict",none,.dict (ns P).toArray 72,#[]⟩)::(xk P++tb.flatMap ob)
noncomputable def as:List Nat:=3::([2,24,23,37,36,56,55,75,74,94,93,113,112,132,131,151,150,148,147]++tb.flatMap λr=>[r.2.1-1,r.2.1])
def A6(P:Params):as=(K P).map (·.1):=by kernel_rfl
noncomputable abbrev rw_:=PySem.Challenge.rw_leastbook_k28_rows_looked_at.row
def vw:Program:=view p [66]
def ls:List Str:=(["BookError","NoStyle","TooWide","TooHigh","Twice","Loose","NoLabel","NoRow"]:List Str)++tb.dropLast.map λr=>LR<|Qw r.1
def Xt(s:Shared):Bool:=xlAt vw [] s&&recOk (RowW.records rw_.toRowW) s
abbrev rn:=Hd.runs p 7066
def ha(w:World)(os:OsState):=(rn w os).map<|Hd.chk p w
def hb(w:World)(os:OsState):=(rn w os).map<|openSeen vw ls (importedModules p.main.body) Xt true
def hc(w:World)(os:OsState):=(rn w os).map λs=>as.map s.heap.get?
def wb:=some<|openGood vw ls
def wc(w:World):=some<|(K w.params).map λp=>some p.2
def ha_r:ha=ha:=rfl
def hb_r:hb=hb:=rfl
def hc_r:hc=hc:=rfl
end
end Hd
section
open PySem PySem.W PyProof.Rows
name_quick haQ for Hd.ha by Hd.ha_r
name_quick hbQ for Hd.hb by Hd.hb_r
name_quick hcQ for Hd.hc by Hd.hc_r
namespace Hd
def oa(w:World)(os:OsState):Fast.haQ w os=some true:=by kernel_rfl
def oz(w:World)(os:OsState):Fast.hbQ w os=wb:=by kernel_rfl
def oc(w:World)(os:OsState):Fast.hcQ w os=wc w:=by kernel_rfl
def pa(w:World)(os:OsState):ha w os=some true:=by rw[Fast.haQ_eq];exact oa w os
def pb(w:World)(os:OsState):hb w os=wb:=by rw[Fast.hbQ_eq];exact oz w os
def pc(w:World)(os:OsState):hc w os=wc w:=by rw[Fast.hcQ_eq];exact oc w os
def hl:LeftO p vw ls Xt (λs=>as.map s.heap.get?) (λw=>(K w.params).map λp=>some p.2) 7066:=left (M:=7066) (by kernel_rfl) (λs=>by kernel_rfl) rfl rfl (λw=>by kernel_rfl) pa pb pc
end Hd
end
namespace Wd
open PySem
abbrev Kd:=Sum Int Str
inductive D where|non|bl(b:Bool)|int(i:Int)|str(x:Str)|tup(xs:List D)|lst(xs:List D)|scr(ns:List Int)|dic(ks:List Kd)(xs:List D)|exc(c:Nat)(n:D)
abbrev Q8:=List<|Option D
abbrev Q6:=Q8->Option D
abbrev ZK:=Q8->Option (List D)
abbrev Ut:=Q8->Option (Option Int)
abbrev JW:=D->Q8->Option Q8
inductive Fl where|nx(e:Q8)|rt(d:D)|bk(e:Q8)|ct(e:Q8)|rz(c:Nat)(d:D)|rm(d z:D)
abbrev QJ:=Q8->Option Fl
def Qz:Nat:=16777216
def Zt{α:Type}:Option D->Option α->Option α->Option α|some (.bl c),x,y=>if c=true then x else y|_,_,_=>none
noncomputable def LU:Option D->Option D|some (.bl c)=>some<|.bl<|!c|_=>none
def QbZ{α:Type}(c:Bool)(x y:Option α):Zt (some<|.bl c) x y=if c=true then x else y:=rfl
mutual noncomputable def D.dep:D->Nat|.tup xs=>D.depL xs+1|.lst xs=>D.depL xs+1|.scr _=>1|.dic _ xs=>D.depL xs+1|_=>0 noncomputable def D.depL:List D->Nat|[]=>0|x::xs=>max (D.dep x) (D.depL xs)end
def Qbd:D.dep .non=0:=by rw[D.dep];all_goals simp
def Qbc(b:Bool):D.dep (.bl b)=0:=by rw[D.dep];all_goals simp
def Xa(i:Int):D.dep (.int i)=0:=by rw[D.dep];all_goals simp
def UM(x:Str):D.dep (.str x)=0:=by rw[D.dep];all_goals simp
def MI(xs:List D):D.dep (.tup xs)=D.depL xs+1:=by rw[D.dep]
def SD(xs:List D):D.dep (.lst xs)=D.depL xs+1:=by rw[D.dep]
def FH:D.depL []=0:=by rw[D.depL]
def PK(x:D)(xs:List D):D.depL (x::xs)=max (D.dep x) (D.depL xs):=by rw[D.depL]
noncomputable def Nr:Option Bool->Option Bool->Option Bool|some a,some b=>some<|a&&b|_,_=>none
def HG(a b:Bool):Nr (some a) (some b)=some (a&&b):=rfl
mutual noncomputable def D.eq:D->D->Option Bool
 |.bl a,e=>match e with|.bl b=>some<|a==b|_=>none
 |.int i,e=>match e with|.int j=>some<|decide<|i=j|_=>none
 |.str x,e=>match e with|.str y=>some<|decide<|x=y|_=>none
 |.tup xs,e=>match e with|.tup ys=>D.eqL xs ys|_=>none
 |.lst xs,e=>match e with
  |.lst ys=>D.eqL xs ys|_=>none
 |.non,e=>match e with
  |.non=>some true|_=>none
 |.scr _,_=>none|.dic _ _,_=>none|.exc _ _,_=>none noncomputable def D.eqL:List D->List D->Option Bool|[],[]=>some true|x::xs,y::ys=>Nr (D.eq x y)<|D.eqL xs ys|_,_=>some false end
def UQ(i j:Int):D.eq (.int i) (.int j)=some (decide<|i=j):=by rw[D.eq]
def Xc(i j:Str):D.eq (.str i) (.str j)=some (decide<|i=j):=by rw[D.eq]
def QbB(xs ys:List D):D.eq (.tup xs) (.tup ys)=D.eqL xs ys:=by rw[D.eq]
def PV(xs ys:List D):D.eq (.lst xs) (.lst ys)=D.eqL xs ys:=by rw[D.eq]
def PR:D.eqL [] []=some true:=by rw[D.eqL]
def Qbz(x y:D)(xs ys:List D):D.eqL (x::xs) (y::ys)=Nr (D.eq x y) (D.eqL xs ys):=by rw[D.eqL]
noncomputable def D.cmp(o:Option Bool):Option D:=o.map .bl
noncomputable def D.cmpN(o:Option Bool):Option D:=o.map λb=>.bl<|!b
def D.eqO(x y:D):Option D:=if x.dep<=40 then D.cmp (D.eq x y)else none
def D.neO(x y:D):Option D:=if x.dep<=40 then D.cmpN (D.eq x y)else none
noncomputable def L6:List D->Option (List Int)|[]=>some []|.int i::r=>(L6 r).map (i::·)|_=>none
noncomputable def EE:List Int->List Int->Bool|[],_=>true|_::_,[]=>false|x::xs,y::ys=>if x=y then EE xs ys else decide<|x<y
noncomputable def D.lt:D->D->Option D|.int i,.int j=>some<|.bl<|decide<|i<j|_,_=>none
def D.le:D->D->Option D
 |.int i,.int j=>some<|.bl<|decide<|i<=j|.tup xs,.tup ys=>match L6 xs,L6 ys with
  |some a,some b=>some<|.bl<|EE a b|_,_=>none
 |_,_=>none
noncomputable def D.gt:D->D->Option D|.int i,.int j=>some<|.bl<|decide<|j<i|_,_=>none
noncomputable def D.len:D->Option D|.str x=>if x.length<=Qz then some<|.int x.length else none|.tup xs=>some<|.int xs.length|.lst xs=>some<|.int xs.length|.scr ns=>some<|.int ns.length|_=>none
noncomputable def D.add:D->D->Option D|.int i,.int j=>some<|.int<|i+j|.str x,.str y=>if x.length+y.length<=Qz then some<|.str<|x++y else none|.lst xs,.lst ys=>if xs.length+ys.length<=Qz then some<|.lst<|xs++ys else none|.tup (x::xs),.tup ys=>if xs.length+1+ys.length<=Qz then some<|.tup<|x::xs++ys else none|_,_=>none
noncomputable def D.sub:D->D->Option D|.int i,.int j=>some<|.int<|i-j|_,_=>none
noncomputable def D.mul:D->D->Option D|.int i,.int j=>if-2^64<i/\i<2^64\/-2^64<j/\j<2^64 then some<|.int<|i*j else none|_,_=>none
noncomputable def D.mod:D->D->Option D|.int i,.int j=>if 0<j then some<|.int<|i%j else none|_,_=>none
noncomputable def D.fdiv:D->D->Option D|.int i,.int j=>if 0<j/\j<1073741824 then some<|.int<|i/j else none|_,_=>none
noncomputable def D.pow:D->D->Option D|.int i,.int j=>if 0<=j/\j<=1000000/\i.natAbs<2^64 then some<|.int<|i^j.toNat else none|_,_=>none
noncomputable def D.neg:D->Option D|.int i=>some<|.int<|-i|_=>none
def Qdj{i j:Int}(h:-2^64<i/\i<2^64):D.mul (.int i) (.int j)=some (.int<|i*j):=if_pos<|.inl h
def Qdk{i j:Int}(h:-2^64<j/\j<2^64):D.mul (.int i) (.int j)=some (.int<|i*j):=if_pos<|.inr h
def Qdc{i j:Int}(h:0<j):D.mod (.int i) (.int j)=some (.int<|i%j):=if_pos h
def QbE{i j:Int}(h:0<j/\j<1073741824):D.fdiv (.int i) (.int j)=some (.int<|i/j):=if_pos h
def Qfz{i j:Int}(h:0<=j/\j<=1000000/\i.natAbs<2^64):D.pow (.int i) (.int j)=some (.int<|i^j.toNat):=if_pos h
noncomputable def D.strI:D->Option D|.int i=>if i.natAbs<2^1900 then some<|.str<|Str.ofString<|toString i else none|_=>none
noncomputable def D.intB:D->Option D|.int i=>some<|.int i|.bl b=>some<|.int<|if b then 1 else 0|_=>none
noncomputable def D.min2:D->D->Option D|.int i,.int j=>some<|.int<|if j<i then j else i|_,_=>none
noncomputable def D.max2:D->D->Option D|.int i,.int j=>some<|.int<|if j>i then j else i|_,_=>none
noncomputable def U9:D->String|.non=>"NoneType"|.bl _=>"bool"|.int _=>"int"|.str _=>"str"|.tup _=>"tuple"|.lst _=>"list"|.scr _=>"list"|.dic _ _=>"dict"|.exc _ _=>"exc"
def D.inst(t:String)(d:D):Option D:=match d with|.scr _=>none|.exc _ _=>none|d=>some<|.bl<|decide (U9 d=t)||decide (t="int")&&decide (U9 d="bool")
noncomputable def JD(n:Nat)(i:Int):Option Nat:=if 0<=i then(if i<n then some i.toNat else none)else if-(n:Int)<=i then some (i+n).toNat else none
def D.ix:D->D->Option D|.tup xs,.int i=>(JD xs.length i).bind λk=>xs[k]?|.lst xs,.int i=>(JD xs.length i).bind λk=>xs[k]?|.scr ns,.int i=>(JD ns.length i).bind λk=>(ns[k]?).map .int|.str x,.int i=>if x.length<=Qz then(JD x.length i).bind λk=>(x.cps[k]?).map λc=>.str ⟨#[c]⟩else none|_,_=>none
noncomputable def ZC(n d:Nat):Option Int->Nat|none=>d|some v=>if v<0 then(v+(n:Int)).toNat else min v.toNat n
def Jt{α:Type}(xs:List α)(lo hi:Option Int):List α:=(xs.drop<|ZC xs.length 0 lo).take<|ZC xs.length xs.length hi-ZC xs.length 0 lo
def D.cut:D->Option Int->Option Int->Option D|.lst xs,lo,hi=>some<|.lst<|Jt xs lo hi|.tup xs,lo,hi=>if ZC xs.length 0 lo=0/\ZC xs.length xs.length hi=xs.length then none else some<|.tup<|Jt xs lo hi|.scr ns,lo,hi=>some<|.lst<|(Jt ns lo hi).map .int|_,_,_=>none
def eV(i:Nat):Q6:=λe=>(e[i]?).join
def eC(d:D):Q6:=λ_=>some d
noncomputable def Q4(g:D->D->Option D)(a b:Q6):Q6:=λe=>(a e).bind λx=>(b e).bind λy=>g x y
noncomputable def QD(g:D->Option D)(a:Q6):Q6:=λe=>(a e).bind λx=>g x
def Va(a:Q6):Q6:=λe=>LU<|a e
noncomputable def QH(a b:Q6):Q6:=λe=>Zt (a e) (b e)<|some<|.bl false
noncomputable def Jf(a b:Q6):Q6:=λe=>Zt (a e) (some<|.bl true)<|b e
noncomputable def WU(c a b:Q6):Q6:=λe=>Zt (c e) (a e)<|b e
noncomputable def Xb(g g':D->D->Option D)(a b c:Q6):Q6:=λe=>(a e).bind λx=>(b e).bind λy=>Zt (g x y) ((c e).bind λz=>g' y z)<|some<|.bl false
def lN:ZK:=λ_=>some []
noncomputable def lC(a:Q6)(l:ZK):ZK:=λe=>(a e).bind λx=>(l e).map λxs=>x::xs
def Qe(l:ZK):Q6:=λe=>(l e).map .tup
def QS(l:ZK):Q6:=λe=>(l e).map .lst
noncomputable def eK(f:List D->Option D)(l:ZK):Q6:=λe=>(l e).bind f
def V8(t:String)(a:Q6):Q6:=λe=>(a e).bind λx=>D.inst t x
def Qx:Ut:=λ_=>some none
noncomputable def Qk(a:Q6):Ut:=λe=>(a e).bind λd=>match d with|.int i=>some<|some i|_=>none
noncomputable def gS(i:Nat):JW:=λd e=>some<|e.set i<|some d
noncomputable def W0:List JW->List D->Q8->Option Q8|[],[],e=>some e|g::gs,d::ds,e=>(g d e).bind λe'=>W0 gs ds e'|_,_,_=>none
def Yn(gs:List JW):JW:=λd e=>match d with|.tup ds=>W0 gs ds e|_=>none
noncomputable def N6:Option Fl->QJ->Option Fl|some (.nx e),k=>k e|some (.rt d),_=>some<|.rt d|some (.bk e),_=>some<|.bk e|some (.ct e),_=>some<|.ct e|some (.rz c d),_=>some<|.rz c d|some (.rm d z),_=>some<|.rm d z|none,_=>none
def sQ(a b:QJ):QJ:=λe=>N6 (a e) b
noncomputable def QM(c:Q6)(a b:QJ):QJ:=λe=>Zt (c e) (a e)<|b e
def QK(a:Q6):QJ:=λe=>(a e).map .rt
noncomputable def QO(a:Q6)(g:JW):QJ:=λe=>(a e).bind λd=>(g d e).map .nx
def QU:QJ:=λe=>some<|.nx e
noncomputable def D.app:D->D->Option D|.lst xs,d=>if xs.length<Qz then some<|.lst<|xs++[d]else none|_,_=>none
noncomputable def D.ext:D->D->Option D|.lst xs,.lst ys=>if xs.length+ys.length<=Qz then some<|.lst<|xs++ys else none|_,_=>none
def sP(i:Nat)(a:Q6):QJ:=λe=>(eV i e).bind λx=>(a e).bind λd=>(D.app x d).map λz=>.nx<|e.set i<|some z
def Wh(i:Nat)(a:Q6):QJ:=λe=>(eV i e).bind λx=>(a e).bind λd=>(D.ext x d).map λz=>.nx<|e.set i<|some z
noncomputable def YN:Option Fl->QJ->Option Fl|some (.nx e),k=>k e|some (.ct e),k=>k e|some (.bk e),_=>some<|.nx e|some (.rt d),_=>some<|.rt d|some (.rz c d),_=>some<|.rz c d|some (.rm d z),_=>some<|.rm d z|none,_=>none
def Zz(g:JW)(b:QJ):List D->QJ|[],e=>some<|.nx e|d::ds,e=>YN ((g d e).bind b)<|Zz g b ds
abbrev Za:=Q8->Option (List D)
def Z3(it:Za)(g:JW)(b:QJ):QJ:=λe=>(it e).bind λds=>Zz g b ds e
noncomputable def rD(lo:Int)(n:Nat):List D:=(List.range n).map λi:Nat=>.int<|lo+(i:Int)
noncomputable def Vu:Nat->List D->List D|_,[]=>[]|n,d::ds=>.tup [.int n,d]::Vu (n+1) ds
def D.rng:D->Option (List D)|.int n=>if n.natAbs<4611686018427387904 then some (rD 0 n.toNat)else none|_=>none
noncomputable def D.its:D->Option (List D)|.lst xs=>some xs|.scr ns=>some<|ns.map .int|_=>none
def ZH(a:Q6):Za:=λe=>(a e).bind λd=>D.rng d
def Zc(a:Q6):Za:=λe=>(a e).bind λd=>D.its d
def Xg(a:Q6):Za:=λe=>(a e).bind λd=>(D.its d).map λds=>Vu 0 ds
noncomputable def PN:Option Fl->Option D|some (.rt d)=>some d|some (.nx _)=>some .non|_=>none
noncomputable def Jq(n:Nat)(ds:List D):Q8:=ds.map some++List.replicate (n-ds.length) none
def Ql(n k:Nat)(b:QJ)(ds:List D):Option D:=if ds.length=k then PN<|b<|Jq n ds else none
noncomputable def Y8(g:JW)(c el:Q6):List D->Q8->Option (List D)|[],_=>some []|d::ds,e=>(g d e).bind λe1=>Zt (c e1) ((el e1).bind λx=>(Y8 g c el ds e1).map λr=>x::r)<|Y8 g c el ds e1
noncomputable def WR(n:Nat)(ao:List Nat)(e:Q8):Q8:=List.replicate n none++ao.map λi=>(e[i]?).join
def JX(n:Nat)(ao:List Nat)(it:Za)(g:JW)(c el:Q6):Q6:=λe=>(it e).bind λds=>if ds.length<=Qz then(Y8 g c el ds<|WR n ao e).map .lst else none
def cutS(x:Str)(lo hi:Option Int):Str:=⟨(Jt x.cps.toList lo hi).toArray⟩
noncomputable def Sr(x:Str)(n:Int):Str:=⟨(List.replicate n.toNat x.cps.toList).flatten.toArray⟩
def XY(x:D)(lo hi:Option Int):Option D:=match x with|.str z=>if z.length<=Qz then some<|.str<|cutS z lo hi else none|d=>D.cut d lo hi
def Qn(a:Q6)(lo hi:Ut):Q6:=λe=>(a e).bind λx=>(lo e).bind λl=>(hi e).bind λh=>XY x l h
noncomputable def D.strip:D->Option D|.str x=>if x.length<=Qz then some<|.str<|Txt.strip x else none|_=>none
def D.mulA:D->D->Option D|.int i,.int j=>D.mul (.int i)<|.int j|.str x,.int n=>if-1073741824<n/\n<1073741824/\x.length*n.toNat<=Qz then some<|.str<|Sr x n else none|.lst xs,.int n=>if-1073741824<n/\n<1073741824/\xs.length*n.toNat<=Qz then some<|.lst (List.replicate n.toNat xs).flatten else none|_,_=>none
noncomputable def Zq:D->Bool|.str _=>true|_=>false
def inD(x:D):List D->Bool|[]=>false|y::ys=>D.eq y x==some true||inD x ys
def D.inO(x y:D):Option D:=match y with|.tup ys=>if Zq x=true/\ys.all Zq=true then some<|.bl<|inD x ys else none|.lst ys=>if Zq x=true/\ys.all Zq=true then some<|.bl<|inD x ys else none|_=>none
def D.notInO(x y:D):Option D:=match y with|.tup ys=>if Zq x=true/\ys.all Zq=true then some<|.bl<|!inD x ys else none|.lst ys=>if Zq x=true/\ys.all Zq=true then some<|.bl<|!inD x ys else none|_=>none
noncomputable def D.listOf:D->Option D|.lst xs=>some<|.lst xs|.tup xs=>some<|.lst xs|.scr ns=>some<|.lst<|ns.map .int|_=>none
noncomputable def V5:List D->Option (List Bool)|[]=>some []|.bl b::r=>(V5 r).map (b::·)|_=>none
def Qgd{a:Q6}:∀e en,QK a e≠some (.nx en):=λe en h=>by unfold QK at h;cases q:a e with|none=>rw[q]at h;cases h|some d=>rw[q]at h;cases h
def K1{a b:QJ}(hb:∀e en,b e≠some (.nx en)):∀e en,sQ a b e≠some (.nx en):=λe en h=>by unfold sQ at h;cases q:a e with|none=>rw[q]at h;cases h|some f=>rw[q]at h;cases f with|nx e1=>exact hb e1 en h|_=>cases h
noncomputable def kOf:D->Option Kd|.str x=>some<|.inr x|.int i=>some<|.inl i|_=>none
noncomputable def QbR(k:Kd)(ks:List Kd):Bool:=ks.any λc=>decide<|c=k
noncomputable def Gu:List Kd->List D->Kd->D->List D|c::ks,d::ds,k,v=>(if c=k then v else d)::Gu ks ds k v|_,_,_,_=>[]
def Qae(ks:List Kd)(ds:List D)(k:Kd)(v:D):D:=if QbR k ks=true then .dic ks<|Gu ks ds k v else .dic (ks++[k])<|ds++[v]
def D.put(x y v:D):Option D:=match x with|.dic ks ds=>(kOf y).bind λk=>if ks.length<Qz then some (Qae ks ds k v)else none|_=>none
abbrev Rs:=Sum D<|Nat×D
noncomputable def D.blkO(c:Nat):D->Option Fl|.int i=>if 0<=i/\i<10^60 then some<|.rz c<|.int i else none|_=>none
def Ur(c:Nat)(a:Q6):QJ:=λe=>(a e).bind<|D.blkO c
def UL(n k:Nat)(b:QJ)(ds:List D):Option Rs:=if ds.length=k then match b<|Jq n ds with|some (.rt d)=>some<|.inl d|some (.nx _)=>some<|.inl .non|some (.rz c d)=>some<|.inr (c,d)|_=>none else none
noncomputable def Qf4(e:Q8):Rs->Fl|.inl _=>.nx e|.inr (c,n)=>.rz c n
def RU(f:List D->Option Rs)(l:ZK):QJ:=λe=>(l e).bind λds=>(f ds).map<|Qf4 e
noncomputable def BB(i j:Nat)(e:Q8):Option Fl->Option Fl|some (.nx e')=>some<|.nx e'|some (.rz c n)=>if c<=6 then some<|.nx<|(e.set i<|some<|.exc c n).set j none else none|_=>none
def Oz(i j:Nat)(b:QJ):QJ:=λe=>BB i j e<|b e
noncomputable def D.cat:D->D->Option D|.lst xs,.lst ys=>if xs.length+ys.length<=Qz then some<|.lst<|xs++ys else none|_,_=>none
noncomputable def D.instX(c:Nat):D->Option D|.exc c' _=>if c'<=6 then some<|.bl<|decide<|c'=c else none|.non=>some<|.bl false|_=>none
noncomputable def D.instV:D->Option D|.exc c _=>if c<=6 then some<|.bl true else none|.non=>some<|.bl false|_=>none
noncomputable def D.blk:D->Option D|.exc c n=>if c=0\/6<c then none else some n|_=>none
noncomputable def D.isN:D->Option D|.non=>some<|.bl true|_=>some<|.bl false
noncomputable def D.isNN:D->Option D|.non=>some<|.bl false|_=>some<|.bl true
def Uq:QJ:=λ_=>none
noncomputable def QX(f:Str->Str->Option D):D->D->Option D|.str x,.str y=>f x y|_,_=>none
noncomputable def XH(f:Str->Option D):D->Option D|.str x=>f x|_=>none
noncomputable def Jl(x y:Str):Option D:=some<|.bl<|Txt.startswith x y
noncomputable def YE(x y:Str):Option D:=some<|.int<|Txt.count x y
noncomputable def XI(x y:Str):Option D:=if x.length<=Qz then some<|.str<|Txt.stripChars x y else none
noncomputable def ZE(x y:Str):Option D:=if(y.length==0)=false/\x.length<=100000 then some<|.lst<|(Txt.split x y).map .str else none
noncomputable def XG(k:Nat)(x y:Str):Option D:=if(y.length==0)=false/\x.length<=100000/\k<1000 then some<|.lst<|(Txt.splitMax x y k).map .str else none
noncomputable def Vj(x y:Str):Option D:=if(y.length==0)=false/\x.length<=100000 then some<|.tup<|[(Txt.partition x y).1,(Txt.partition x y).2.1,(Txt.partition x y).2.2].map .str else none
noncomputable def LB(x:Str):Option D:=some<|.bl<|Txt.isdigit x
noncomputable def Ez:List Nat->Option D|[c]=>some<|.int c|_=>none
def D.ord:D->Option D|.str x=>Ez x.cps.toList|_=>none
noncomputable def D.intS:D->Option D|.str x=>if x.length<=640 then(intText? x).map .int else none|_=>none
noncomputable def Wi:List D->Option (List Str)|[]=>some []|.str x::r=>(Wi r).map (x::·)|_=>none
def D.joinS(sep:Str):D->Option D|.lst ds=>(Wi ds).bind λN=>if N.length<=500/\∀y∈N,y.length<=2000 then some<|.str<|Str.join sep N else none|_=>none
noncomputable def D.leS:D->D->Option D|.str x,.str y=>some<|.bl<|! decide (y.cps.toList<x.cps.toList)|_,_=>none
noncomputable def D.notInS:D->D->Option D|.str y,.str x=>some<|.bl<|!Txt.contains x y|_,_=>none
def D.allL:D->Option D|.lst ds=>(V5 ds).map λbs=>.bl<|bs.all id|_=>none
def D.eqN:D->D->Option D|.non,.lst _=>some<|.bl false|x,y=>D.eqO x y
noncomputable def D.repl(y z:Str):D->Option D|.str x=>if x.length<=1048576 then some<|.str<|Txt.replace x y z else none|_=>none
noncomputable def D.itsS:D->Option (List D)|.str x=>if x.cps.all (·<128)=true then some<|x.cps.toList.map λc=>.str ⟨#[c]⟩else none|_=>none
def Zs(a:Q6):Za:=λe=>(a e).bind λd=>D.itsS d
noncomputable def WW:D->Option Str|.str x=>if x.length<=100000 then some x else none|.int i=>if 0<=i/\i<10^250 then some<|Str.ofString<|toString i else none|_=>none
abbrev WM:=Sum Str Q6
def Vz:List WM->Q8->Str->Option Str|[],_,acc=>some acc|.inl a::r,e,acc=>Vz r e<|acc++a|.inr v::r,e,acc=>(v e).bind λd=>(WW d).bind λx=>Vz r e<|acc++x
def UO(ps:List WM):Q6:=λe=>(Vz ps e Str.empty).map .str
inductive Im where|pl(d:D)|wd(x:Str)(ns:List Str)
inductive Bk where|pl(d:D)|tb(rows:List Str)(lab:D)|pa(is:List Im)
abbrev BM:=List Bk
noncomputable def YA:Im->D|.pl d=>d|.wd x ns=>.tup [.str "word",.str x,.lst<|ns.map .str]
def Jx:Bk->D|.pl d=>d|.tb r l=>.tup [.str "table",.lst<|r.map .str,l]|.pa is=>.tup [.str "para",.lst<|is.map YA]
def Qh(m:BM):D:=.lst<|m.map Jx
noncomputable def Pt:D->Option Str|.tup (.str k::_)=>some k|_=>none
def Tb(k:Str)(d:D):Option Bool:=(Pt d).bind λx=>if x=k then none else some false
def Vp:Bk->Option Bool|.tb _ _=>some true|.pa _=>some false|.pl d=>Tb "table" d
def WB:Bk->Option Bool|.tb _ _=>some false|.pa _=>some true|.pl d=>Tb "para" d
def UA:Im->Option Bool|.wd _ _=>some true|.pl d=>Tb "word" d
def YD:Bk->Option Bool
 |.tb _ _=>some false|.pa is=>match is.getLast? with
  |none=>some false|some i=>UA i
 |.pl d=>Tb "para" d
noncomputable def Z9(f:Bk->Option Bool)(m:BM):Option Bool:=match m.getLast? with|none=>some false|some b=>f b
noncomputable def ZJ(f:Bk->Bk)(m:BM):BM:=match m.getLast? with|none=>m|some b=>m.dropLast++[f b]
noncomputable def Uo(y:Str):Bk->Bk|.tb r l=>.tb (r++[y]) l|b=>b
noncomputable def O9(y:Str):Im->Im|.wd x ns=>.wd x<|ns++[y]|i=>i
def W9(y:Str):Bk->Bk
 |.pa is=>match is.getLast? with
  |none=>.pa is|some i=>.pa<|is.dropLast++[O9 y i]
 |b=>b
noncomputable def Wx(i:Im):Bk->Bk|.pa is=>.pa<|is++[i]|b=>b
noncomputable def Rc:Im->Bool|.wd _ ns=>ns.length<100000|.pl _=>true
def U2:Bk->Bool|.tb r _=>r.length<100000|.pa is=>is.length<100000&&is.all Rc|.pl _=>true
def ZO(m:BM):Bool:=m.length<100000&&m.all U2
noncomputable def Wk:D->Im|.tup [.str k,.str x,.lst []]=>if k="word"then .wd x []else .pl<|.tup [.str k,.str x,.lst []]|d=>.pl d
noncomputable def WK:D->Bk|.tup [.str k,.lst [],.str l]=>if k="table"then .tb []<|.str l else .pl<|.tup [.str k,.lst [],.str l]|.tup [.str k,.lst []]=>if k="para"then .pa []else .pl<|.tup [.str k,.lst []]|d=>.pl d
section
variable{μ:Type}
abbrev Z7(μ:Type):=Q8->μ->Option (Q8×μ)
noncomputable def loopR(g:JW)(b:Z7 μ):List D->Z7 μ|[],e,m=>some (e,m)|d::ds,e,m=>(g d e).bind λe1=>(b e1 m).bind λr=>loopR g b ds r.1 r.2
def Tp(it:Za)(g:JW)(b:Z7 μ):Z7 μ:=λe m=>(it e).bind λds=>loopR g b ds e m
noncomputable def Zn(a b:Z7 μ):Z7 μ:=λe m=>(a e m).bind λr=>b r.1 r.2
noncomputable def Y6(vw:Q8->μ->Q8)(cv:Q6)(ba bb:Z7 μ):Z7 μ:=λe m=>if e.length<=1000 then match cv (vw e m)with|some (.bl true)=>ba e m|some (.bl false)=>bb e m|_=>none else none
noncomputable def DC:D->Bool|.bl _|.int _|.str _|.non=>true|_=>false
def Uy(vw:Q8->μ->Q8)(j:Nat)(ev:Q6):Z7 μ:=λe m=>if e.length<=1000 then(ev<|vw e m).bind λd=>if DC d=true then some (e.set j<|some d,m)else none else none
noncomputable def V3(s:QJ):Z7 μ:=λe m=>match s e with|some (.nx e')=>if e.length<=1000/\e'.length<=1000 then some (e',m)else none|_=>none
noncomputable def WC(x:Str):Str:=(Txt.partition x " ").2.2
def Ux(d:D)(m:BM):Option<|Bool×BM:=match d with|.non=>some (false,m)|.tup ds=>if ZO m=true then(Z9 WB m).map λb=>if b=true then(true,ZJ (Wx<|Wk<|.tup ds) m)else(false,m)else none|_=>none
abbrev Zf:=Q8->BM->Option (Bool×BM)
def Tv(e:Q8)(m:BM):Q8:=e.set 0<|some<|Qh m
def V2(cv:Q6)(ba bb:Zf):Zf:=λe m=>match cv (Tv e m)with|some (.bl true)=>ba e m|some (.bl false)=>bb e m|_=>none
def S5:Zf:=λ_ m=>some (false,m)
def T1(q:Bk->Option Bool)(U:Str->Bk->Bk):Zf:=λe m=>match eV 1 e with|some (.str x)=>if x.length<=100000/\ZO m=true then(Z9 q m).map λb=>if b=true then(true,ZJ (U<|WC x) m)else(false,m)else none|_=>none
def Uz(fb fi:List D->Option D):Zf:=λe m=>match eV 1 e with|some (.str x)=>if ZO m=true/\2<e.length then(fb [.str x]).bind λd=>match d with|.non=>(fi [.str x]).bind λi=>Ux i m|.tup ds=>some (true,m++[WK<|.tup ds])|_=>none else none|_=>none
noncomputable def MF(b:Zf)(x:Str)(m:BM):Option<|Bool×BM:=b [none,some<|.str x,none] m
noncomputable def Vb:Option D->Bool|some (.bl false)=>true|_=>false
abbrev BL:=BM×List Str
def ZZ(i j:Nat)(e:Q8)(m:BL):Q8:=(e.set i<|some<|Qh m.1).set j<|some<|.lst<|m.2.map .str
noncomputable def S3(ev:Q6):Z7 BL:=λe m=>match ev e with|some (.str x)=>if e.length<=1000/\m.2.length<100000 then some (e,(m.1,m.2++[x]))else none|_=>none
noncomputable def P2(ev:Q6):Z7 BL:=λe m=>(ev e).bind λd=>if e.length<=1000/\m.1.length<100000 then some (e,(m.1++[.pl d],m.2))else none
noncomputable def UC:Z7 BL:=λe m=>if e.length<=1000/\m.1.length<100000 then some (e,(m.1++[.pa []],m.2))else none
def Nv(ev:Q6):Z7 BL:=λe m=>(ev e).bind λd=>if e.length<=1000/\ZO m.1=true/\Z9 WB m.1=some true then some (e,(ZJ (Wx<|.pl d) m.1,m.2))else none
noncomputable def MV:Option (Option D)->Option (Option D)->Bool|some (some (.lst [])),some (some (.lst []))=>true|_,_=>false
def Up(i j:Nat)(b:Z7 BL):QJ:=λe=>if MV e[i]? e[j]?=true/\e.length<=1000/\i≠j then(b ((e.set i none).set j none) ([],[])).bind λr=>if r.1.length<=1000 then some<|.nx<|ZZ i j r.1 r.2 else none else none
noncomputable def RV(i:Nat)(b:QJ):QJ:=λe=>match eV i e,b e with|some (.lst ds),some (.nx e')=>if e.length<=1000/\e'.length=e.length then some<|.nx<|(List.replicate e.length none).set i<|some<|.lst ds else none|_,_=>none
def PJ(n k:Nat)(b:(List D->Option D)->QJ):Nat->List D->Option D|0=>λ_=>none|i+1=>Ql n k<|b<|PJ n k b i
end
noncomputable def D.mulT:D->D->Option D|.tup (x::xs),.int n=>if n=1 then some<|.tup<|x::xs else if n=0 then some<|.tup []else none|_,_=>none
noncomputable def Zv:D->Bool|.non=>true|.str _=>true|.int _=>true|.lst _=>true|_=>false
noncomputable def Zu:D->Bool|.non=>true|_=>false
def D.notInN:D->D->Option D|.non,.tup ys=>if ys.all Zv=true then some<|.bl<|!ys.any Zu else none|_,_=>none
def D.setA(x i v:D):Option D:=match x,i with|.lst ds,.int n=>(JD ds.length n).map λj=>.lst<|ds.set j v|_,_=>none
def Tq(i:Nat)(ei ev:Q6):QJ:=λe=>(ev e).bind λv=>(eV i e).bind λx=>(ei e).bind λn=>(D.setA x n v).map λy=>.nx<|e.set i<|some y
section
variable{μ:Type}
abbrev Y4(μ:Type):=Q8->μ->Option (Sum (Q8×μ) Fl)
noncomputable def W8(g:JW)(b:Y4 μ):List D->Y4 μ|[],e,m=>some<|.inl (e,m)|d::ds,e,m=>(g d e).bind λe1=>(b e1 m).bind λr=>match r with|.inl q=>W8 g b ds q.1 q.2|.inr fl=>some<|.inr fl
def U0(it:Za)(g:JW)(b:Y4 μ):Y4 μ:=λe m=>(it e).bind λds=>W8 g b ds e m
end
noncomputable def Yq:Fl->Bool|.rt _=>true|.rz _ _=>true|_=>false
def V1(ex:Q6)(f:Str->BM->Option (Bool×BM))(kx:QJ):Y4 BM:=λe m=>match ex e with|some (.str x)=>if e.length<=1000 then(f x m).bind λq=>match q.1 with|true=>some<|.inl (e,q.2)|false=>(kx e).bind λfl=>if Yq fl=true then some<|.inr fl else none else none|_=>none
def WJ(i:Nat)(b:Y4 BM)(cl:Q6)(kx:QJ):QJ:=λe=>if i<e.length/\e.length<=1000 then(b (e.set i none) []).bind λr=>match r with|.inr fl=>if Yq fl=true then some fl else none|.inl q=>if q.1.length<=1000 then match cl<|q.1.set i<|some<|Qh q.2 with|some (.bl true)=>(kx q.1).bind λfl=>if Yq fl=true then some fl else none|some (.bl false)=>some<|.rt<|Qh q.2|_=>none else none else none
noncomputable def Wo(f:Str->BM->Option (Bool×BM))(bb:Zf):Zf:=λe m=>match eV 1 e with
 |some (.str x)=>(f x m).bind λq=>match q.1 with|true=>some (true,q.2)|false=>bb e q.2
 |_=>none
noncomputable def TU:Option D->Bool|some (.bl true)=>true|_=>false
noncomputable def U4:Option D->Option Str|some (.str x)=>some x|_=>none
def Sa(m:BM):Option D:=m.getLast?.map Jx
def S4(c0 c1 y1 c2 y2:Q6):Zf:=λe m=>match eV 1 e with
 |some (.str x)=>if ZO m=true/\e.length=3 then match Sa m with
  |some d=>if TU (c0 [some<|Qh m,some<|.str x,none])=true then match c1 [some<|Qh m,some<|.str x,some d]with
    |some (.bl true)=>if Z9 Vp m=some true then(U4<|y1 [none,some<|.str x,none]).map λy=>(true,ZJ (Uo y) m)else none|some (.bl false)=>match c2 [some<|Qh m,some<|.str x,some d]with
     |some (.bl true)=>if Z9 YD m=some true then(U4<|y2 [none,some<|.str x,none]).map λy=>(true,ZJ (W9 y) m)else none|some (.bl false)=>some (false,m)|_=>none
    |_=>none else none|none=>if Vb (c0 [some<|Qh m,some<|.str x,none])=true/\Vb (c1 [some<|Qh m,some<|.str x,some<|.tup [.str "",.lst []]])=true/\Vb (c2 [some<|Qh m,some<|.str x,some<|.tup [.str "",.lst []]])=true then some (false,m)else none else none|_=>none
def UD(sp:Q6)(fb:List D->Option D)(c1:Q6)(fi:List D->Option D)(c2:Q6):Zf:=λe m=>match eV 1 e with
 |some (.str x)=>if ZO m=true/\e.length=5 then(sp [none,some<|.str x,none,none,none]).bind λP=>(fb [P]).bind λd=>match c1 [none,some<|.str x,none,some d,none]with
   |some (.bl true)=>some (true,m++[WK d])|some (.bl false)=>(fi [P]).bind λi=>match c2 [some<|Qh m,some<|.str x,none,none,some i]with
    |some (.bl true)=>if Z9 WB m=some true then some (true,ZJ (Wx<|Wk i) m)else none|some (.bl false)=>some (false,m)|_=>none
   |_=>none else none|_=>none
noncomputable def FE(b:Zf)(x:Str)(m:BM):Option<|Bool×BM:=b [none,some<|.str x,none,none,none] m
end Wd
namespace Wd
open PySem PySem.Spec PyProof.Rows L2
abbrev Fg:=W.Frag
def Sm(F H:Hp):Prop:=∀a o,F a=some o->H a=some o
def Sm.refl(F:Hp):Sm F F:=λ_ _ h=>h
def Sm.trans{F G H:Hp}(a:Sm F G)(b:Sm G H):Sm F H:=λx o h=>b x o<|a x o h
theorem Sm.none{F H:Hp}(s:Sm F H){a:Addr}(h:H a=none):F a=none:=by cases e:F a with|none=>rfl|some o=>rw[s a o e]at h;simp at h
theorem Sm.upd{F H:Hp}(s:Sm F H){p:Addr}(o:HO)(h:F p=Option.none):Sm F<|L2.upd H p o:=λa x e=>by
 have:a≠p:=λz=>by rw[z,h]at e;simp at e
 rw[QY this];exact s a x e
def Sm.upd2{F H:Hp}(s:Sm F H)(p:Addr)(o:HO):Sm (L2.upd F p o)<|L2.upd H p o:=λa x e=>by
 by_cases z:a=p;.subst z;rw[Qu]at e⊢;exact e
 .rw[QY z]at e⊢;exact s a x e
def Sm.sqL{K:Fg}{F H:Hp}(s:Sm F H){a:Addr}{xs:List V}(h:SqL K F a xs):SqL K H a xs:=by
 rcases h with(h|⟨o,h⟩)|h;.exact .inl<|.inl<|s _ _ h
 .exact .inl<|.inr ⟨o,s _ _ h⟩
 .exact .inr h
noncomputable def Qhy:Nat->Str|0=>"NoStyle"|1=>"TooWide"|2=>"TooHigh"|3=>"Twice"|4=>"Loose"|5=>"NoLabel"|_=>"NoRow"
noncomputable def Qcc(x:Str)(o:Obj):Bool:=match o.data with|.cls cd=>decide<|cd.name=x|_=>false
def Jn(K:Fg)(c:Nat):Addr:=((K.find? λp=>Qcc (Qhy c) p.2).map (·.1)).getD 0
def Vq(a C:Addr)(dx:Option Addr)(h:Heap):Prop:=∃vs t,h.get? a=some {cls:=.ref C,dict:=dx,data:=.fields vs}/\vs.size=6/\vs[0]?=some (.ref t)
mutual inductive Rep(K:Fg)(F:Hp):V->D->Prop where|non:Rep K F .non .non|bl(b:Bool):Rep K F (.bl b)<|.bl b|int(i:Int):Rep K F (.int i)<|.int i|str(x:Str):Rep K F (.str x)<|.str x|tup{a:Addr}{xs:List V}{ds:List D}(h:F a=some (.tup xs))(r:Reps K F xs ds):Rep K F (.ref a)<|.tup ds|lst{a:Addr}{xs:List V}{ds:List D}(h:F a=some (.lst xs))(r:Reps K F xs ds):Rep K F (.ref a)<|.lst ds|scr{a:Addr}{ns:List Int}(h:SqL K F a<|ns.map V.int):Rep K F (.ref a)<|.scr ns|exc0{a:Addr}(h:F a=some (.ext<|Vq a (Jn K 0) none)):Rep K F (.ref a)<|.exc 0 .non|exc{a dx:Addr}{c:Nat}{i:Int}(h:F a=some (.ext<|Vq a (Jn K c)<|some dx))(hx:F dx=some (.xd [("row",.int i)])):Rep K F (.ref a)<|.exc c<|.int i|dic{a:Addr}{o:Obj}{ks:List Kd}{xs:List V}{ds:List D}(h:F a=some (.frz o<|.dK<|ks.zip xs))(hl:ks.length=xs.length)(r:Reps K F xs ds):Rep K F (.ref a)<|.dic ks ds inductive Reps(K:Fg)(F:Hp):List V->List D->Prop where|nil:Reps K F [] []|cons{x:V}{d:D}{xs:List V}{ds:List D}(h:Rep K F x d)(r:Reps K F xs ds):Reps K F (x::xs)<|d::ds end
def Rep.mono{K:Fg}{F F':Hp}(s:Sm F F'){v:V}{d:D}(r:Rep K F v d):Rep K F' v d:=Rep.rec (motive_1:=λv d _=>Rep K F' v d) (motive_2:=λv d _=>Reps K F' v d) .non .bl .int .str (λh _ i=>.tup (s _ _ h) i) (λh _ i=>.lst (s _ _ h) i) (λh=>.scr<|s.sqL h) (λh=>.exc0<|s _ _ h) (λh x=>.exc (s _ _ h)<|s _ _ x) (λh l _ i=>.dic (s _ _ h) l i) .nil (λ_ _ i j=>.cons i j) r
def Reps.mono{K:Fg}{F F':Hp}(s:Sm F F'){v:List V}{d:List D}(r:Reps K F v d):Reps K F' v d:=Reps.rec (motive_1:=λv d _=>Rep K F' v d) (motive_2:=λv d _=>Reps K F' v d) .non .bl .int .str (λh _ i=>.tup (s _ _ h) i) (λh _ i=>.lst (s _ _ h) i) (λh=>.scr<|s.sqL h) (λh=>.exc0<|s _ _ h) (λh x=>.exc (s _ _ h)<|s _ _ x) (λh l _ i=>.dic (s _ _ h) l i) .nil (λ_ _ i j=>.cons i j) r
section
variable{K:Fg}{F H:Hp}
def Rep.iI{v:V}{i:Int}(h:Rep K F v<|.int i):v=.int i:=by cases h;rfl
def Reps.ind{M:List V->List D->Prop}(n:M [] [])(c:∀{x:V}{d:D}{xs:List V}{ds:List D},Rep K F x d->Reps K F xs ds->M xs ds->M (x::xs) (d::ds)){xs:List V}{ds:List D}(h:Reps K F xs ds):M xs ds:=Reps.rec (motive_1:=λ_ _ _=>True) (motive_2:=λv d _=>M v d) trivial (λ_=>trivial) (λ_=>trivial) (λ_=>trivial) (λ_ _ _=>trivial) (λ_ _ _=>trivial) (λ_=>trivial) (λ_=>trivial) (λ_ _=>trivial) (λ_ _ _ _=>trivial) n (λh r _ ih=>c h r ih) h
theorem Reps.length{vs:List V}{ds:List D}(h:Reps K F vs ds):vs.length=ds.length:=h.ind (M:=λv d=>v.length=d.length) rfl λ_ _ ih=>congrArg Nat.succ ih
def Reps.get{vs:List V}{ds:List D}{i:Nat}{d:D}(h:Reps K F vs ds)(e:ds[i]?=some d):∃v,vs[i]?=some v/\Rep K F v d:=by refine h.ind (M:=λv d'=>∀i,d'[i]?=some d->∃y,v[i]?=some y/\Rep K F y d) (λi e=>by simp at e) (λh r ih i e=>?_) i e;cases i with|zero=>obtain rfl:=Q5 e;exact⟨_,rfl,h⟩|succ i=>exact ih i e
def Reps.getV{vs:List V}{ds:List D}{i:Nat}{v:V}(h:Reps K F vs ds)(e:vs[i]?=some v):∃d,ds[i]?=some d/\Rep K F v d:=by refine h.ind (M:=λv' d=>∀i,v'[i]?=some v->∃y,d[i]?=some y/\Rep K F v y) (λi e=>by simp at e) (λh r ih i e=>?_) i e;cases i with|zero=>obtain rfl:=Q5 e;exact⟨_,rfl,h⟩|succ i=>exact ih i e
def Reps.append{vs ws:List V}{ds es:List D}(h:Reps K F vs ds)(s:Reps K F ws es):Reps K F (vs++ws)<|ds++es:=h.ind (M:=λv d=>Reps K F (v++ws)<|d++es) s λh _ ih=>.cons h ih
theorem Reps.drop{vs:List V}{ds:List D}(n:Nat)(h:Reps K F vs ds):Reps K F (vs.drop n)<|ds.drop n:=by refine h.ind (M:=λv d=>Reps K F v d/\∀n,Reps K F (v.drop n)<|d.drop n) ⟨.nil,λn=>by simp only[List.drop_nil];exact .nil⟩ (λh r ih=>⟨.cons h r,λn=>?_⟩)|>.2 n;cases n with|zero=>exact .cons h r|succ n=>exact ih.2 n
theorem Reps.take{vs:List V}{ds:List D}(n:Nat)(h:Reps K F vs ds):Reps K F (vs.take n)<|ds.take n:=by refine h.ind (M:=λv d=>∀n,Reps K F (v.take n)<|d.take n) (λn=>by simp only[List.take_nil];exact .nil) (λh r ih n=>?_) n;cases n with|zero=>exact .nil|succ n=>exact .cons h<|ih n
theorem Reps.ints:∀(ns:List Int),Reps K F (ns.map V.int)<|ns.map D.int|[]=>.nil|n::ns=>.cons (.int n)<|Reps.ints ns
end
noncomputable def ho:Option (List Kd)->List V->HO|none,xs=>.lst xs|some ks,xs=>.dK<|ks.zip xs
noncomputable def YR:Option (List Kd)->List D->D|none,ds=>.lst ds|some ks,ds=>.dic ks ds
noncomputable def VP:Option (List Kd)->List V->Prop|none,_=>True|some ks,xs=>ks.length=xs.length
noncomputable def hz(o:Obj):Option (List Kd)->List V->HO|none,xs=>.lst xs|some ks,xs=>.frz o<|.dK<|ks.zip xs
theorem Rep.hz{K:Fg}{F:Hp}{p:Addr}{o:Obj}:∀{k:Option<|List Kd}{xs:List V}{ds:List D},F p=some (hz o k xs)->VP k xs->Reps K F xs ds->Rep K F (.ref p) (YR k ds)|none,_,_,h,_,r=>.lst h r|some _,_,_,h,hl,r=>.dic h hl r
inductive RdO(K:Fg)(F H:Hp)(v:V)(d:D):Prop|mk(p:Addr)(k:Option<|List Kd)(xs:List V)(ds:List D)(h1:v=.ref p)(h2:H p=some (ho k xs))(h3:Reps K F xs ds)(h4:d=YR k ds)(h5:VP k xs):RdO K F H v d
inductive RdD(K:Fg)(F H:Hp)(v:V)(d:D):Prop|inl(r:Rep K F v d):RdD K F H v d|inr(r:RdO K F H v d):RdD K F H v d
structure Gr(F H F' H':Hp):Prop where
 ff:Sm F F'
 hh:Sm H H'
 fh:Sm F' H'
 fr:∀a o,F' a=some o->F a=some o\/H a=none
theorem Gr.refl{F H:Hp}(s:Sm F H):Gr F H F H:=⟨.refl _,.refl _,s,λ_ _ h=>.inl h⟩
theorem Gr.trans{F H F1 H1 F2 H2:Hp}(a:Gr F H F1 H1)(b:Gr F1 H1 F2 H2):Gr F H F2 H2:=⟨a.ff.trans b.ff,a.hh.trans b.hh,b.fh,λx o h=>by
  rcases b.fr x o h with h|h;.exact a.fr x o h
  .exact .inr<|a.hh.none h⟩
def Gr.new{F H:Hp}(s:Sm F H){p:Addr}(h:H p=none)(o:HO):Gr F H (upd F p o)<|upd H p o:=⟨(Sm.refl F).upd o<|s.none h,(Sm.refl H).upd o h,s.upd2 p o,λa x e=>by
  by_cases z:a=p;.subst z;exact .inr h
  .rw[QY z]at e;exact .inl e⟩
def Gr.newO{F H:Hp}(s:Sm F H){p:Addr}(h:H p=none)(o:HO):Gr F H F<|upd H p o:=⟨.refl F,(Sm.refl H).upd o h,s.upd o<|s.none h,λ_ _ e=>.inl e⟩
def RdD.gr{K:Fg}{F H F' H':Hp}{v:V}{d:D}(g:Gr F H F' H')(r:RdD K F H v d):RdD K F' H' v d:=by
 rcases r with r|⟨p,k,xs,ds,rfl,h,r,rfl,hk⟩;.exact .inl<|r.mono g.ff
 .exact .inr ⟨p,k,xs,ds,rfl,g.hh _ _ h,r.mono g.ff,rfl,hk⟩
structure Fz where
 f:Hp
 h:Hp
 p:Nat->Option Addr
abbrev np:Nat->Option Addr:=λ_=>none
noncomputable abbrev yp(p:Addr):Nat->Option Addr:=λ_=>some p
def J1(i:Nat):Nat:=1000+i
inductive OwnAt(K:Fg)(F0:Fz)(F H:Hp)(o:Option<|Option V)(d:D):Prop|mk(p:Addr)(k:Option<|List Kd)(xs:List V)(ds:List D)(h1:o=some (some<|.ref p))(h2:F0.h p=none)(h3:F p=none)(h4:H p=some (ho k xs))(h5:Reps K F xs ds)(h6:d=YR k ds)(h7:VP k xs):OwnAt K F0 F H o d
structure RS(K:Fg)(H₀:Hp)(F0:Fz)(F H:Hp)(σ:L2.St)(e:Q8)(O:List Nat):Prop where
 fh:Sm F H
 hh:Sm F0.h H
 ff:Sm F0.f F
 fr:∀a o,F a=some o->F0.f a=some o\/F0.h a=none
 slot:∀i d,e[i]?=some (some d)->i∉O->∃v,σ[i]?=some (some v)/\Rep K F v d
 own:∀i d,e[i]?=some (some d)->i∈O->OwnAt K F0 F H σ[i]? d
 dis:∀i j p d d',i∈O->j∈O->e[i]?=some (some d)->e[j]?=some (some d')->σ[i]?=some (some<|.ref p)->σ[j]?=some (some<|.ref p)->i=j
 pin:∀i,J1 i∈O->∃p,F0.p i=some p/\σ[i]?=some (some<|.ref p)len:σ.length=e.length
def RS.grow{K:Fg}{H₀:Hp}{F0:Fz}{F H F' H':Hp}{σ:L2.St}{e:Q8}{O:List Nat}(r:RS K H₀ F0 F H σ e O)(g:Gr F H F' H'):RS K H₀ F0 F' H' σ e O where
 fh:=g.fh
 hh:=r.hh.trans g.hh
 ff:=r.ff.trans g.ff
 fr:=λa o h=>by
  rcases g.fr a o h with h|h;.exact r.fr a o h
  .exact .inr<|r.hh.none h
 slot:=λi d h hi=>by obtain⟨v,h1,h2⟩:=r.slot i d h hi;exact⟨v,h1,h2.mono g.ff⟩
 own:=λi d h hi=>by
  obtain⟨p,k,xs,ds,h1,h2,h3,h4,h5,h6,h7⟩:=r.own i d h hi;refine⟨p,k,xs,ds,h1,h2,?_,g.hh _ _ h4,h5.mono g.ff,h6,h7⟩;cases q:F' p with|none=>rfl|some o=>
   rcases g.fr p o q with z|z;.rw[h3]at z;simp at z
   .rw[h4]at z;simp at z
 dis:=r.dis
 pin:=r.pin
 len:=r.len
section
variable(X:Cx)(O:List Nat)
inductive tD(ev:Q6)(σ:L2.St)(H:Hp)(Q:VK):Prop|mk(F0:Fz)(F:Hp)(e:Q8)(d:D)(h1:RS X.K X.H₀ F0 F H σ e O)(h2:ev e=some d)(h3:∀v F' H',Gr F H F' H'->Rep X.K F' v d->Q v H'):tD ev σ H Q
inductive tR(ev:Q6)(σ:L2.St)(H:Hp)(Q:VK):Prop|mk(F0:Fz)(F:Hp)(e:Q8)(d:D)(h1:RS X.K X.H₀ F0 F H σ e O)(h2:ev e=some d)(h3:∀v F' H',Gr F H F' H'->RdD X.K F' H' v d->Q v H'):tR ev σ H Q
inductive tO(ev:Q6)(σ:L2.St)(H:Hp)(Q:VK):Prop|mk(F0:Fz)(F:Hp)(e:Q8)(d:D)(h1:RS X.K X.H₀ F0 F H σ e O)(h2:ev e=some d)(h3:∀p k xs ds F' H',Gr F H F' H'->H p=none->F' p=none->H' p=some (ho k xs)->Reps X.K F' xs ds->d=YR k ds->VP k xs->Q (.ref p) H'):tO ev σ H Q
inductive tDT(ev:Q6)(σ:L2.St)(H:Hp)(Q:Bool->Hp->Prop):Prop|mk(F0:Fz)(F:Hp)(e:Q8)(b:Bool)(h1:RS X.K X.H₀ F0 F H σ e O)(h2:ev e=some (.bl b))(h3:∀F' H',Gr F H F' H'->Q b H'):tDT ev σ H Q
inductive tL(l:ZK)(σ:L2.St)(H:Hp)(Q:List V->Hp->Prop):Prop|mk(F0:Fz)(F:Hp)(e:Q8)(ds:List D)(h1:RS X.K X.H₀ F0 F H σ e O)(h2:l e=some ds)(h3:∀vs F' H',Gr F H F' H'->Reps X.K F' vs ds->Q vs H'):tL l σ H Q
inductive tOI(l:Ut)(σ:L2.St)(H:Hp)(Q:Option Int->Hp->Prop):Prop|mk(F0:Fz)(F:Hp)(e:Q8)(o:Option Int)(h1:RS X.K X.H₀ F0 F H σ e O)(h2:l e=some o)(h3:∀F' H',Gr F H F' H'->Q o H'):tOI l σ H Q
end
section
variable{X:Cx}{O:List Nat}{e a b c:Expr}{pos:Pos}
def PE.imp{t t':TE}(h:PE X e t)(q:∀σ H Q,t' σ H Q->t σ H Q):PE X e t':=λaa s σ H Q I z=>h aa s σ H Q I<|q σ H Q z
def PT.imp{t t':TT}(h:PT X e t)(q:∀σ H Q,t' σ H Q->t σ H Q):PT X e t':=λaa s σ H Q I z=>h aa s σ H Q I<|q σ H Q z
def PW.imp{t t':TT}(h:PW X e t)(q:∀σ H Q,t' σ H Q->t σ H Q):PW X e t':=λw aa s σ H Q I z=>h w aa s σ H Q I<|q σ H Q z
def PA.imp{es:List Expr}{t t':TA}(h:PA X es t)(q:∀σ H Q,t' σ H Q->t σ H Q):PA X es t':=λp aa s σ H Q I z=>h p aa s σ H Q I<|q σ H Q z
def PS.imp{st:Stmt}{t t':TS}(h:PS X st t)(q:∀D σ H,t' D σ H->t D σ H):PS X st t':=λaa s σ H D I z=>h aa s σ H D I<|q D σ H z
def PSs.imp{st:List Stmt}{t t':TS}(h:PSs X st t)(q:∀D σ H,t' D σ H->t D σ H):PSs X st t':=λaa s σ H D I z=>h aa s σ H D I<|q D σ H z
def dr{ev:Q6}(h:PE X e<|tD X O ev):PE X e<|tR X O ev:=PE.imp h<|by rintro σ H Q⟨F0,F,en,d,r,w,k⟩;exact⟨F0,F,en,d,r,w,λv F' H' g q=>k v F' H' g<|.inl q⟩
def dC{v:V}{d:D}(hr:∀K F,Rep K F v d)(h:PE X e<|tC v):PE X e<|tD X O<|eC d:=PE.imp h<|by rintro σ H Q⟨F0,F,en,d',r,w,k⟩;obtain rfl:=Q5 w;exact k v F H (.refl r.fh)<|hr _ _
def Y9{j}:PE X (.Constant .none j pos)<|tD X O<|eC .non:=dC (λ_ _=>.non) RD
def Yi{b:Bool}{j}:PE X (.Constant (.bool b) j pos)<|tD X O<|eC<|.bl b:=dC (λ_ _=>.bl b) YI
def Zh{i:Int}{j}:PE X (.Constant (.int i) j pos)<|tD X O<|eC<|.int i:=dC (λ_ _=>.int i) WD
def Q7{x:Str}{j}:PE X (.Constant (.str x) j pos)<|tD X O<|eC<|.str x:=dC (λ_ _=>.str x) Ou
def Zi{i:Nat}{en:Q8}{d:D}(h:eV i en=some d):en[i]?=some (some d):=by unfold eV at h;cases q:en[i]?with|none=>rw[q]at h;simp at h|some o=>rw[q]at h;cases o with|none=>simp at h|some x=>obtain rfl:=Q5 h;rfl
def JS(i:Nat){x:Str}(hN:X.N[i]?=some x:=by rfl)(hv:Yy X.env.scope x:=by first|exact Or.inl rfl|exact Or.inr<|Or.inl rfl|exact Or.inr<|Or.inr rfl)(hO:i∉O:=by decide)(hd:XV x:=by decide)(bE:(x==("__classdict__":Str))=false:=by decide):PE X (.Name x pos)<|tD X O<|eV i:=PE.imp (J8 hN hv hd bE)<|by rintro σ H Q⟨F0,F,en,d,r,w,k⟩;obtain⟨v,h1,h2⟩:=r.slot i d (Zi w) hO;exact⟨v,h1,k v F H (.refl r.fh) h2⟩
def VY(i:Nat){x:Str}(hN:X.N[i]?=some x:=by rfl)(hv:Yy X.env.scope x:=by first|exact Or.inl rfl|exact Or.inr<|Or.inl rfl|exact Or.inr<|Or.inr rfl)(hd:XV x:=by decide)(bE:(x==("__classdict__":Str))=false:=by decide):PE X (.Name x pos)<|tR X O<|eV i:=PE.imp (J8 hN hv hd bE)<|by
  rintro σ H Q⟨F0,F,en,d,r,w,k⟩;by_cases hO:i∈O;.obtain⟨p,kk,xs,ds,h1,_,_,h4,h5,h6,h7⟩:=r.own i d (Zi w) hO;exact⟨_,h1,k _ F H (.refl r.fh)<|.inr ⟨p,kk,xs,ds,rfl,h4,h5,h6,h7⟩⟩
  .obtain⟨v,h1,h2⟩:=r.slot i d (Zi w) hO;exact⟨v,h1,k v F H (.refl r.fh)<|.inl h2⟩
def Jr(X:Cx)(r:R2)(g:D->D->Option D):Prop:=∀(F H:Hp)(x y:V)(dx dy d:D)(Q:VK),Sm F H->RdD X.K F H x dx->RdD X.K F H y dy->g dx dy=some d->(∀v F' H',Gr F H F' H'->Rep X.K F' v d->Q v H')->r x y H Q
def Wq{α β γ:Type}{a:Option α}{b:Option β}{g:α->β->Option γ}{d:γ}(h:(a.bind λx=>b.bind λy=>g x y)=some d):∃x y,a=some x/\b=some y/\g x y=some d:=by cases a with|none=>simp at h|some x=>cases b with|none=>simp at h|some y=>exact⟨x,y,rfl,rfl,h⟩
def Qg{α β:Type}{a:Option α}{g:α->Option β}{d:β}(h:(a.bind λx=>g x)=some d):∃x,a=some x/\g x=some d:=by cases a with|none=>simp at h|some x=>exact⟨x,rfl,h⟩
def Z0{α β:Type}{a:Option α}{g:α->β}{d:β}(h:a.map g=some d):∃x,a=some x/\g x=d:=by cases a with|none=>simp at h|some x=>obtain rfl:=Q5 h;exact⟨x,rfl,rfl⟩
def OD{r:R2}{g:D->D->Option D}{ea eb:Q6}(ho:Jr X r g){σ:L2.St}{H:Hp}{Q:VK}(h:tD X O (Q4 g ea eb) σ H Q):XQ r (tR X O ea) (tR X O eb) σ H Q:=by obtain⟨F0,F,en,d,rs,w,k⟩:=h;obtain⟨dx,dy,e1,e2,e3⟩:=Wq w;refine⟨F0,F,en,dx,rs,e1,λx F1 H1 g1 r1=>?_⟩;refine⟨F0,F1,en,dy,rs.grow g1,e2,λy F2 H2 g2 r2=>?_⟩;exact ho F2 H2 x y dx dy d Q g2.fh (r1.gr g2) r2 e3 λv F' H' g3 r3=>k v F' H' ((g1.trans g2).trans g3) r3
def QC{op:Operator}{r:R2}{g:D->D->Option D}{ea eb:Q6}(ho:OpR X (binaryOp op) r/\Jr X r g)(ha:PE X a<|tR X O ea)(hb:PE X b<|tR X O eb):PE X (.BinOp a op b pos)<|tD X O<|Q4 g ea eb:=PE.imp (D9 ho.1 ha hb) λσ H Q=>OD ho.2
def Zo{op:CmpOp}{r:R2}{g:D->D->Option D}{ea eb:Q6}(ho:OpR X (compareOp op) r/\Jr X r g)(ha:PE X a<|tR X O ea)(hb:PE X b<|tR X O eb)(hm:behindInMarks op b=false):PE X (.Compare a [op] [b] pos)<|tD X O<|Q4 g ea eb:=PE.imp (Qfe ho.1 ha hb hm) λσ H Q=>OD ho.2
def Qa8{ea eb:Q6}{r:R2}(ho:IxR X r/\Jr X r D.ix)(ha:PE X a<|tR X O ea)(hb:PE X b<|tR X O eb)(hs:Ni b:=by intro _ _;rfl):PE X (.Subscript a b pos)<|tD X O<|Q4 D.ix ea eb:=PE.imp (Y1 ho.1 ha hb hs) λσ H Q=>OD ho.2
end
section
variable{K:Fg}{F H:Hp}{v:V}
theorem RdD.int{i:Int}(r:RdD K F H v<|.int i):v=.int i:=by
 rcases r with r|⟨_,k,_,_,_,_,_,z,_⟩;.cases r;rfl
 .cases k<;>cases z
theorem RdD.bl{b:Bool}(r:RdD K F H v<|.bl b):v=.bl b:=by
 rcases r with r|⟨_,k,_,_,_,_,_,z,_⟩;.cases r;rfl
 .cases k<;>cases z
theorem RdD.str{x:Str}(r:RdD K F H v<|.str x):v=.str x:=by
 rcases r with r|⟨_,k,_,_,_,_,_,z,_⟩;.cases r;rfl
 .cases k<;>cases z
theorem RdD.non(r:RdD K F H v .non):v=.non:=by
 rcases r with r|⟨_,k,_,_,_,_,_,z,_⟩;.cases r;rfl
 .cases k<;>cases z
theorem RdD.tup{ds:List D}(r:RdD K F H v<|.tup ds):∃p xs,v=.ref p/\F p=some (.tup xs)/\Reps K F xs ds:=by
 rcases r with r|⟨_,k,_,_,_,_,_,z,_⟩;.cases r with|tup h r=>exact⟨_,_,rfl,h,r⟩
 .cases k<;>cases z
theorem RdD.lst{ds:List D}(s:Sm F H)(r:RdD K F H v<|.lst ds):∃p xs,v=.ref p/\H p=some (.lst xs)/\Reps K F xs ds:=by
 rcases r with r|⟨p,k,xs,eg,h1,h2,h3,z,_⟩;.cases r with|lst h r=>exact⟨_,_,rfl,s _ _ h,r⟩
 .cases k with|none=>cases z;exact⟨p,xs,h1,h2,h3⟩|some ks=>cases z
theorem RdD.dic{ks:List Kd}{ds:List D}(s:Sm F H)(r:RdD K F H v<|.dic ks ds):∃p xs,v=.ref p/\Rd H p (.dK<|ks.zip xs)/\ks.length=xs.length/\Reps K F xs ds:=by
 rcases r with r|⟨p,k,xs,eg,h1,h2,h3,z,h4⟩;.cases r with|dic h hl r=>exact⟨_,_,rfl,.inr ⟨_,s _ _ h⟩,hl,r⟩
 .cases k with|none=>cases z|some ks'=>cases z;exact⟨p,xs,h1,.inl h2,h4,h3⟩
theorem RdD.scr{ns:List Int}(r:RdD K F H v<|.scr ns):∃p,v=.ref p/\SqL K F p (ns.map V.int):=by
 rcases r with r|⟨_,k,_,_,_,_,_,z,_⟩;.cases r with|scr h=>exact⟨_,rfl,h⟩
 .cases k<;>cases z
def RdD.rep{d:D}(s:Sm F H)(hd:∀ks ds,d≠.dic ks ds)(r:RdD K F H v d):Rep K H v d:=by
 rcases r with r|⟨p,k,xs,eg,rfl,h2,h3,rfl,h4⟩;.exact r.mono s
 .cases k with|none=>exact .lst h2<|h3.mono s|some ks=>exact absurd rfl<|hd ks eg
end
section
variable{X:Cx}
def YL:sizeLine=Qz:=by decide
def Bw{dx dy d:D}(h:D.add dx dy=some d):(∃i j,dx=.int i/\dy=.int j/\d=.int (i+j))\/(∃x y,dx=.str x/\dy=.str y/\x.length+y.length<=Qz/\d=.str (x++y))\/(∃xs ys,dx=.lst xs/\dy=.lst ys/\xs.length+ys.length<=Qz/\d=.lst (xs++ys))\/∃x xs ys,dx=.tup (x::xs)/\dy=.tup ys/\xs.length+1+ys.length<=Qz/\d=.tup (x::xs++ys):=by cases dx with
 |int i=>cases dy with|int j=>exact .inl ⟨i,j,rfl,rfl,(Q5 h).symm⟩|_=>contradiction
 |str x=>cases dy with
  |str y=>
   replace h:(if x.length+y.length<=Qz then some<|D.str<|x++y else none)=some d:=h;split at h;.exact .inr<|.inl ⟨x,y,rfl,rfl,‹_›,(Q5 h).symm⟩
   .contradiction|_=>contradiction
 |lst xs=>cases dy with
  |lst ys=>
   replace h:(if xs.length+ys.length<=Qz then some<|D.lst<|xs++ys else none)=some d:=h;split at h;.exact .inr<|.inr<|.inl ⟨xs,ys,rfl,rfl,‹_›,(Q5 h).symm⟩
   .contradiction|_=>contradiction
 |tup xs=>cases xs with
  |nil=>contradiction|cons x xs=>cases dy with
   |tup ys=>
    replace h:(if xs.length+1+ys.length<=Qz then some<|D.tup<|x::xs++ys else none)=some d:=h;split at h;.exact .inr<|.inr<|.inr ⟨x,xs,ys,rfl,rfl,‹_›,(Q5 h).symm⟩
    .contradiction|_=>contradiction
 |_=>contradiction
def QV:OpR X (binaryOp .Add) (λx y H Q=>((∃i j,x=.int i/\y=.int j/\Q (.int<|i+j) H)\/∃i j,x=.str i/\y=.str j/\i.length+j.length<=sizeLine/\Q (.str<|i++j) H)\/Lp x y H Q\/Lq X.K x y H Q)/\Jr X (λx y H Q=>((∃i j,x=.int i/\y=.int j/\Q (.int<|i+j) H)\/∃i j,x=.str i/\y=.str j/\i.length+j.length<=sizeLine/\Q (.str<|i++j) H)\/Lp x y H Q\/Lq X.K x y H Q) D.add:=by
 refine⟨OpR.or (OpR.or QeH QeI)<|OpR.or Er QeJ,λF H x y dx dy d Q s rx ry e k=>?_⟩;rcases Bw e with⟨i,j,rfl,rfl,rfl⟩|⟨i,j,rfl,rfl,hz,rfl⟩|⟨xs,ys,rfl,rfl,hz,rfl⟩|⟨z,xs,ys,rfl,rfl,hz,rfl⟩;.exact .inl<|.inl ⟨i,j,rx.int,ry.int,k _ F H (.refl s)<|.int _⟩
 .exact .inl<|.inr ⟨i,j,rx.str,ry.str,by rw[YL];exact hz,k _ F H (.refl s)<|.str _⟩
 .obtain⟨p,us,rfl,h1,r1⟩:=rx.lst s;obtain⟨q,ws,rfl,h2,r2⟩:=ry.lst s;refine .inr<|.inl ⟨p,q,us,ws,rfl,rfl,h1,h2,by rw[YL,r1.length,r2.length];exact hz,λl hl=>?_⟩;have g:=Gr.new s hl<|.lst<|us++ws;exact k _ _ _ g<|.lst Qu<|(r1.append r2).mono g.ff
 .obtain⟨p,us,rfl,h1,r1⟩:=rx.tup;obtain⟨q,ws,rfl,h2,r2⟩:=ry.tup;have hu:us≠[]:=λz=>by subst z;cases r1
  refine .inr<|.inr ⟨p,q,us,ws,rfl,rfl,SqT.of<|s _ _ h1,SqT.of<|s _ _ h2,hu,?_,λz=>?_,λ_ l hl=>?_⟩;.rw[YL,r1.length,r2.length];exact hz
  .subst z;cases r2;refine k _ F H (.refl s) ?_;rw[Yv];exact .tup h1 r1
  .have g:=Gr.new s hl<|.tup<|us++ws;exact k _ _ _ g<|.tup Qu<|(r1.append r2).mono g.ff
def Pl{g:D->D->Option D}(h:∀dx dy d,g dx dy=some d->∃i j,dx=.int i/\dy=.int j){C:Int->Int->Prop}{f:Int->Int->V}{fd:Int->Int->D}(hg:∀i j d,g (.int i) (.int j)=some d->C i j/\d=fd i j)(hf:∀K F i j,Rep K F (f i j)<|fd i j):Jr X (rI C f) g:=λF H x y dx dy d Q s rx ry e k=>by obtain⟨i,j,rfl,rfl⟩:=h dx dy d e;obtain⟨c,rfl⟩:=hg i j d e;exact⟨i,j,rx.int,ry.int,c,k _ F H (.refl s)<|hf _ _ i j⟩
def L5{g:D->D->Option D}(h:∀dx dy d,g dx dy=some d->∃i j,dx=.int i/\dy=.int j){f:Int->Int->V}{fd:Int->Int->D}(hg:∀i j d,g (.int i) (.int j)=some d->d=fd i j)(hf:∀K F i j,Rep K F (f i j)<|fd i j):Jr X (VL f) g:=λF H x y dx dy d Q s rx ry e k=>by obtain⟨i,j,rfl,rfl⟩:=h dx dy d e;cases hg i j d e;exact⟨i,j,rx.int,ry.int,k _ F H (.refl s)<|hf _ _ i j⟩
def Qe0:OpR X (binaryOp .Sub) (VL λi j=>.int<|i-j)/\Jr X (VL λi j=>.int<|i-j) D.sub:=⟨QeZ,L5 (fd:=λi j=>.int<|i-j) (λdx dy d e=>by cases dx<;>cases dy<;>simp[D.sub]at e⊢) (λi j d e=>by obtain rfl:=Q5 e;rfl) λ_ _ _ _=>.int _⟩
def QeS:OpR X (binaryOp .Mult) (rI CMul λi j=>.int<|i*j)/\Jr X (rI CMul λi j=>.int<|i*j) D.mul:=⟨Eu,Pl (fd:=λi j=>.int<|i*j) (λdx dy d e=>by cases dx<;>cases dy<;>simp[D.mul]at e⊢) (λi j d e=>by
  simp only[D.mul]at e;split at e;.rename_i h;obtain rfl:=Q5 e;exact⟨h,rfl⟩
  .simp at e) λ_ _ _ _=>.int _⟩
def J6:OpR X (binaryOp .Mod) (rI (λ_ j=>0<j) λi j=>.int<|i%j)/\Jr X (rI (λ_ j=>0<j) λi j=>.int<|i%j) D.mod:=⟨QeR,Pl (fd:=λi j=>.int<|i%j) (λdx dy d e=>by cases dx<;>cases dy<;>simp[D.mod]at e⊢) (λi j d e=>by
  simp only[D.mod]at e;split at e;.rename_i h;obtain rfl:=Q5 e;exact⟨h,rfl⟩
  .simp at e) λ_ _ _ _=>.int _⟩
def Zk:OpR X (binaryOp .FloorDiv) (rI NM λi j=>.int<|i/j)/\Jr X (rI NM λi j=>.int<|i/j) D.fdiv:=⟨QeL,Pl (fd:=λi j=>.int<|i/j) (λdx dy d e=>by cases dx<;>cases dy<;>simp[D.fdiv]at e⊢) (λi j d e=>by
  simp only[D.fdiv]at e;split at e;.rename_i h;obtain rfl:=Q5 e;exact⟨h,rfl⟩
  .simp at e) λ_ _ _ _=>.int _⟩
def Ey:OpR X (binaryOp .Pow) (rI NN λi j=>.int<|i^j.toNat)/\Jr X (rI NN λi j=>.int<|i^j.toNat) D.pow:=⟨QeX,Pl (fd:=λi j=>.int<|i^j.toNat) (λdx dy d e=>by cases dx<;>cases dy<;>simp[D.pow]at e⊢) (λi j d e=>by
  simp only[D.pow]at e;split at e;.rename_i h;obtain rfl:=Q5 e;exact⟨h,rfl⟩
  .simp at e) λ_ _ _ _=>.int _⟩
def Lb:OpR X (compareOp .Lt) (VL λi j=>.bl<|decide<|i<j)/\Jr X (VL λi j=>.bl<|decide<|i<j) D.lt:=⟨QeQ,L5 (fd:=λi j=>.bl<|decide<|i<j) (λdx dy d e=>by cases dx<;>cases dy<;>simp[D.lt]at e⊢) (λi j d e=>by obtain rfl:=Q5 e;rfl) λ_ _ _ _=>.bl _⟩
def VE:OpR X (compareOp .Gt) (VL λi j=>.bl<|decide<|j<i)/\Jr X (VL λi j=>.bl<|decide<|j<i) D.gt:=⟨QeM,L5 (fd:=λi j=>.bl<|decide<|j<i) (λdx dy d e=>by cases dx<;>cases dy<;>simp[D.gt]at e⊢) (λi j d e=>by obtain rfl:=Q5 e;rfl) λ_ _ _ _=>.bl _⟩
def Nu{xs:List V}{ds:List D}{F:Hp}{i:Int}{d:D}(r:Reps X.K F xs ds)(e:((JD ds.length i).bind λk=>ds[k]?)=some d):∃v,V0 xs i=some v/\Rep X.K F v d:=by obtain⟨k,e1,e2⟩:=Qg e;obtain⟨v,h1,h2⟩:=r.get e2;refine⟨v,?_,h2⟩;unfold V0;rw[r.length,show WX ds.length i=some k from e1];exact h1
def QeG:Jr X (Tn X.K) D.ix:=λF H x y dx dy d Q s rx ry e k=>by
 cases dx<;>cases dy<;>try(simp[D.ix]at e;done)
 case str.int z i=>
  simp only[D.ix]at e;split at e
  .rename_i hz;obtain⟨j,e1,e2⟩:=Qg e;obtain⟨c,e3,rfl⟩:=Z0 e2;refine .inr<|.inr ⟨z,i,c,rx.str,ry.int,by rw[YL];exact hz,?_,k _ F H (.refl s)<|.str _⟩;unfold V0;have hl:z.cps.toList.length=z.length:=by simp[Str.length]
   rw[hl,show WX z.length i=some j from e1];simpa using e3
  .simp at e
 case tup.int ds i=>
  obtain⟨p,xs,rfl,h,r⟩:=rx.tup;obtain⟨v,h1,h2⟩:=Nu r e;exact .inr<|.inl ⟨p,xs,i,v,rfl,ry.int,SqT.of<|s _ _ h,h1,k _ F H (.refl s) h2⟩
 case lst.int ds i=>
  obtain⟨p,xs,rfl,h,r⟩:=rx.lst s;obtain⟨v,h1,h2⟩:=Nu r e;exact .inl ⟨p,xs,i,v,rfl,ry.int,SqL.of h,h1,k _ F H (.refl s) h2⟩
 case scr.int ns i=>
  obtain⟨p,rfl,h⟩:=rx.scr;have r:Reps X.K F (ns.map V.int)<|ns.map D.int:=Reps.ints ns;have e':((JD (ns.map D.int).length i).bind λk=>(ns.map D.int)[k]?)=some d:=by
   rw[Qr];simp only[D.ix]at e;simpa using e
  obtain⟨v,h1,h2⟩:=Nu r e';exact .inl ⟨p,_,i,v,rfl,ry.int,s.sqL h,h1,k _ F H (.refl s) h2⟩
def QeP:IxR X (Tn X.K)/\Jr X (Tn X.K) D.ix:=⟨Zy,QeG⟩
def Qp{O:List Nat}{a b:Expr}{pos:Pos}{ea eb:Q6}(ha:PE X a<|tR X O ea)(hb:PE X b<|tR X O eb)(hs:Ni b:=by intro _ _;rfl):PE X (.Subscript a b pos)<|tD X O<|Q4 D.ix ea eb:=Qa8 QeP ha hb hs
end
def V7(ds es:List D)(j:Nat):Bool:=match ds[j]?,es[j]?with|some d,some e=>(D.eq d e).getD false|_,_=>false
def Qbv(d e:D)(ds es:List D)(j:Nat):V7 (d::ds) (e::es) (j+1)=V7 ds es j:=by simp[V7]
theorem PU:∀(ds es:List D)(b:Bool),D.eqL ds es=some b->(∀(j:Nat)(d e:D),ds[j]?=some d->es[j]?=some e->∃c,D.eq d e=some c)/\b=((List.range<|min ds.length es.length).all (V7 ds es)&&ds.length==es.length)
 |[],[],b,h=>by
  rw[D.eqL]at h;obtain rfl:=Q5 h;exact⟨λj d e h=>by simp at h,by simp⟩|[],e::es,b,h=>by
  rw[D.eqL]at h;.obtain rfl:=Q5 h;exact⟨λj d e h=>by simp at h,by simp⟩
  all_goals simp|d::ds,[],b,h=>by
  rw[D.eqL]at h;.obtain rfl:=Q5 h;exact⟨λj d e _ h=>by simp at h,by simp⟩
  all_goals simp|d::ds,e::es,b,h=>by
  rw[D.eqL]at h;cases q1:D.eq d e with
  |none=>rw[q1]at h;cases h|some b1=>cases q2:D.eqL ds es with
   |none=>rw[q1,q2]at h;cases h|some b2=>
    rw[q1,q2,HG]at h;obtain rfl:=Q5 h;obtain⟨i1,i2⟩:=PU ds es b2 q2;refine⟨λj d' e' h1 h2=>?_,?_⟩;.cases j with
     |zero=>simp at h1 h2;subst h1 h2;exact⟨b1,q1⟩|succ j=>exact i1 j d' e' (by simpa using h1)<|by simpa using h2
    .have hm:min (d::ds).length (e::es).length=min ds.length es.length+1:=Nat.add_min_add_right ..;rw[hm,List.range_succ_eq_map,VI,all_map];have h0:V7 (d::ds) (e::es) 0=b1:=by simp[V7,q1]
     have hf:V7 (d::ds) (e::es)∘Nat.succ=V7 ds es:=funext λj=>Qbv d e ds es j;rw[h0,hf,i2];simp[Bool.and_assoc]
def FV{K:Fg}{H:Hp}{xs:List V}{ds es:List D}{b:Bool}(r1:Reps K H xs ds)(r2:Reps K H xs es)(h:D.eqL ds es=some b):b=true:=by
 refine Reps.rec (motive_1:=λx d _=>∀(e:D)(b:Bool),Rep K H x e->D.eq d e=some b->b=true) (motive_2:=λxs ds _=>∀(es:List D)(b:Bool),Reps K H xs es->D.eqL ds es=some b->b=true) ?_ ?_ ?_ ?_ ?_ ?_ ?_ ?_ ?_ ?_ ?_ ?_ r1 es b r2 h;.intro e b r h;cases r;rw[D.eq]at h;obtain rfl:=Q5 h;rfl
 .intro c e b r h;cases r;rw[D.eq]at h;obtain rfl:=Q5 h;exact beq_self_eq_true c
 .intro c e b r h;cases r;rw[D.eq]at h;obtain rfl:=Q5 h;exact J2 rfl
 .intro c e b r h;cases r;rw[D.eq]at h;obtain rfl:=Q5 h;exact J2 rfl
 .intro a xs ds h1 r1 i e b r h;cases r with
  |tup h2 r2=>rw[h1]at h2;cases h2;rw[D.eq]at h;exact i _ _ r2 h|lst h2 r2=>rw[h1]at h2;simp at h2|_=>rw[D.eq]at h;cases h;exact nofun
 .intro a xs ds h1 r1 i e b r h;cases r with
  |lst h2 r2=>rw[h1]at h2;cases h2;rw[D.eq]at h;exact i _ _ r2 h|tup h2 r2=>rw[h1]at h2;simp at h2|_=>rw[D.eq]at h;cases h;exact nofun
 .intro a ns h1 e b r h;rw[D.eq]at h;simp at h
 .intro a h1 e b r h;rw[D.eq]at h;simp at h
 .intro a dx c i h1 hx e b r h;rw[D.eq]at h;simp at h
 .intros;rename_i h;rw[D.eq]at h;simp at h
 .intro e b r h;cases r;rw[D.eqL]at h;obtain rfl:=Q5 h;rfl
 .intro x d xs ds h1 r1 i1 i2 es b r h;cases r with|@cons _ e _ es h2 r2=>rw[D.eqL]at h;cases q1:D.eq d e with|none=>rw[q1]at h;cases h|some b1=>cases q2:D.eqL ds es with|none=>rw[q1,q2]at h;cases h|some b2=>rw[q1,q2,HG]at h;obtain rfl:=Q5 h;rw[i1 _ _ h2 q1,i2 _ _ r2 q2];rfl
def AA(i j:Int):(i==j)=decide (i=j):=by by_cases h:i=j<;>simp[h]
theorem FG:∀{ds:List D}{j:Nat}{d:D},ds[j]?=some d->d.dep<=D.depL ds|[],_,_,h=>by simp at h|d::ds,0,_,h=>by simp at h;subst h;rw[PK];exact Nat.le_max_left _ _|d::ds,j+1,x,h=>by rw[PK];exact ZU (FG (ds:=ds) (j:=j)<|by simpa using h)<|Nat.le_max_right _ _
section
variable{X:Cx}{aa:List<|Addr×Obj}{σ:L2.St}{H:Hp}{s:Shared}
def Rq(A:Around)(s:Shared)(v u:Value)(b:Bool):Prop:=SeqAt.RcAt A s v u b/\SeqAt.EqAt A s v u b/\SeqAt.RcNeAt A s v u (!b)
def Fw(I:Inv X aa σ H s){n:Nat}{ds es:List D}{xs ys:List V}{us ws:List Value}{A:Around}{b:Bool}(hn:D.depL ds<=n)(hA:A.units+n<cLine)(ih:∀(d e:D)(x y:V)(v u:Value)(b:Bool),d.dep<=n->Rep X.K H x d->Rep X.K H y e->RelV x v->RelV y u->D.eq d e=some b->Rq A s v u b)(r1:Reps X.K H xs ds)(r2:Reps X.K H ys es)(v1:Vals xs us)(v2:Vals ys ws)(h:D.eqL ds es=some b):∀j(h1:j<us.toArray.size)(h2:j<ws.toArray.size),SeqAt.EqAt A s us.toArray[j] ws.toArray[j]<|V7 ds es j:=λj h1 h2=>by
 obtain⟨q1,q2⟩:=PU ds es b h;have l1:=r1.length;have l2:=r2.length;have l3:=v1.length;have l4:=v2.length;simp only[Jh]at h1 h2;have hd:j<ds.length:=by omega
 have he:j<es.length:=by omega
 obtain⟨x,hx,rx⟩:=r1.get<|ZQ hd;obtain⟨y,hy,ry⟩:=r2.get<|ZQ he;obtain⟨u,hu,ru⟩:=v1.get hx;obtain⟨w,hw,ej⟩:=v2.get hy;obtain⟨c,hc⟩:=q1 j _ _ (ZQ hd)<|ZQ he;have e1:us.toArray[j]=u:=by
  rw[ZQ h1]at hu;simpa using Q5 hu
 have e2:ws.toArray[j]=w:=by
  rw[ZQ h2]at hw;simpa using Q5 hw
 have e3:V7 ds es j=c:=by simp[V7,ZQ hd,ZQ he,hc]
 rw[e1,e2,e3];exact(ih _ _ x y u w c (ZU (FG<|ZQ hd) hn) rx ry ru ej hc).2.1
def Lv{A:Around}{p q:Addr}{b:Bool}(h:SeqAt.RcAt A s (.ref p) (.ref q) b)(hn:SeqAt.RcNeAt A s (.ref p) (.ref q)<|!b)(hs:p=q->b=true):Rq A s (.ref p) (.ref q) b:=by
 refine⟨h,?_,hn⟩;by_cases e:p=q;.rw[hs e,e];exact SeqAt.EqAt.same _
 .exact SeqAt.EqAt.of_refs e h
def FU(I:Inv X aa σ H s){d e:D}{x y:V}{v u:Value}{A:Around}{b:Bool}(hd:d.dep=0)(hu:A.units<cLine)(rx:Rep X.K H x d)(ry:Rep X.K H y e)(rv:RelV x v)(ru:RelV y u)(h:D.eq d e=some b):Rq A s v u b:=by cases rx with
 |tup h1 r1=>rw[MI]at hd;omega|lst h1 r1=>rw[SD]at hd;omega|scr h1=>rw[D.eq]at h;simp at h|dic h1 jf r1=>rw[D.eq]at h;simp at h|exc0 h1=>rw[D.eq]at h;simp at h|exc h1 mP=>rw[D.eq]at h;simp at h|non=>
  cases show v=Value.none from rv;cases ry with
  |non=>
   cases show u=Value.none from ru;simp only[D.eq]at h;obtain rfl:=Q5 h;exact⟨SeqAt.RcAt.none_none,SeqAt.EqAt.same _,SeqAt.RcNeAt.none_none⟩|_=>rw[D.eq]at h;cases h;exact nofun
 |bl c=>cases show v=Value.bool c from rv;cases ry with
  |bl c2=>
   cases show u=Value.bool c2 from ru;simp only[D.eq]at h;have hb:b=(c==c2):=(Q5 h).symm;subst hb;exact⟨SeqAt.RcAt.bool_bool _ _,SeqAt.EqAt.bool_bool _ _,SeqAt.RcNeAt.bool_bool _ _⟩|_=>rw[D.eq]at h;cases h;exact nofun
 |int i=>
  obtain⟨tv,qv⟩:=show∃t,v=Value.int i t from rv;cases qv;cases ry with
  |int i2=>
   obtain⟨tu,qu⟩:=show∃t,u=Value.int i2 t from ru;cases qu;simp only[D.eq]at h;have hb:b=(i==i2):=by rw[<-Q5 h,AA]
   subst hb;exact⟨SeqAt.RcAt.int_int _ _ _ _,SeqAt.EqAt.int_int _ _ _ _,SeqAt.RcNeAt.int_int _ _ _ _⟩|_=>rw[D.eq]at h;cases h;exact nofun
 |str z=>
  obtain⟨tv,qv⟩:=show∃t,v=Value.str z t from rv;cases qv;cases ry with
  |str z2=>
   obtain⟨tu,qu⟩:=show∃t,u=Value.str z2 t from ru;cases qu;simp only[D.eq]at h;have hb:b=(z==z2):=by
    rw[<-Q5 h];by_cases q:z=z2<;>simp[q]
   subst hb;exact⟨SeqAt.RcAt.str_str _ _ _ _,SeqAt.EqAt.str_str _ _ _ _,SeqAt.RcNeAt.str_str _ _ _ _⟩|_=>rw[D.eq]at h;cases h;exact nofun
def FQ(I:Inv X aa σ H s):∀(n:Nat)(d e:D)(x y:V)(v u:Value)(A:Around)(b:Bool),d.dep<=n->A.units+n<cLine->Rep X.K H x d->Rep X.K H y e->RelV x v->RelV y u->D.eq d e=some b->Rq A s v u b:=by
 have L:∀{a:Addr}{xs:List V},H a=some (.lst xs)->∃its:List Value,Vals xs its/\s.heap.IsList a its.toArray:=λh=>let⟨its,r,pl,_⟩:=I.list<|SqL.of h;⟨its,r,pl.isList⟩;have T:∀{a:Addr}{xs:List V},H a=some (.tup xs)->∃its:List Value,Vals xs its/\s.heap.IsTuple a its.toArray:=λh=>let⟨its,r,pl,_⟩:=I.tuple<|SqT.of h;⟨its,r,pl⟩;intro n;induction n with
 |zero=>intro d e x y v u A b hd hA rx ry rv ru h;exact FU I (by omega) (by omega) rx ry rv ru h|succ n ih=>
  intro d e x y v u A b hd hA rx ry rv ru h;have hu:A.units<cLine:=by omega
  have iK:A.in1.units+n<cLine:=by show A.units+1+n<cLine;omega
  by_cases h0:d.dep=0;.exact FU I h0 hu rx ry rv ru h
  cases rx with
  |non=>exact absurd Qbd h0|bl c=>exact absurd (Qbc c) h0|int c=>exact absurd (Xa c) h0|str c=>exact absurd (UM c) h0|scr h1=>
   rw[D.eq]at h;.simp at h
   all_goals simp|exc0 h1=>rw[D.eq]at h;simp at h|exc h1 mP=>rw[D.eq]at h;simp at h|dic h1 jf r1=>rw[D.eq]at h;simp at h|@tup p xs ds h1 r1=>
   cases show v=Value.ref p from rv;rw[MI]at hd;obtain⟨us,v1,t1⟩:=T h1;cases ry with
   |@tup q ys es h2 r2=>
    cases show u=Value.ref q from ru;obtain⟨ws,v2,t2⟩:=T h2;rw[D.eq]at h;have hi:=Fw (A:=A.in1) I (by omega) iK (λd e x y v u b hd rx ry rv ru h=>ih d e x y v u A.in1 b hd iK rx ry rv ru h) r1 r2 v1 v2 h;have hr:=SeqAt.RcAt.tuples t1 t2 hu hi;have hn:=SeqAt.RcNeAt.tuples t1 t2 hu hi;have hb:b=((List.range<|min us.toArray.size ws.toArray.size).all (V7 ds es)&&us.toArray.size==ws.toArray.size):=by
     rw[(PU ds es b h).2];simp only[Jh];rw[<-v1.length,<-v2.length,r1.length,r2.length]
    rw[<-hb]at hr hn;refine Lv hr hn λz=>?_;subst z;rw[h1]at h2;cases h2;exact FV r1 r2 h|_=>rw[D.eq]at h;cases h;exact nofun
  |@lst p xs ds h1 r1=>
   cases show v=Value.ref p from rv;rw[SD]at hd;obtain⟨us,v1,t1⟩:=L h1;cases ry with
   |@lst q ys es h2 r2=>
    cases show u=Value.ref q from ru;obtain⟨ws,v2,t2⟩:=L h2;rw[D.eq]at h;have hb:=(PU ds es b h).2;have l1:=r1.length;have l2:=r2.length;have l3:=v1.length;have l4:=v2.length;by_cases hz:ds.length=es.length
    .have hi:=Fw (A:=A.in1) I (by omega) iK (λd e x y v u b hd rx ry rv ru h=>ih d e x y v u A.in1 b hd iK rx ry rv ru h) r1 r2 v1 v2 h;have hr:=SeqAt.RcAt.lists t1 t2 (by simp only[Jh];omega) hu hi;have hn:=SeqAt.RcNeAt.lists t1 t2 (by simp only[Jh];omega) hu hi;have eH:b=(List.range us.toArray.size).all (V7 ds es):=by
      rw[hb];simp only[Jh];rw[<-l3,l1,hz,Nat.min_self];simp
     rw[<-eH]at hr hn;refine Lv hr hn λz=>?_;subst z;rw[h1]at h2;cases h2;exact FV r1 r2 h
    .have hr:=SeqAt.RcAt.lists_lengths (A:=A) t1 t2 (by simp only[Jh,bne_iff_ne];omega) hu;have hn:=SeqAt.RcNeAt.lists_lengths (A:=A) t1 t2 (by simp only[Jh,bne_iff_ne];omega) hu;have eH:b=false:=by rw[hb];simp[hz]
     rw[eH];refine Lv hr hn λz=>?_;subst z;rw[h1]at h2;cases h2;omega|_=>rw[D.eq]at h;cases h;exact nofun
def FR{dx dy:D}{b:Bool}(h:D.eq dx dy=some b)(ks:List Kd)(ds:List D):dx≠.dic ks ds:=by rintro rfl;cases dy<;>simp[D.eq]at h
def FT{dx dy:D}{b:Bool}(h:D.eq dx dy=some b)(ks:List Kd)(ds:List D):dy≠.dic ks ds:=by rintro rfl;cases dx<;>simp[D.eq]at h
def RQ(X:Cx)(g:Bool->Bool):R2:=λx y H Q=>∃F dx dy b,Sm F H/\RdD X.K F H x dx/\RdD X.K F H y dy/\dx.dep<=40/\D.eq dx dy=some b/\Q (.bl<|g b) H
def Yr(hu:X.A.units+64<cLine):OpR X (compareOp .Eq) (RQ X id)/\Jr X (RQ X id) D.eqO:=by
 refine⟨λaa s σ H x y v u Q I rx ry z=>?_,λF H x y dx dy d Q sm rx ry e k=>?_⟩;.obtain⟨F,dx,dy,b,sm,r1,r2,hd,h,q⟩:=z;have:=(FQ I 40 dx dy x y v u X.A b hd (by omega) (r1.rep sm<|FR h) (r2.rep sm<|FT h) rx ry h).1;exact this X.prog X.w X.xe _ ⟨.bl b,H,I,rfl,q⟩
 .simp only[D.eqO]at e;split at e
  .rename_i hd;obtain⟨b,e1,rfl⟩:=Z0 e;exact⟨F,dx,dy,b,sm,rx,ry,hd,e1,k _ F H (.refl sm)<|.bl b⟩
  .simp at e
def X3(hu:X.A.units+64<cLine):OpR X (compareOp .NotEq) (RQ X (!·))/\Jr X (RQ X (!·)) D.neO:=by
 refine⟨λaa s σ H x y v u Q I rx ry z=>?_,λF H x y dx dy d Q sm rx ry e k=>?_⟩;.obtain⟨F,dx,dy,b,sm,r1,r2,hd,h,q⟩:=z;have:=(FQ I 40 dx dy x y v u X.A b hd (by omega) (r1.rep sm<|FR h) (r2.rep sm<|FT h) rx ry h).2.2;exact this X.prog X.w X.xe _ ⟨.bl<|!b,H,I,rfl,q⟩
 .simp only[D.neO]at e;split at e
  .rename_i hd;obtain⟨b,e1,rfl⟩:=Z0 e;exact⟨F,dx,dy,b,sm,rx,ry,hd,e1,k _ F H (.refl sm)<|.bl<|!b⟩
  .simp at e
end
section
variable{X:Cx}{O:List Nat}{e a b c:Expr}{pos:Pos}
def Kc{ev:Q6}{σ:L2.St}{H:Hp}{Q:Bool->Hp->Prop}(h:tDT X O ev σ H Q):tD X O ev σ H λx H'=>∃k,x=.bl k/\Q k H':=by obtain⟨F0,F,en,b,rs,w,k⟩:=h;refine⟨F0,F,en,.bl b,rs,w,λv F' H' g r=>?_⟩;cases r;exact⟨b,rfl,k F' H' g⟩
def QgS{ev:Q6}{σ:L2.St}{H:Hp}{Q:Bool->Hp->Prop}(h:tDT X O ev σ H Q):tR X O ev σ H λx H'=>∃k,x=.bl k/\Q k H':=by obtain⟨F0,F,en,b,rs,w,k⟩:=h;refine⟨F0,F,en,.bl b,rs,w,λv F' H' g r=>?_⟩;exact⟨b,r.bl,k F' H' g⟩
def ZF{op:CmpOp}{r:R2}{g:D->D->Option D}{ea eb:Q6}(ho:OpR X (compareOp op) r/\Jr X r g)(ha:PE X a<|tR X O ea)(hb:PE X b<|tR X O eb)(hm:behindInMarks op b=false):PT X (.Compare a [op] [b] pos)<|tDT X O<|Q4 g ea eb:=PT.imp (Ll ho.1 ha hb hm) λσ H Q h=>OD ho.2<|Kc h
def JG{ev:Q6}(h:PE X e<|tR X O ev)(he:∀whole,isTrue e X.env whole=(do let v<-whole;standAt e.pos;holding [v]<|truthy v):=by intro _;rfl):PT X e<|tDT X O ev:=PT.imp (RF h he) λσ H Q h=>QgS h
def Xh{α:Type}{o:Option D}{x y:Option α}{r:α}(h:Zt o x y=some r):∃c,o=some (.bl c)/\(if c=true then x else y)=some r:=by cases o with|none=>cases h|some d=>cases d with|bl c=>exact⟨c,rfl,h⟩|_=>cases h
def tDT.of{ev:Q6}{F0:Fz}{F:Hp}{en:Q8}{σ:L2.St}{H:Hp}{Q:Bool->Hp->Prop}{b:Bool}(rs:RS X.K X.H₀ F0 F H σ en O)(w:ev en=some (.bl b))(k:∀F' H',Gr F H F' H'->Q b H'):tDT X O ev σ H Q:=⟨F0,F,en,b,rs,w,k⟩
def A5{ea eb:Q6}{σ:L2.St}{H:Hp}{Q:Bool->Hp->Prop}(h:tDT X O (QH ea eb) σ H Q):Cz (tDT X O ea) (tDT X O eb) σ H Q:=by obtain⟨F0,F,en,b,rs,w,k⟩:=h;obtain⟨c,e1,e2⟩:=Xh w;refine⟨F0,F,en,c,rs,e1,λF1 H1 g1=>?_⟩;cases c with|true=>exact ZP<|.of (rs.grow g1) e2 λF' H' g=>k F' H'<|g1.trans g|false=>cases e2;exact ZI<|k F1 H1 g1
def Qe1{ea eb:Q6}{σ:L2.St}{H:Hp}{Q:Bool->Hp->Prop}(h:tDT X O (Jf ea eb) σ H Q):B4 (tDT X O ea) (tDT X O eb) σ H Q:=by obtain⟨F0,F,en,b,rs,w,k⟩:=h;obtain⟨c,e1,e2⟩:=Xh w;refine⟨F0,F,en,c,rs,e1,λF1 H1 g1=>?_⟩;cases c with|true=>cases e2;exact ZP<|k F1 H1 g1|false=>exact ZI<|.of (rs.grow g1) e2 λF' H' g=>k F' H'<|g1.trans g
def JN{ev:Q6}{op}(h:PT X a<|tDT X O ev):PW X (.BoolOp op [a] pos)<|tDT X O ev:=by
 cases op;.exact QfF h
 .exact QfH h
def JA{rest:List Expr}{ea eb:Q6}(ha:PT X a<|tDT X O ea)(hb:PW X (.BoolOp .And (b::rest) pos)<|tDT X O eb):PW X (.BoolOp .And (a::b::rest) pos)<|tDT X O<|QH ea eb:=PW.imp (QfE ha hb) λσ H Q h=>A5 h
def V6{rest:List Expr}{ea eb:Q6}(ha:PT X a<|tDT X O ea)(hb:PW X (.BoolOp .Or (b::rest) pos)<|tDT X O eb):PW X (.BoolOp .Or (a::b::rest) pos)<|tDT X O<|Jf ea eb:=PW.imp (QfG ha hb) λσ H Q h=>Qe1 h
def SE{ev:Q6}(ha:PT X a<|tDT X O ev):PT X (.UnaryOp .Not a pos)<|tDT X O<|Va ev:=PT.imp (Ov ha)<|by rintro σ H Q⟨F0,F,en,b,rs,w,k⟩;have w':LU (ev en)=some (.bl b):=w;cases q:ev en with|none=>rw[q]at w';cases w'|some d=>rw[q]at w';cases d with|bl c=>cases w';exact⟨F0,F,en,c,rs,q,k⟩|_=>cases w'
def VV{ev:Q6}{op}(h:PE X a<|tD X O ev):PE X (.BoolOp op [a] pos)<|tD X O ev:=Qfi h
def VU{rest:List Expr}{ea eb:Q6}(ha:PE X a<|tR X O ea)(hb:PE X (.BoolOp .And (b::rest) pos)<|tD X O eb):PE X (.BoolOp .And (a::b::rest) pos)<|tD X O<|QH ea eb:=PE.imp (Qfb ha hb)<|by rintro σ H Q⟨F0,F,en,d,rs,w,k⟩;obtain⟨c,e1,e2⟩:=Xh w;refine⟨F0,F,en,.bl c,rs,e1,λv F1 H1 g1 r1=>⟨c,r1.bl,?_⟩⟩;cases c with|true=>exact ZP ⟨F0,F1,en,d,rs.grow g1,e2,λv F' H' g r=>k v F' H' (g1.trans g) r⟩|false=>obtain rfl:=Q5 e2;exact ZI<|k _ F1 H1 g1<|.bl _
def FC{rest:List Expr}{ea eb:Q6}(ha:PE X a<|tR X O ea)(hb:PE X (.BoolOp .Or (b::rest) pos)<|tD X O eb):PE X (.BoolOp .Or (a::b::rest) pos)<|tD X O<|Jf ea eb:=PE.imp (Qfj ha hb)<|by rintro σ H Q⟨F0,F,en,d,rs,w,k⟩;obtain⟨c,e1,e2⟩:=Xh w;refine⟨F0,F,en,.bl c,rs,e1,λv F1 H1 g1 r1=>⟨c,r1.bl,?_⟩⟩;cases c with|true=>obtain rfl:=Q5 e2;exact ZP<|k _ F1 H1 g1<|.bl _|false=>exact ZI ⟨F0,F1,en,d,rs.grow g1,e2,λv F' H' g r=>k v F' H' (g1.trans g) r⟩
def Qa9{ev:Q6}(ha:PE X a<|tR X O ev):PE X (.UnaryOp .Not a pos)<|tD X O<|Va ev:=PE.imp (Qfh ha)<|by rintro σ H Q⟨F0,F,en,d,rs,w,k⟩;have w':LU (ev en)=some d:=w;cases q:ev en with|none=>rw[q]at w';cases w'|some x=>rw[q]at w';cases x with|bl c=>obtain rfl:=Q5 w';exact⟨F0,F,en,.bl c,rs,q,λv F' H' g r=>⟨c,r.bl,k _ F' H' g<|.bl _⟩⟩|_=>cases w'
def T6{ec ea eb:Q6}(hc:PT X c<|tDT X O ec)(ha:PE X a<|tD X O ea)(hb:PE X b<|tD X O eb):PE X (.IfExp c a b pos)<|tD X O<|WU ec ea eb:=PE.imp (RC hc ha hb)<|by rintro σ H Q⟨F0,F,en,d,rs,w,k⟩;obtain⟨c,e1,e2⟩:=Xh w;refine⟨F0,F,en,c,rs,e1,λF1 H1 g1=>?_⟩;cases c with|true=>exact ZP ⟨F0,F1,en,d,rs.grow g1,e2,λv F' H' g r=>k v F' H' (g1.trans g) r⟩|false=>exact ZI ⟨F0,F1,en,d,rs.grow g1,e2,λv F' H' g r=>k v F' H' (g1.trans g) r⟩
def YG{ev:Q6}(ha:PE X a<|tR X O ev):PE X (.UnaryOp .USub a pos)<|tD X O<|QD D.neg ev:=PE.imp (DA BE ha)<|by rintro σ H Q⟨F0,F,en,d,rs,w,k⟩;obtain⟨x,e1,e2⟩:=Qg w;cases x with|int i=>obtain rfl:=Q5 e2;exact⟨F0,F,en,.int i,rs,e1,λv F' H' g r=>⟨i,r.int,k _ F' H' g<|.int _⟩⟩|_=>cases e2
def Aj{g g':D->D->Option D}{r r':R2}{ea eb ec:Q6}(ho:Jr X r g)(dg:Jr X r' g'){σ:L2.St}{H:Hp}{Q:VK}(h:tD X O (Xb g g' ea eb ec) σ H Q):B0 r r' (tR X O ea) (tR X O eb) (tR X O ec) σ H Q:=by obtain⟨F0,F,en,d,rs,w,k⟩:=h;obtain⟨dx,dy,e1,e2,e3⟩:=Wq w;obtain⟨c,e4,e5⟩:=Xh e3;refine⟨F0,F,en,dx,rs,e1,λx F1 H1 g1 r1=>?_⟩;refine⟨F0,F1,en,dy,rs.grow g1,e2,λy F2 H2 g2 r2=>?_⟩;refine ho F2 H2 x y dx dy (.bl c) _ g2.fh (r1.gr g2) r2 e4 λv F3 H3 g3 r3=>?_;cases r3;refine⟨c,rfl,?_⟩;have eZ:=(g1.trans g2).trans g3;cases c with|true=>obtain⟨dz,e6,e7⟩:=Qg e5;refine ZP ⟨F0,F3,en,dz,rs.grow eZ,e6,λz F4 H4 g4 r4=>?_⟩;exact dg F4 H4 y z dy dz d _ g4.fh ((r2.gr g3).gr g4) r4 e7 λv F' H' g5 r5=>k v F' H' ((eZ.trans g4).trans g5) r5|false=>obtain rfl:=Q5 e5;exact ZI<|k _ F3 H3 eZ<|.bl _
def FA{op fJ:CmpOp}{g g':D->D->Option D}{r r':R2}{ea eb ec:Q6}(ho:OpR X (compareOp op) r/\Jr X r g)(dg:OpR X (compareOp fJ) r'/\Jr X r' g')(ha:PE X a<|tR X O ea)(hb:PE X b<|tR X O eb)(hc:PE X c<|tR X O ec)(hm:lastMarks [op,fJ] [b,c]=false:=by with_unfolding_all rfl):PE X (.Compare a [op,fJ] [b,c] pos)<|tD X O<|Xb g g' ea eb ec:=PE.imp (Qfd ho.1 dg.1 ha hb hc hm) λσ H Q h=>Aj ho.2 dg.2 h
def Dz:PA X []<|tL X O lN:=PA.imp JL λσ H Q⟨F0,F,en,ds,rs,w,k⟩=>by obtain rfl:=Q5 w;exact k [] F H (.refl rs.fh) .nil
def UJ{es:List Expr}{ea:Q6}{l:ZK}(ha:PE X a<|tD X O ea)(hr:PA X es<|tL X O l)(hs:Wp X a es:=by rfl):PA X (a::es)<|tL X O<|lC ea l:=PA.imp (J5 ha hr hs)<|by rintro σ H Q⟨F0,F,en,ds,rs,w,k⟩;obtain⟨d,e1,e2⟩:=Qg w;obtain⟨eg,e3,rfl⟩:=Z0 e2;refine⟨F0,F,en,d,rs,e1,λv F1 H1 g1 r1=>?_⟩;exact⟨F0,F1,en,eg,rs.grow g1,e3,λvs F2 H2 g2 r2=>k (v::vs) F2 H2 (g1.trans g2)<|.cons (r1.mono g2.ff) r2⟩
def Ve:∀(e:Q8)(d:List D),lN e=some d->d.length<=0:=λe d h=>by obtain rfl:=Q5 h;exact Qm 0
def Qj{n:Nat}{ea:Q6}{l:ZK}(h:∀(e:Q8)(d:List D),l e=some d->d.length<=n):∀(e:Q8)(d:List D),lC ea l e=some d->d.length<=n+1:=λe d w=>by obtain⟨x,e1,e2⟩:=Qg w;obtain⟨ds,e3,rfl⟩:=Z0 e2;exact Nat.succ_le_succ<|h e ds e3
def Jd{es:List Expr}{l:ZK}{x1}(h:PA X es<|tL X O l)(hz:∀(e:Q8)(d:List D),l e=some d->d.length<=Qz):PE X (.Tuple es x1 pos)<|tD X O<|Qe l:=PE.imp (Lh h)<|by rintro σ H Q⟨F0,F,en,d,rs,w,k⟩;obtain⟨ds,e1,rfl⟩:=Z0 w;refine⟨F0,F,en,ds,rs,e1,λvs F1 H1 g1 r1=>⟨by rw[r1.length,YL];exact hz en ds e1,λp hp=>?_⟩⟩;have g:=Gr.new g1.fh hp<|.tup vs;exact k _ _ _ (g1.trans g)<|.tup Qu<|r1.mono g.ff
def J4{es:List Expr}{l:ZK}(h:PA X es<|tL X O l)(hz:∀(e:Q8)(d:List D),l e=some d->d.length<=Qz):PE X (.List es pos)<|tD X O<|QS l:=PE.imp (X5 h)<|by rintro σ H Q⟨F0,F,en,d,rs,w,k⟩;obtain⟨ds,e1,rfl⟩:=Z0 w;refine⟨F0,F,en,ds,rs,e1,λvs F1 H1 g1 r1=>⟨by rw[r1.length,YL];exact hz en ds e1,λp hp=>?_⟩⟩;have g:=Gr.new g1.fh hp<|.lst vs;exact k _ _ _ (g1.trans g)<|.lst Qu<|r1.mono g.ff
def Wr{es:List Expr}{l:ZK}(h:PA X es<|tL X O l)(hz:∀(e:Q8)(d:List D),l e=some d->d.length<=Qz):PE X (.List es pos)<|tO X O<|QS l:=PE.imp (X5 h)<|by rintro σ H Q⟨F0,F,en,d,rs,w,k⟩;obtain⟨ds,e1,rfl⟩:=Z0 w;refine⟨F0,F,en,ds,rs,e1,λvs F1 H1 g1 r1=>⟨by rw[r1.length,YL];exact hz en ds e1,λp hp=>?_⟩⟩;have g:=Gr.newO g1.fh hp<|.lst vs;exact k p none vs ds F1 _ (g1.trans g) (g1.hh.none hp) (g1.fh.none hp) Qu r1 rfl trivial
def Z4:PO X none<|tOI X O Qx:=by rintro aa s σ H Q I⟨F0,F,en,o,rs,w,k⟩;obtain rfl:=Q5 w;exact Qfv aa s σ H Q I<|k F H<|.refl rs.fh
def Jv{ev:Q6}(h:PE X e<|tR X O ev):PO X (some e)<|tOI X O<|Qk ev:=by rintro aa s σ H Q I⟨F0,F,en,o,rs,w,k⟩;obtain⟨d,e1,e2⟩:=Qg w;cases d with|int i=>obtain rfl:=Q5 e2;exact Qfw h aa s σ H Q I ⟨F0,F,en,.int i,rs,e1,λv F' H' g r=>⟨i,r.int,k F' H' g⟩⟩|_=>simp at e2
def MB{K:Fg}{F:Hp}{xs:List V}{ds:List D}(r:Reps K F xs ds)(lo hi:Option Int):Reps K F (VS xs lo hi)<|Jt ds lo hi:=by unfold VS Jt;rw[r.length];exact(r.drop _).take _
def C1(X:Cx)(r:List V->Hp->VK->Prop)(g:D->Option D):Prop:=∀(F H:Hp)(x:V)(dx d:D)(Q:VK),Sm F H->RdD X.K F H x dx->g dx=some d->(∀v F' H',Gr F H F' H'->Rep X.K F' v d->Q v H')->r [x] H Q
def Xq{ev:Q6}(ha:PE X a<|tR X O ev)(hs:starEach [a] X.env=[(false,eval a X.env)]:=by rfl):PA X [a]<|Jc (tR X O ev) Jm:=J5 ha JL hs
def JF{id:String}{x:Str}{p:Pos}{r:List V->Hp->VK->Prop}{g:D->Option D}{ev:Q6}(hc:CallR X (.builtin id) r/\C1 X r g)(hg:Gl X x)(hm:X.mg x=none)(hv:bootBuiltins x=some (.builtin id))(ha:PE X a<|tR X O ev)(hn:x≠"__name__":=by decide)(aY:XV x:=by decide)(he:starEach [a] X.env=[(false,eval a X.env)]:=by rfl):PE X (.Call (.Name x p) [a] [] pos)<|tD X O<|QD g ev:=PE.imp (RB hc.1 hg hm hv (Xq ha he) hn aY he rfl)<|by rintro σ H Q⟨F0,F,en,d,rs,w,k⟩;obtain⟨dx,e1,e2⟩:=Qg w;exact⟨F0,F,en,dx,rs,e1,λv F' H' g r=>hc.2 F' H' v dx d Q g.fh r e2 λv2 F2 H2 g2 r2=>k v2 F2 H2 (g.trans g2) r2⟩
def WT{T:String}{x:Str}{p:Pos}{r:List V->Hp->VK->Prop}{g:D->Option D}{ev:Q6}(hc:CallR X (.type T) r/\C1 X r g)(hg:Gl X x)(hm:X.mg x=none)(hv:bootBuiltins x=some (.type T))(ha:PE X a<|tR X O ev)(hn:x≠"__name__":=by decide)(aY:XV x:=by decide)(he:starEach [a] X.env=[(false,eval a X.env)]:=by rfl):PE X (.Call (.Name x p) [a] [] pos)<|tD X O<|QD g ev:=PE.imp (D8 hc.1 hg hm hv (Xq ha he) hn aY he rfl)<|by rintro σ H Q⟨F0,F,en,d,rs,w,k⟩;obtain⟨dx,e1,e2⟩:=Qg w;exact⟨F0,F,en,dx,rs,e1,λv F' H' g r=>hc.2 F' H' v dx d Q g.fh r e2 λv2 F2 H2 g2 r2=>k v2 F2 H2 (g.trans g2) r2⟩
def JM:CallR X (.builtin "len") (λxs H Q=>(∃p ys,xs=[.ref p]/\(SqL X.K H p ys\/SqT X.K H p ys)/\Q (.int ys.length) H)\/∃z,xs=[.str z]/\z.length<=sizeLine/\Q (.int z.length) H)/\C1 X (λxs H Q=>(∃p ys,xs=[.ref p]/\(SqL X.K H p ys\/SqT X.K H p ys)/\Q (.int ys.length) H)\/∃z,xs=[.str z]/\z.length<=sizeLine/\Q (.int z.length) H) D.len:=by refine⟨CallR.or AW AX,λF H x dx d Q s rx e k=>?_⟩;cases dx with
 |str z=>
  simp only[D.len]at e;split at e
  .rename_i hz;obtain rfl:=Q5 e;exact .inr ⟨z,by rw[rx.str],by rw[YL];exact hz,k _ F H (.refl s)<|.int _⟩
  .simp at e|tup ds=>obtain rfl:=Q5 e;obtain⟨p,xs,rfl,h,r⟩:=rx.tup;exact .inl ⟨p,xs,rfl,.inr<|SqT.of<|s _ _ h,by rw[r.length];exact k _ F H (.refl s)<|.int _⟩|lst ds=>obtain rfl:=Q5 e;obtain⟨p,xs,rfl,h,r⟩:=rx.lst s;exact .inl ⟨p,xs,rfl,.inl<|SqL.of h,by rw[r.length];exact k _ F H (.refl s)<|.int _⟩|scr ns=>obtain rfl:=Q5 e;obtain⟨p,rfl,h⟩:=rx.scr;exact .inl ⟨p,_,rfl,.inl<|s.sqL h,by rw[Qr];exact k _ F H (.refl s)<|.int _⟩|_=>cases e
theorem log2_lt{n:Nat}(h:n<2^1900):n.log2<1920:=by
 by_cases z:n=0;.subst z;decide
 .have:=Nat.log2_lt z (k:=1900).mpr h;omega
def Ga:CallR X (.type "str") (λxs H Q=>∃i,xs=[.int i]/\i.natAbs.log2<1920/\Q (.str<|toString i) H)/\C1 X (λxs H Q=>∃i,xs=[.int i]/\i.natAbs.log2<1920/\Q (.str<|toString i) H) D.strI:=by
 refine⟨Af,λF H x dx d Q s rx e k=>?_⟩;cases dx with
 |int i=>
  simp only[D.strI]at e;split at e
  .rename_i hz;obtain rfl:=Q5 e;exact⟨i,by rw[rx.int],log2_lt hz,k _ F H (.refl s)<|.str _⟩
  .simp at e|_=>cases e
def P6:CallR X (.type "int") (λxs H Q=>(∃i,xs=[.int i]/\Q (.int i) H)\/∃k,xs=[.bl k]/\Q (.int<|if k then 1 else 0) H)/\C1 X (λxs H Q=>(∃i,xs=[.int i]/\Q (.int i) H)\/∃k,xs=[.bl k]/\Q (.int<|if k then 1 else 0) H) D.intB:=by refine⟨AV,λF H x dx d Q s rx e k=>?_⟩;cases dx with|int i=>obtain rfl:=Q5 e;exact .inl ⟨i,by rw[rx.int],k _ F H (.refl s)<|.int _⟩|bl b=>obtain rfl:=Q5 e;exact .inr ⟨b,by rw[rx.bl],k _ F H (.refl s)<|.int _⟩|_=>cases e
def C2(X:Cx)(r:List V->Hp->VK->Prop)(g:D->D->Option D):Prop:=∀(F H:Hp)(x y:V)(dx dy d:D)(Q:VK),Sm F H->RdD X.K F H x dx->RdD X.K F H y dy->g dx dy=some d->(∀v F' H',Gr F H F' H'->Rep X.K F' v d->Q v H')->r [x,y] H Q
def Gz{id:String}{x:Str}{p:Pos}{r:List V->Hp->VK->Prop}{g:D->D->Option D}{ea eb:Q6}(hc:CallR X (.builtin id) r/\C2 X r g)(hg:Gl X x)(hm:X.mg x=none)(hv:bootBuiltins x=some (.builtin id))(ha:PE X a<|tR X O ea)(hb:PE X b<|tR X O eb)(hn:x≠"__name__":=by decide)(aY:XV x:=by decide)(he:starEach [a,b] X.env=[(false,eval a X.env),(false,eval b X.env)]:=by rfl)(cg:starEach [b] X.env=[(false,eval b X.env)]:=by rfl):PE X (.Call (.Name x p) [a,b] [] pos)<|tD X O<|Q4 g ea eb:=PE.imp (RB hc.1 hg hm hv (J5 ha (Xq hb cg)<|by show _=_;rw[he,cg]) hn aY (by show _=_;rw[he,cg])<|by show _=_;rw[cg];rfl)<|by rintro σ H Q⟨F0,F,en,d,rs,w,k⟩;obtain⟨dx,dy,e1,e2,e3⟩:=Wq w;refine⟨F0,F,en,dx,rs,e1,λv F1 H1 g1 r1=>?_⟩;exact⟨F0,F1,en,dy,rs.grow g1,e2,λu F2 H2 g2 r2=>hc.2 F2 H2 v u dx dy d Q g2.fh (r1.gr g2) r2 e3 λv3 F3 H3 g3 r3=>k v3 F3 H3 ((g1.trans g2).trans g3) r3⟩
def Aa(hc:X.calm=true):CallR X (.builtin "max") (λxs H Q=>∃i j,xs=[.int i,.int j]/\Q (.int<|if j>i then j else i) H)/\C2 X (λxs H Q=>∃i j,xs=[.int i,.int j]/\Q (.int<|if j>i then j else i) H) D.max2:=by
 refine⟨AZ hc,λF H x y dx dy d Q s rx ry e k=>?_⟩;cases dx<;>cases dy<;>try(simp[D.max2]at e;done)
 case int.int i j=>obtain rfl:=Q5 e;exact⟨i,j,by rw[rx.int,ry.int],k _ F H (.refl s)<|.int _⟩
def Ad(hc:X.calm=true):CallR X (.builtin "min") (λxs H Q=>∃i j,xs=[.int i,.int j]/\Q (.int<|if j<i then j else i) H)/\C2 X (λxs H Q=>∃i j,xs=[.int i,.int j]/\Q (.int<|if j<i then j else i) H) D.min2:=by
 refine⟨Ac hc,λF H x y dx dy d Q s rx ry e k=>?_⟩;cases dx<;>cases dy<;>try(simp[D.min2]at e;done)
 case int.int i j=>obtain rfl:=Q5 e;exact⟨i,j,by rw[rx.int,ry.int],k _ F H (.refl s)<|.int _⟩
noncomputable def QfL(X:Cx)(T:String):List V->Hp->VK->Prop:=λxs H Q=>∃x t b,xs=[x,.ty T]/\TyOf X.K H x t/\W.kitOne X.K t (.type T)=some b/\Q (.bl b) H
def AU(T:String):CallR X (.builtin "isinstance")<|QfL X T:=by rintro aa s σ H xs us Q I r⟨x,t,b,hx,ty,e,q⟩;subst hx;obtain⟨u,w,rfl,rx,ej⟩:=Rl r;cases show w=Value.type T from ej;exact Qcm I rx ty e λtk=>⟨.bl b,H,I.tok tk,rfl,q⟩
def Nh(d:D):Prop:=(∀ns,d≠.scr ns)/\∀c n,d≠.exc c n
def Uv(K:Fg)(T:String):Prop:=∀d:D,Nh d->W.kitOne K (.type<|U9 d) (.type T)=some (decide (U9 d=T)||decide (T="int")&&decide (U9 d="bool"))
def Qg8{F H:Hp}{x:V}{d:D}(s:Sm F H)(hd:Nh d)(r:RdD X.K F H x d):TyOf X.K H x<|.type<|U9 d:=by cases d with|non=>rw[r.non];exact .non|bl b=>rw[r.bl];exact .bl b|int i=>rw[r.int];exact .int i|str z=>rw[r.str];exact .str z|tup ds=>obtain⟨p,xs,rfl,h,_⟩:=r.tup;exact .tup<|s _ _ h|lst ds=>obtain⟨p,xs,rfl,h,_⟩:=r.lst s;exact .lst h|dic ks ds=>obtain⟨p,xs,rfl,h,_⟩:=r.dic s;rcases h with h|⟨o,h⟩;exact .dK h;exact .frzD h|scr ns=>exact absurd rfl<|hd.1 ns|exc c n=>exact absurd rfl<|hd.2 c n
def WS{T:String}{x y:Str}{p p2:Pos}{ev:Q6}(kt:Uv X.K T)(hg:Gl X x)(hm:X.mg x=none)(hv:bootBuiltins x=some (.builtin "isinstance"))(gJ:Gl X y)(jd:X.mg y=none)(mR:bootBuiltins y=some (.type T))(ha:PE X a<|tR X O ev)(hn:x≠"__name__":=by decide)(aY:XV x:=by decide)(eW:y≠"__name__":=by decide)(f7:XV y:=by decide)(he:starEach [a,.Name y p2] X.env=[(false,eval a X.env),(false,eval (.Name y p2) X.env)]:=by rfl)(cg:starEach [.Name y p2] X.env=[(false,eval (.Name y p2) X.env)]:=by rfl):PE X (.Call (.Name x p) [a,.Name y p2] [] pos)<|tD X O<|V8 T ev:=PE.imp (RB (AU T) hg hm hv (J5 ha (J5 (D7 gJ jd mR (show RelV (.ty T)<|.type T from rfl) eW f7) JL cg)<|by show _=_;rw[he,cg]) hn aY (by show _=_;rw[he,cg])<|by show _=_;rw[cg];rfl)<|by
  rintro σ H Q⟨F0,F,en,d,rs,w,k⟩;obtain⟨dx,e1,e2⟩:=Qg w;have hs:Nh dx/\d=.bl (decide (U9 dx=T)||decide (T="int")&&decide (U9 dx="bool")):=by cases dx with|scr ns=>cases e2|exc c n=>exact nomatch e2|_=>obtain rfl:=Q5 e2;exact⟨⟨(λ_ z=>nomatch z),λ_ _ z=>nomatch z⟩,rfl⟩
  refine⟨F0,F,en,dx,rs,e1,λv F1 H1 g1 r1=>?_⟩;refine⟨v,_,_,rfl,Qg8 g1.fh hs.1 r1,kt dx hs.1,?_⟩;rw[hs.2]at k;exact k _ F1 H1 g1<|.bl _
end
structure Ex(H₀:Hp)(F0:Fz)(F H:Hp):Prop where
 fh:Sm F H
 hh:Sm F0.h H
 ff:Sm F0.f F
 fr:∀a o,F a=some o->F0.f a=some o\/F0.h a=none
def RS.ex{K:Fg}{H₀:Hp}{F0:Fz}{F H:Hp}{σ:L2.St}{e:Q8}{O:List Nat}(r:RS K H₀ F0 F H σ e O):Ex H₀ F0 F H:=⟨r.fh,r.hh,r.ff,r.fr⟩
def Ex.gr{H₀:Hp}{F0:Fz}{F H:Hp}(x:Ex H₀ F0 F H):Gr F0.f F0.h F H:=⟨x.ff,x.hh,x.fh,x.fr⟩
inductive RetO(K:Fg)(H₀ F H:Hp)(v:V)(d:D):Prop|mk(p:Addr)(k:Option<|List Kd)(xs:List V)(ds:List D)(h1:v=.ref p)(h2:H₀ p=none)(h3:F p=none)(h4:H p=some (ho k xs))(h5:Reps K F xs ds)(h6:d=YR k ds)(h7:VP k xs):RetO K H₀ F H v d
def Nj(K:Fg)(H₀ F H:Hp)(w:Bool)(v:V)(d:D):Prop:=if w=true then RetO K H₀ F H v d else Rep K F v d
def Fly(s₀:Heap)(H:Hp)(ea:Addr)(h:Heap):Prop:=s₀.objs.size<=ea/\∃oe vs,h.get? ea=some oe/\oe.data=.fields vs/\vs.size=6/\(vs[1]?=some .none\/∃T oT ts,vs[1]?=some (.ref T)/\s₀.objs.size<=T/\H T=none/\T≠ea/\h.get? T=some oT/\oT.data=.fields ts/\ts[3]?=some .none)
def XW(X:Cx)(F0:Fz)(c:Nat)(n:D):Prop:=∀(aa:List<|Addr×Obj)(σ:L2.St)(F H:Hp)(s:Shared)(ea:Addr),Inv X aa σ H s->Ex X.H₀ F0 F H->Rep X.K F (.ref ea) (.exc c n)->Fly X.s₀.heap H ea s.heap->X.xe (.ref ea) s
def FlOk(X:Cx)(O' OL:List Nat)(w:Bool)(F0:Fz)(F:Hp)(Dn:Ends):Fl->Prop|.nx e'=>∀σ' F' H',Sm F F'->RS X.K X.H₀ F0 F' H' σ' e' O'->Dn.nx σ' H'|.bk e'=>∀σ' F' H',Sm F F'->RS X.K X.H₀ F0 F' H' σ' e' OL->Dn.bk σ' H'|.ct e'=>∀σ' F' H',Sm F F'->RS X.K X.H₀ F0 F' H' σ' e' OL->Dn.ct σ' H'|.rt d=>∀v F' H',Ex X.H₀ F0 F' H'->Nj X.K F0.h F' H' w v d->Dn.rt v H'|.rz c n=>XW X F0 c n|.rm d z=>∀v F' H',Ex X.H₀ F0 F' H'->Rep X.K F' v d->(∃i p k xs ds,F0.p i=some p/\F' p=none/\H' p=some (ho k xs)/\Reps X.K F' xs ds/\z=YR k ds/\VP k xs)->Dn.rt v H'
inductive tS(X:Cx)(O O' OL:List Nat)(w:Bool)(b:QJ)(Dn:Ends)(σ:L2.St)(H:Hp):Prop|mk(F0:Fz)(F:Hp)(e:Q8)(fl:Fl)(h1:RS X.K X.H₀ F0 F H σ e O)(h2:b e=some fl)(h3:FlOk X O' OL w F0 F Dn fl):tS X O O' OL w b Dn σ H
def FlOk.mono{X:Cx}{O' OL:List Nat}{w:Bool}{F0:Fz}{F F1:Hp}{Dn:Ends}{fl:Fl}(h:FlOk X O' OL w F0 F Dn fl)(s:Sm F F1):FlOk X O' OL w F0 F1 Dn fl:=by cases fl with|nx e=>exact λσ' F' H' q r=>h σ' F' H' (s.trans q) r|bk e=>exact λσ' F' H' q r=>h σ' F' H' (s.trans q) r|ct e=>exact λσ' F' H' q r=>h σ' F' H' (s.trans q) r|rt d=>exact h|rz c d=>exact h|rm d z=>exact h
section
variable{X:Cx}{O O1 O2 O' OL:List Nat}{w:Bool}{st:Stmt}{rest:List Stmt}{e:Expr}{pos:Pos}
def Sn:PSs X []<|tS X O O OL w QU:=PSs.imp Yu<|by rintro Dn σ H⟨F0,F,en,fl,rs,z,k⟩;obtain rfl:=Q5 z;exact k σ F H (.refl _) rs
def So{b:QJ}(h:PS X st<|tS X O O' OL w b):PSs X [st]<|tS X O O' OL w b:=ZT h
def Ss{a b:QJ}(h1:PS X st<|tS X O O1 OL w a)(h2:PSs X rest<|tS X O1 O' OL w b):PSs X (st::rest)<|tS X O O' OL w<|sQ a b:=PSs.imp (Z1 h1 h2)<|by rintro Dn σ H⟨F0,F,en,fl,rs,z,k⟩;have z':N6 (a en) b=some fl:=z;cases q:a en with|none=>rw[q]at z';cases z'|some f1=>rw[q]at z';refine⟨F0,F,en,f1,rs,q,?_⟩;cases f1 with|nx e1=>exact λσ' F' H' s r=>⟨F0,F',e1,fl,r,z',k.mono s⟩|bk e1=>obtain rfl:=Q5 z';exact k|ct e1=>obtain rfl:=Q5 z';exact k|rt d=>obtain rfl:=Q5 z';exact k|rz c d=>obtain rfl:=Q5 z';exact k|rm d z=>obtain rfl:=Q5 z';exact k
def RS.exg{K:Fg}{H₀:Hp}{F0:Fz}{F H F' H':Hp}{σ:L2.St}{e:Q8}{O:List Nat}(r:RS K H₀ F0 F H σ e O)(g:Gr F H F' H'):Ex H₀ F0 F' H':=(r.grow g).ex
def QQ{ev:Q6}(h:PE X e<|tD X O ev):PS X (.Return (some e) pos)<|tS X O O' OL false<|QK ev:=PS.imp (ZN h)<|by rintro Dn σ H⟨F0,F,en,fl,rs,z,k⟩;obtain⟨d,e1,rfl⟩:=Z0 z;exact⟨F0,F,en,d,rs,e1,λv F' H' g r=>k v F' H' (rs.exg g) r⟩
def Qbl(i:Nat)(hi:i∈O){x:Str}{p:Pos}(hN:X.N[i]?=some x:=by rfl)(hv:Yy X.env.scope x:=by first|exact Or.inl rfl|exact Or.inr<|Or.inl rfl|exact Or.inr<|Or.inr rfl)(hd:XV x:=by decide)(bE:(x==("__classdict__":Str))=false:=by decide):PS X (.Return (some<|.Name x p) pos)<|tS X O O' OL true<|QK<|eV i:=PS.imp (ZN<|J8 hN hv hd bE) λDn σ H⟨F0,F,en,fl,rs,z,k⟩=>by obtain⟨d,e1,rfl⟩:=Z0 z;obtain⟨p,kk,xs,ds,h1,h2,h3,h4,h5,h6,h7⟩:=rs.own i d (Zi e1) hi;exact⟨_,h1,k _ F H rs.ex<|show Nj X.K F0.h F H true (.ref p) d from⟨p,kk,xs,ds,rfl,h2,h3,h4,h5,h6,h7⟩⟩
def QZ{c:Expr}{a b:List Stmt}{ec:Q6}{ea eb:QJ}(hc:PT X c<|tDT X O ec)(ha:PSs X a<|tS X O O' OL w ea)(hb:PSs X b<|tS X O O' OL w eb):PS X (.If c a b pos)<|tS X O O' OL w<|QM ec ea eb:=PS.imp (Yt hc ha hb)<|by rintro Dn σ H⟨F0,F,en,fl,rs,z,k⟩;obtain⟨c,e1,e2⟩:=Xh z;refine⟨F0,F,en,c,rs,e1,λF1 H1 g1=>?_⟩;cases c with|true=>exact ZP ⟨F0,F1,en,fl,rs.grow g1,e2,k.mono g1.ff⟩|false=>exact ZI ⟨F0,F1,en,fl,rs.grow g1,e2,k.mono g1.ff⟩
noncomputable def dl(i:Nat)(O:List Nat):List Nat:=O.filter λj=>! j==i
noncomputable def ad(i:Nat)(O:List Nat):List Nat:=O.filter (λj=>decide<|j<i)++i::O.filter λj=>decide<|i<j
def mem_dl{i j:Nat}:j∈dl i O↔j∈O/\j≠i:=by unfold dl;simp
def mem_ad{i j:Nat}:j∈ad i O↔j=i\/j∈O:=by
 unfold ad;simp only[q_8,List.mem_filter,q_7,decide_eq_true_eq];constructor
 .rintro(h|h|h);.exact .inr h.1
  .exact .inl h
  .exact .inr h.1
 .rintro(h|h);.exact .inr<|.inl h
  .rcases Nat.lt_trichotomy j i with z|z|z;.exact .inl ⟨h,z⟩
   .exact .inr<|.inl z
   .exact .inr<|.inr ⟨h,z⟩
def ZD{α:Type}{l:List α}{i j:Nat}{x:α}(hi:i<l.length):(l.set i x)[j]?=if i=j then some x else l[j]?:=by
 rw[Wc];split;.rename_i h;subst h;simp[hi]
 .rfl
def RS.put{K:Fg}{H₀:Hp}{F0:Fz}{F H:Hp}{σ:L2.St}{en:Q8}{i:Nat}{v:V}{d:D}(r:RS K H₀ F0 F H σ en O)(h:Rep K F v d)(hi:i<en.length)(hq:J1 i∉O):RS K H₀ F0 F H (σ.set i<|some v) (en.set i<|some d)<|dl i O where
 fh:=r.fh
 hh:=r.hh
 ff:=r.ff
 fr:=r.fr
 slot:=λj d' e1 hj=>by
  rw[ZD hi]at e1;rw[ZD<|by rw[r.len];exact hi];split at e1;.rename_i z;cases e1;rw[if_pos z];exact⟨v,rfl,h⟩
  .rename_i z;rw[if_neg z];exact r.slot j d' e1 λq=>hj<|mem_dl.mpr ⟨q,λw=>z w.symm⟩
 own:=λj d' e1 hj=>by
  obtain⟨h1,h2⟩:=mem_dl.mp hj;rw[ZD hi,if_neg<|Ne.symm h2]at e1;rw[ZD<|by rw[r.len];exact hi,if_neg<|Ne.symm h2];exact r.own j d' e1 h1
 dis:=λj k p d1 d2 hj hk f1 f2 e1 e2=>by
  obtain⟨h1,h2⟩:=mem_dl.mp hj;obtain⟨h3,h4⟩:=mem_dl.mp hk;rw[ZD<|by rw[r.len];exact hi,if_neg<|Ne.symm h2]at e1;rw[ZD<|by rw[r.len];exact hi,if_neg<|Ne.symm h4]at e2;rw[ZD hi,if_neg<|Ne.symm h2]at f1;rw[ZD hi,if_neg<|Ne.symm h4]at f2;exact r.dis j k p d1 d2 h1 h3 f1 f2 e1 e2
 pin:=λj hj=>by
  obtain⟨h1,_⟩:=mem_dl.mp hj;obtain⟨p,e1,e2⟩:=r.pin j h1;refine⟨p,e1,?_⟩;rw[Wb λz:i=j=>hq<|by rw[z];exact h1];exact e2
 len:=by rw[Z2,Z2];exact r.len
def RS.putO{K:Fg}{H₀:Hp}{F0:Fz}{F H:Hp}{σ:L2.St}{en:Q8}{i:Nat}{p:Addr}{kk:Option<|List Kd}{xs:List V}{ds:List D}(r:RS K H₀ F0 F H σ en O)(h0:F0.h p=none)(hf:F p=none)(hp:H p=some (ho kk xs))(hk:VP kk xs)(hr:Reps K F xs ds)(hi:i<en.length)(hq:J1 i∉O)(gj:∀j,i≠J1 j)(hn:∀j d,j∈O->en[j]?=some (some d)->j≠i->σ[j]?≠some (some<|.ref p)):RS K H₀ F0 F H (σ.set i<|some<|.ref p) (en.set i<|some<|YR kk ds)<|ad i O where
 fh:=r.fh
 hh:=r.hh
 ff:=r.ff
 fr:=r.fr
 slot:=λj d' e1 hj=>by
  have kL:j≠i:=λz=>hj<|mem_ad.mpr<|.inl z;have ny:j∉O:=λz=>hj<|mem_ad.mpr<|.inr z;rw[ZD hi,if_neg<|Ne.symm kL]at e1;rw[ZD<|by rw[r.len];exact hi,if_neg<|Ne.symm kL];exact r.slot j d' e1 ny
 own:=λj d' e1 hj=>by
  rw[ZD hi]at e1;rw[ZD<|by rw[r.len];exact hi];split at e1;.rename_i z;cases e1;rw[if_pos z];exact⟨p,kk,xs,ds,rfl,h0,hf,hp,hr,rfl,hk⟩
  .rename_i z;rw[if_neg z];rcases mem_ad.mp hj with q|q;.exact absurd q.symm z
   .exact r.own j d' e1 q
 dis:=λj k q d1 d2 hj hk f1 f2 e1 e2=>by
  rw[ZD<|by rw[r.len];exact hi]at e1 e2;rw[ZD hi]at f1 f2;by_cases z1:i=j
  .by_cases z2:i=k;.rw[<-z1,<-z2]
   .rw[if_pos z1]at e1;cases e1;rw[if_neg z2]at e2;rcases mem_ad.mp hk with w|w;.exact absurd w.symm z2
    .rw[if_neg z2]at f2;exact absurd e2<|hn k d2 w f2<|Ne.symm z2
  .rw[if_neg z1]at e1;rcases mem_ad.mp hj with w|w;.exact absurd w.symm z1
   .by_cases z2:i=k
    .rw[if_pos z2]at e2;cases e2;rw[if_neg z1]at f1;exact absurd e1<|hn j d1 w f1<|Ne.symm z1
    .rw[if_neg z2]at e2;rcases mem_ad.mp hk with w2|w2;.exact absurd w2.symm z2
     .rw[if_neg z1]at f1;rw[if_neg z2]at f2;exact r.dis j k q d1 d2 w w2 f1 f2 e1 e2
 pin:=λj hj=>by
  rcases mem_ad.mp hj with z|h1;.exact absurd z.symm<|gj j
  .obtain⟨p,e1,e2⟩:=r.pin j h1;refine⟨p,e1,?_⟩;rw[Wb λz:i=j=>hq<|by rw[z];exact h1];exact e2
 len:=by rw[Z2,Z2];exact r.len
def RS.write{K:Fg}{H₀:Hp}{F0:Fz}{F H:Hp}{σ:L2.St}{en:Q8}{i:Nat}{p:Addr}{kk:Option<|List Kd}{xs:List V}{ds:List D}(r:RS K H₀ F0 F H σ en O)(hi:i∈O){d0:D}(he:en[i]?=some (some d0))(hσ:σ[i]?=some (some<|.ref p))(h0:F0.h p=none)(hf:F p=none)(hk:VP kk xs)(hr:Reps K F xs ds):RS K H₀ F0 F (upd H p<|ho kk xs) σ (en.set i<|some<|YR kk ds) O:=have hl:i<en.length:=by cases VJ i en.length with|inl h=>exact h|inr h=>rw[Ul h]at he;simp at he
 {
 fh:=r.fh.upd _ hf
 hh:=r.hh.upd _ h0
 ff:=r.ff
 fr:=r.fr
 slot:=λj d' e1 hj=>by
  have z:i≠j:=λz=>hj<|z▸hi;rw[ZD hl,if_neg z]at e1;exact r.slot j d' e1 hj
 own:=λj d' e1 hj=>by
  rw[ZD hl]at e1;split at e1
  .rename_i z;cases e1;subst z;exact⟨p,kk,xs,ds,hσ,h0,hf,Qu,hr,rfl,hk⟩
  .rename_i z;obtain⟨q,k2,ys,es,h1,h2,h3,h4,h5,h6,h7⟩:=r.own j d' e1 hj;refine⟨q,k2,ys,es,h1,h2,h3,?_,h5,h6,h7⟩;rw[QY λw:q=p=>z<|r.dis i j p _ _ hi hj he e1 hσ<|by rw[<-w];exact h1];exact h4
 dis:=λj k q d1 d2 hj hk f1 f2 g1 g2=>by
  rw[ZD hl]at f1 f2;have k1:∃d,en[j]?=some (some d):=by
   split at f1;.rename_i z;subst z;exact⟨_,he⟩
   .exact⟨_,f1⟩
  have k2:∃d,en[k]?=some (some d):=by
   split at f2;.rename_i z;subst z;exact⟨_,he⟩
   .exact⟨_,f2⟩
  obtain⟨_,k1⟩:=k1;obtain⟨_,k2⟩:=k2;exact r.dis j k q _ _ hj hk k1 k2 g1 g2
 pin:=r.pin
 len:=by rw[Z2];exact r.len}
def RS.rel{K:Fg}{H₀:Hp}{F0:Fz}{F H:Hp}{σ:L2.St}{en:Q8}(ob:Addr->Obj)(i:Nat)(r:RS K H₀ F0 F H σ en O):∃F' H',Sm F F'/\RS K H₀ F0 F' H' σ en (dl i O)/\(H'=H\/∃p kk xs,H p=some (ho kk xs)/\H'=upd H p (hz (ob p) kk xs)):=by
 have none_:(∀d,en[i]?=some (some d)->i∉O)->∃F' H',Sm F F'/\RS K H₀ F0 F' H' σ en (dl i O)/\(H'=H\/∃p kk xs,H p=some (ho kk xs)/\H'=upd H p (hz (ob p) kk xs)):=λhn=>by
  refine⟨F,H,.refl F,⟨r.fh,r.hh,r.ff,r.fr,λj d e1 hj=>?_,λj d e1 hj=>r.own j d e1 (mem_dl.mp hj).1,λj k p d1 d2 hj hk=>r.dis j k p d1 d2 (mem_dl.mp hj).1 (mem_dl.mp hk).1,λj hj=>r.pin j (mem_dl.mp hj).1,r.len⟩,.inl rfl⟩;exact r.slot j d e1 λw=>hj<|mem_dl.mpr ⟨w,λz=>hn d (z▸e1)<|z▸w⟩
 by_cases hi:i∈O;.cases q:en[i]?with
  |none=>exact none_ λd e=>by rw[q]at e;simp at e|some o=>cases o with
   |none=>exact none_ λd e=>by rw[q]at e;simp at e|some d0=>
    obtain⟨p,kk,xs,ds,h1,h2,h3,h4,h5,h6,h7⟩:=r.own i d0 q hi;have sf:Sm F<|upd F p<|hz (ob p) kk xs:=(Sm.refl F).upd _ h3;refine⟨upd F p<|hz (ob p) kk xs,upd H p<|hz (ob p) kk xs,sf,⟨λa o e1=>?_,λa o e1=>?_,r.ff.trans sf,λa o e1=>?_,λj d e1 hj=>?_,λj d e1 hj=>?_,λj k p d1 d2 hj hk=>r.dis j k p d1 d2 (mem_dl.mp hj).1 (mem_dl.mp hk).1,λj hj=>r.pin j (mem_dl.mp hj).1,r.len⟩,.inr ⟨p,kk,xs,h4,rfl⟩⟩
    .by_cases z:a=p;.subst z;rw[Qu]at e1⊢;exact e1
     .rw[QY z]at e1⊢;exact r.fh a o e1
    .have z:a≠p:=λz=>by rw[z,h2]at e1;simp at e1
     rw[QY z];exact r.hh a o e1
    .by_cases z:a=p;.subst z;exact .inr h2
     .rw[QY z]at e1;exact r.fr a o e1
    .by_cases z:j=i
     .subst z;rw[q]at e1;cases e1;subst h6;exact⟨_,h1,Rep.hz Qu h7<|h5.mono sf⟩
     .obtain⟨v,w1,w2⟩:=r.slot j d e1 λw=>hj<|mem_dl.mpr ⟨w,z⟩;exact⟨v,w1,w2.mono sf⟩
    .obtain⟨w1,w2⟩:=mem_dl.mp hj;obtain⟨p',iZ,ys,es,k1,k2,k3,k4,k5,k6,k7⟩:=r.own j d e1 w1;have ne:p'≠p:=λz:p'=p=>w2<|r.dis j i p _ _ w1 hi e1 q (by rw[<-z];exact k1) h1;refine⟨p',iZ,ys,es,k1,k2,?_,?_,k5.mono sf,k6,k7⟩;.rw[QY ne];exact k3
     .rw[QY ne];exact k4
 .exact none_ λ_ _=>hi
def RS.put'{K:Fg}{H₀:Hp}{F0:Fz}{F H:Hp}{σ:L2.St}{en:Q8}(i:Nat){v:V}{d:D}(r:RS K H₀ F0 F H σ en O)(h:Rep K F v d)(hq:J1 i∉O):RS K H₀ F0 F H (σ.set i<|some v) (en.set i<|some d)<|dl i O:=by
 by_cases hi:i<en.length;.exact r.put h hi hq
 .have e1:en.set i (some d)=en:=List.set_eq_of_length_le (by omega);have e2:σ.set i (some v)=σ:=List.set_eq_of_length_le (by rw[r.len];omega);rw[e1,e2];refine⟨r.fh,r.hh,r.ff,r.fr,λj d f1 hj=>?_,λj d f1 hj=>r.own j d f1 (mem_dl.mp hj).1,λj k p d1 d2 hj hk=>r.dis j k p d1 d2 (mem_dl.mp hj).1 (mem_dl.mp hk).1,λj hj=>r.pin j (mem_dl.mp hj).1,r.len⟩;have:j≠i:=λz=>by
   rw[z,Ul<|by omega]at f1;simp at f1
  exact r.slot j d f1 λw=>hj<|mem_dl.mpr ⟨w,this⟩
def RS.putO'{K:Fg}{H₀:Hp}{F0:Fz}{F H:Hp}{σ:L2.St}{en:Q8}(i:Nat){p:Addr}{kk:Option<|List Kd}{xs:List V}{ds:List D}(r:RS K H₀ F0 F H σ en O)(h0:F0.h p=none)(hf:F p=none)(hp:H p=some (ho kk xs))(hk:VP kk xs)(hr:Reps K F xs ds)(hn:∀j d,j∈O->en[j]?=some (some d)->j≠i->σ[j]?≠some (some<|.ref p))(hq:J1 i∉O)(gj:∀j,i≠J1 j):RS K H₀ F0 F H (σ.set i<|some<|.ref p) (en.set i<|some<|YR kk ds)<|ad i O:=by
 by_cases hi:i<en.length;.exact r.putO h0 hf hp hk hr hi hq gj hn
 .have e1:en.set i (some<|YR kk ds)=en:=List.set_eq_of_length_le (by omega);have e2:σ.set i (some<|V.ref p)=σ:=List.set_eq_of_length_le (by rw[r.len];omega);have n1:en[i]?=none:=Ul (by omega);have n2:σ[i]?=none:=Ul (by rw[r.len];omega);rw[e1,e2];refine⟨r.fh,r.hh,r.ff,r.fr,λj d f1 hj=>r.slot j d f1 λw=>hj<|mem_ad.mpr<|.inr w,λj d f1 hj=>?_,λj k q d1 d2 hj hk g1 g2 f1 f2=>?_,λj hj=>?_,r.len⟩
  .rcases mem_ad.mp hj with z|z;.rw[z,n1]at f1;simp at f1
   .exact r.own j d f1 z
  .rcases mem_ad.mp hj with z|z;.rw[z,n2]at f1;simp at f1
   .rcases mem_ad.mp hk with z2|z2;.rw[z2,n2]at f2;simp at f2
    .exact r.dis j k q d1 d2 z z2 g1 g2 f1 f2
  .rcases mem_ad.mp hj with z|h1;.exact absurd z.symm<|gj j
   .exact r.pin j h1
def Ff{X:Cx}{aa:List<|Addr×Obj}{σ:L2.St}{H:Hp}{s:Shared}(I:Inv X aa σ H s){p:Addr}{kk:Option<|List Kd}{xs:List V}(h:H p=some (ho kk xs)):Inv X aa σ (upd H p<|hz ((s.heap.get? p).getD default) kk xs) s:=by cases kk with
 |none=>
  have e:upd H p (hz ((s.heap.get? p).getD default) none xs)=H:=by
   funext b;by_cases z:b=p;.subst z;rw[Qu];exact h.symm
   .rw[QY z]
  rw[e];exact I|some ks=>
  have h':H p=some (.dK<|ks.zip xs):=h;have ok:ObjOk X.prog X.w H s.heap p<|.dK<|ks.zip xs:=I.hok p _ h';obtain⟨z1,z2,vs,rel,o,es,ep,ho,rest⟩:=ok;rw[ho];show Inv X aa σ (upd H p<|.frz o<|.dK<|ks.zip xs) s;have ne:∀{b:Addr}{u:HO},H b=some u->(∀aC,u≠.dK aC)->b≠p:=λe n z=>by rw[z,h']at e;obtain rfl:=Q5 e;exact n _ rfl
  have I2:=I.step (h':=s.heap) (H':=upd H p<|.frz o<|.dK<|ks.zip xs) (g':=s.gens) (d':=s.drawn) (t':=s.toks) (ch:=[]) (λb hb=>by simp at hb) (λb o _ _ _ e _=>e) (λb o _ _ _ e _=>⟨o.slots,e⟩) (λb o _ e n=>by rw[QY λz=>by rw[z,h']at n;simp at n];exact n) (λb o _ e=>⟨o,e⟩) (λb xs e=>by rw[QY<|ne e λ_ z=>nomatch z];exact e) (λb xs u e=>by rw[QY<|ne e λ_ z=>nomatch z];exact e) (λb ps e=>⟨#[],by rw[QY (ne e λ_ z=>nomatch z),e];simp⟩) (λm hm=>hm) (λb u e=>?_) I.bare;.exact I2
  .by_cases hb:b=p
   .subst hb;rw[Qu]at e;obtain rfl:=Q5 e;exact⟨ho,z1,z2,vs,rel,o,es,ep,ho,rest⟩
   .rw[QY hb]at e;exact(I.hok b u e).stay (λc v _ q=>q) (λc q=>by rw[QY<|ne q λ_ z=>nomatch z];exact q) λc xs q=>by rw[QY<|ne q λ_ z=>nomatch z];exact q
def Qf2{X:Cx}{aa:List<|Addr×Obj}{F0:Fz}{F H:Hp}{σ:L2.St}{en:Q8}{s:Shared}(i:Nat)(I:Inv X aa σ H s)(r:RS X.K X.H₀ F0 F H σ en O):∃F' H',Inv X aa σ H' s/\Sm F F'/\RS X.K X.H₀ F0 F' H' σ en (dl i O):=by
 obtain⟨F',H',sf,r',h⟩:=r.rel (λp=>(s.heap.get? p).getD default) i;refine⟨F',H',?_,sf,r'⟩;rcases h with h|⟨p,kk,xs,hp,h⟩;.rw[h];exact I
 .rw[h];exact Ff I hp
def UN(i:Nat){b:QJ}{cR:List Stmt}(h:PSs X cR<|tS X (dl i O) O' OL w b):PSs X cR<|tS X O O' OL w b:=by rintro aa s σ H D I⟨F0,F,en,fl,rs,z,k⟩;obtain⟨F',H',I',sf,aR⟩:=Qf2 i I rs;exact h aa s σ H' D I' ⟨F0,F',en,fl,aR,z,k.mono sf⟩
end
section
variable{X:Cx}{O O1 O2 O' OL:List Nat}{w:Bool}{st:Stmt}{rest:List Stmt}{e:Expr}{pos:Pos}
inductive tG(X:Cx)(O O':List Nat)(g:JW)(v:V)(σ:L2.St)(H:Hp)(Q:L2.St->Hp->Prop):Prop|mk(F0:Fz)(F:Hp)(en:Q8)(d:D)(e':Q8)(h1:RS X.K X.H₀ F0 F H σ en O)(h2:Rep X.K F v d)(h3:g d en=some e')(h4:∀σ' H' F',Gr F H F' H'->RS X.K X.H₀ F0 F' H' σ' e' O'->Q σ' H'):tG X O O' g v σ H Q
inductive tGs(X:Cx)(O O':List Nat)(gs:List JW)(vs:List V)(σ:L2.St)(H:Hp)(Q:L2.St->Hp->Prop):Prop|mk(F0:Fz)(F:Hp)(en:Q8)(ds:List D)(e':Q8)(h1:RS X.K X.H₀ F0 F H σ en O)(h2:Reps X.K F vs ds)(h3:W0 gs ds en=some e')(h4:∀σ' H' F',Gr F H F' H'->RS X.K X.H₀ F0 F' H' σ' e' O'->Q σ' H'):tGs X O O' gs vs σ H Q
def PG.imp{t t':TG}(h:PG X e t)(q:∀v σ H Q,t' v σ H Q->t v σ H Q):PG X e t':=λaa s σ H v u Q I r z=>h aa s σ H v u Q I r<|q v σ H Q z
def PGs.imp{es:List Expr}{t t':XS}(h:PGs X es t)(q:∀v σ H Q,t' v σ H Q->t v σ H Q):PGs X es t':=λaa s σ H v u Q I r z=>h aa s σ H v u Q I r<|q v σ H Q z
def Jo(i:Nat){x:Str}(hN:X.N.Nodup)(hi:X.N[i]?=some x:=by rfl)(hx:WN X.env.scope x:=by first|exact Or.inl rfl|exact Or.inr rfl)(hf:WP X x:=by first|exact .inl rfl|exact .inr rfl)(hq:J1 i∉O:=by decide):PG X (.Name x pos)<|tG X O (dl i O)<|gS i:=PG.imp (Qfl hN hi hx hf)<|by rintro v σ H Q⟨F0,F,en,d,e',rs,r,z,k⟩;obtain rfl:=Q5 z;exact k _ H F (.refl rs.fh)<|rs.put' i r hq
def MK:PGs X []<|tGs X O O []:=PGs.imp Qfp<|by rintro vs σ H Q⟨F0,F,en,ds,e',rs,r,z,k⟩;cases r with|nil=>obtain rfl:=Q5 z;exact⟨rfl,k σ H F (.refl rs.fh) rs⟩|cons h r=>simp[W0]at z
def T7{es:List Expr}{g:JW}{gs:List JW}(h1:PG X e<|tG X O O1 g)(h2:PGs X es<|tGs X O1 O' gs)(hs:(assignEach (e::es) X.env).map (·.2)=assign e X.env::(assignEach es X.env).map (·.2):=by rfl):PGs X (e::es)<|tGs X O O'<|g::gs:=PGs.imp (Qfo h1 h2 hs)<|by rintro vs σ H Q⟨F0,F,en,ds,e',rs,r,z,k⟩;cases r with|nil=>simp[W0]at z|@cons x d xs ds h r=>have z':((g d en).bind λe'=>W0 gs ds e')=some e':=z;obtain⟨e1,q1,q2⟩:=Qg z';refine⟨x,xs,rfl,F0,F,en,d,e1,rs,h,q1,λσ' H' F' s aR=>?_⟩;exact⟨F0,F',e1,ds,e',aR,r.mono s.ff,q2,λσ2 H2 F2 s2 cS=>k σ2 H2 F2 (s.trans s2) cS⟩
def MJ{es:List Expr}{k0:Nat}{gs:List JW}(hc:X.calm=true)(h:PGs X es<|tGs X O O' gs)(hl:gs.length=es.length)(hn:(assignEach es X.env).length=es.length:=by rfl)(bG:(assignEach es X.env).findIdx? (·.1)=none:=by rfl):PG X (.Tuple es k0 pos)<|tG X O O'<|Yn gs:=PG.imp (Qfn hc h hn bG)<|by
  rintro v σ H Q⟨F0,F,en,d,e',rs,r,z,k⟩;cases r with
  |@tup a xs ds h r=>
   have z':W0 gs ds en=some e':=z;have len:∀(gs:List JW)(ds:List D)(en e':Q8),W0 gs ds en=some e'->ds.length=gs.length:=by
    intro gs;induction gs with
    |nil=>intro ds en e' h;cases ds with|nil=>rfl|cons _ _=>simp[W0]at h
    |cons g gs ih=>intro ds en e' h;cases ds with
     |nil=>simp[W0]at h|cons d ds=>
      have h':((g d en).bind λe'=>W0 gs ds e')=some e':=h;obtain⟨e1,_,q2⟩:=Qg h';rw[Jb,Jb,ih ds e1 e' q2]
   exact⟨a,xs,rfl,SqT.of<|rs.fh _ _ h,by rw[r.length,len gs ds en e' z',hl],F0,F,en,ds,e',rs,r,z',k⟩|_=>cases z
def Qi(i:Nat){x:Str}{p:Pos}{ev:Q6}(hN:X.N.Nodup)(he:PE X e<|tD X O ev)(hi:X.N[i]?=some x:=by rfl)(hx:WN X.env.scope x:=by first|exact Or.inl rfl|exact Or.inr rfl)(hs:swapsWith e (some<|.Name x p) pos.line X.env=pure false:=by rfl)(hf:WP X x:=by first|exact .inl rfl|exact .inr rfl)(hq:J1 i∉O:=by decide):PS X (.Assign [.Name x p] e pos)<|tS X O (dl i O) OL w<|QO ev<|gS i:=PS.imp (VG hN hi hx he hs hf)<|by rintro Dn σ H⟨F0,F,en,fl,rs,z,k⟩;obtain⟨d,e1,e2⟩:=Qg z;obtain⟨e',e3,rfl⟩:=Z0 e2;obtain rfl:=Q5 e3;exact⟨F0,F,en,d,rs,e1,λv F1 H1 g1 r1=>k _ F1 H1 g1.ff<|(rs.grow g1).put' i r1 hq⟩
def Vt(i:Nat){x:Str}{p:Pos}{ev:Q6}(hN:X.N.Nodup)(he:PE X e<|tO X O ev)(hi:X.N[i]?=some x:=by rfl)(hx:WN X.env.scope x:=by first|exact Or.inl rfl|exact Or.inr rfl)(hs:swapsWith e (some<|.Name x p) pos.line X.env=pure false:=by rfl)(hf:WP X x:=by first|exact .inl rfl|exact .inr rfl)(hq:J1 i∉O:=by decide)(gH:i<1000:=by decide):PS X (.Assign [.Name x p] e pos)<|tS X O (ad i O) OL w<|QO ev<|gS i:=PS.imp (VG hN hi hx he hs hf)<|by rintro Dn σ H⟨F0,F,en,fl,rs,z,k⟩;obtain⟨d,e1,e2⟩:=Qg z;obtain⟨e',e3,rfl⟩:=Z0 e2;obtain rfl:=Q5 e3;refine⟨F0,F,en,d,rs,e1,λp kk xs ds F1 H1 g1 n1 n2 h r e4 hk=>?_⟩;subst e4;refine k _ F1 H1 g1.ff ((rs.grow g1).putO' i (rs.hh.none n1) n2 h hk r (λj d' hj q2 _ q=>?_) hq λj z=>by unfold J1 at z;omega);obtain⟨p',_,ys,es,h1,_,_,h4,_⟩:=rs.own j d' q2 hj;rw[h1]at q;cases q;rw[n1]at h4;simp at h4
end
section
variable{X:Cx}{O O1 O2 O' OL:List Nat}{w:Bool}{st:Stmt}{rest:List Stmt}{e a:Expr}{pos:Pos}
def YT(i:Nat)(hi:i∈O){x:Str}{p apos ax:Pos}{ev:Q6}(he:PE X e<|tD X O ev)(hN:X.N[i]?=some x:=by rfl)(hv:Yy X.env.scope x:=by first|exact Or.inl rfl|exact Or.inr<|Or.inl rfl|exact Or.inr<|Or.inr rfl)(hd:XV x:=by decide)(bE:(x==("__classdict__":Str))=false:=by decide)(az:attributeBase (.Name x p) "append" X.env (eval (.Name x p) X.env)=eval (.Name x p) X.env:=by rfl)(aF:(apos.endLine==ax.line)=true:=by rfl)(hs:starEach [e] X.env=[(false,eval e X.env)]:=by rfl)(cj:((backTo ax<|starEach [e] X.env).all (λx=>!x.1)&&(backToKw ax<|keywordEach [] X.env).all (λx=>x.1.isSome)&&decide ([e].length+([]:List Keyword).length+(if([]:List Keyword).isEmpty then 0 else 1)<30))=true:=by rfl)(dO:swapsWith (.Call (.Attribute (.Name x p) "append" apos) [e] [] ax) none pos.line X.env=pure false:=by rfl):PS X (.Expr (.Call (.Attribute (.Name x p) "append" apos) [e] [] ax) pos)<|tS X O O OL w<|sP i ev:=PS.imp (VF (YJ PySem.F.plainAttrs_list PySem.F.slot_list_append PySem.F.type_list_append VC (J8 hN hv hd bE) (J5 he JL hs) az cj aF hs rfl) dO)<|by rintro Dn σ H⟨F0,F,en,fl,rs,z,k⟩;obtain⟨dx,dy,e1,e2,e3⟩:=Wq z;obtain⟨dz,e4,rfl⟩:=Z0 e3;obtain⟨q,kk,xs,ds,h1,h2,h3,h4,h5,h6,h7⟩:=rs.own i dx (Zi e1) hi;subst h6;cases kk with|some ks=>cases e4|none=>
  simp only[ho,YR]at h4 e4 e1;refine⟨_,h1,.inl ⟨rfl,xs,SqL.of h4⟩,F0,F,en,dy,rs,e2,λy F1 H1 g1 r1=>?_⟩;simp only[D.app]at e4;split at e4;.rename_i hz;obtain rfl:=(Q5 e4).symm;have bq:=rs.grow g1;obtain⟨q',iY,gv,eg,k1,k2,k3,k4,k5,k6,k7⟩:=bq.own i _ (Zi e1) hi;rw[h1]at k1;cases k1;cases iY with|some ks=>cases k6|none=>
   cases k6;simp only[ho]at k4;have hx:gv=xs:=by
    have:=g1.hh _ _ h4;rw[k4]at this;cases this;rfl
   subst hx;refine⟨q,gv,y,rfl,rfl,k4,?_,?_⟩;.rw[YL,k5.length];exact hz
   .exact k _ F1 _ g1.ff<|bq.write (kk:=none) hi (Zi e1) h1 k2 k3 trivial<|k5.append<|.cons r1 .nil
  .simp at e4
def MP(i:Nat)(hi:i∈O){x:Str}{p apos ax:Pos}{ev:Q6}(he:PE X e<|tR X O ev)(hN:X.N[i]?=some x:=by rfl)(hv:Yy X.env.scope x:=by first|exact Or.inl rfl|exact Or.inr<|Or.inl rfl|exact Or.inr<|Or.inr rfl)(hd:XV x:=by decide)(bE:(x==("__classdict__":Str))=false:=by decide)(az:attributeBase (.Name x p) "extend" X.env (eval (.Name x p) X.env)=eval (.Name x p) X.env:=by rfl)(aF:(apos.endLine==ax.line)=true:=by rfl)(hs:starEach [e] X.env=[(false,eval e X.env)]:=by rfl)(cj:((backTo ax<|starEach [e] X.env).all (λx=>!x.1)&&(backToKw ax<|keywordEach [] X.env).all (λx=>x.1.isSome)&&decide ([e].length+([]:List Keyword).length+(if([]:List Keyword).isEmpty then 0 else 1)<30))=true:=by rfl)(dO:swapsWith (.Call (.Attribute (.Name x p) "extend" apos) [e] [] ax) none pos.line X.env=pure false:=by rfl):PS X (.Expr (.Call (.Attribute (.Name x p) "extend" apos) [e] [] ax) pos)<|tS X O O OL w<|Wh i ev:=PS.imp (VF (YJ PySem.F.plainAttrs_list PySem.F.slot_list_extend PySem.F.type_list_extend Qdd (J8 hN hv hd bE) (Xq he hs) az cj aF hs rfl) dO)<|by
  rintro Dn σ H⟨F0,F,en,fl,rs,z,k⟩;obtain⟨dx,dy,e1,e2,e3⟩:=Wq z;obtain⟨dz,e4,rfl⟩:=Z0 e3;obtain⟨q,kk,xs,ds,h1,h2,h3,h4,h5,h6,h7⟩:=rs.own i dx (Zi e1) hi;subst h6;cases kk with
  |some ks=>cases e4|none=>
  simp only[ho,YR]at h4 e4 e1;refine⟨_,h1,.inl ⟨rfl,xs,SqL.of h4⟩,F0,F,en,dy,rs,e2,λy F1 H1 g1 r1=>?_⟩;cases dy with
  |lst es=>
   simp only[D.ext]at e4;split at e4;.rename_i hz;obtain rfl:=(Q5 e4).symm;obtain⟨q2,ys,rfl,m1,m2⟩:=r1.lst g1.fh;have bq:=rs.grow g1;obtain⟨q',iY,gv,eg,k1,k2,k3,k4,k5,k6,k7⟩:=bq.own i _ (Zi e1) hi;rw[h1]at k1;cases k1;cases iY with|some ks=>cases k6|none=>
    cases k6;simp only[ho]at k4;have hx:gv=xs:=by
     have:=g1.hh _ _ h4;rw[k4]at this;cases this;rfl
    subst hx;refine⟨q,q2,gv,ys,rfl,rfl,k4,m1,?_,?_⟩;.rw[YL,k5.length,m2.length];exact hz
    .exact k _ F1 _ g1.ff<|bq.write (kk:=none) hi (Zi e1) h1 k2 k3 trivial<|k5.append m2
   .simp at e4|_=>cases e4
end
inductive spD(K:Fg)(f:List D->Option D)(vs:List V)(H:Hp)(Q:VK)(dm:XK):Prop|mk(F:Hp)(ds:List D)(d:D)(h1:Sm F H)(h2:Reps K F vs ds)(h3:f ds=some d)(h4:∀v F' H',Gr F H F' H'->Rep K F' v d->Q v H'):spD K f vs H Q dm
inductive spO(K:Fg)(f:List D->Option D)(vs:List V)(H:Hp)(Q:VK)(dm:XK):Prop|mk(F:Hp)(ds:List D)(d:D)(h1:Sm F H)(h2:Reps K F vs ds)(h3:f ds=some d)(h4:∀p k xs es F' H',Gr F H F' H'->H p=none->F' p=none->H' p=some (ho k xs)->Reps K F' xs es->d=YR k es->VP k xs->Q (.ref p) H'):spO K f vs H Q dm
def Qb(P:Program)(w:World)(K:Fg)(mg:Str->Option Value)(ae:Heap)(k:Nat)(x:Str)(ps:List Str)(sp:Sp):Prop:=∃f fd,FnOk P w K mg ae J9 k f fd ps sp/\Binds K fd ps []/\W.keepIn K (.ref f)=true/\mg x=some (.ref f)
def Df(K:Fg)(mg:Str->Option Value)(x:Str)(st:Stmt)(ps:List Str):Prop:=∃f fd,Fun K x x st f fd/\Binds K fd ps []/\mg x=some (.ref f)
section
variable{X:Cx}{O:List Nat}{e:Expr}{es:List Expr}{p pos:Pos}{x:Str}{ps:List Str}{k:Nat}
def F9{f:List D->Option D}{l:ZK}(c:Qb X.prog X.w X.K X.mg X.ae k x ps<|spD X.K f)(hr:Room k X.A)(hg:Gl X x)(ha:PA X (e::es)<|tL X O l)(aY:XV x:=by decide)(he:Wp X e es:=by rfl)(aQ:WF X pos es:=by rfl):PE X (.Call (.Name x p) (e::es) [] pos)<|tD X O<|eK f l:=by obtain⟨fa,fd,F,hb,hk,hm⟩:=c;refine PE.imp (Lg F hr hg hm hk hb (.nil:Vals [] []) Lf ha aY he aQ) ?_;rintro σ H Q⟨F0,F,en,d,rs,z,k⟩;obtain⟨ds,e1,e2⟩:=Qg z;refine⟨F0,F,en,ds,rs,e1,λvs F1 H1 g1 r1=>⟨F1,ds,d,g1.fh,?_,e2,λv F' H' g r=>k v F' H' (g1.trans g) r⟩⟩;rw[Yv];exact r1
def Qac{f:List D->Option D}{l:ZK}(c:Qb X.prog X.w X.K X.mg X.ae k x ps<|spO X.K f)(hr:Room k X.A)(hg:Gl X x)(ha:PA X (e::es)<|tL X O l)(aY:XV x:=by decide)(he:Wp X e es:=by rfl)(aQ:WF X pos es:=by rfl):PE X (.Call (.Name x p) (e::es) [] pos)<|tO X O<|eK f l:=by obtain⟨fa,fd,F,hb,hk,hm⟩:=c;refine PE.imp (Lg F hr hg hm hk hb (.nil:Vals [] []) Lf ha aY he aQ) ?_;rintro σ H Q⟨F0,F,en,d,rs,z,k⟩;obtain⟨ds,e1,e2⟩:=Qg z;refine⟨F0,F,en,ds,rs,e1,λvs F1 H1 g1 r1=>⟨F1,ds,d,g1.fh,?_,e2,λp kk xs es F' H' g n1 n2 h r e3 hk=>k p kk xs es F' H' (g1.trans g) (g1.hh.none n1) n2 h r e3 hk⟩⟩;rw[Yv];exact r1
def Yj{ev:Q6}(h:PE X e<|tO X O ev):PE X e<|tD X O ev:=by
 rintro aa s σ H Q I⟨F0,F,en,d,rs,z,k⟩;refine Qd (h aa s σ H (λx H'=>∃p kk xs ds F',x=.ref p/\Gr F H F' H'/\H p=none/\F' p=none/\H' p=some (ho kk xs)/\Reps X.K F' xs ds/\d=YR kk ds/\VP kk xs) I ⟨F0,F,en,d,rs,z,λp kk xs ds F' H' g n1 n2 hp r e3 hk=>⟨p,kk,xs,ds,F',rfl,g,n1,n2,hp,r,e3,hk⟩⟩) ?_;rintro v s1⟨x,H1,I1,r1,p,kk,xs,ds,F',hx,g,n1,n2,hp,r,e3,hk⟩;subst hx e3;have s2:Sm F'<|upd F' p<|hz ((s1.heap.get? p).getD default) kk xs:=(Sm.refl F').upd _ n2;refine⟨.ref p,_,Ff I1 hp,r1,k _ (upd F' p<|hz ((s1.heap.get? p).getD default) kk xs) _ ⟨g.ff.trans s2,λa o q=>?_,λa o q=>?_,λa o q=>?_⟩<|Rep.hz Qu hk<|r.mono s2⟩;.rw[QY λw:a=p=>by rw[w,n1]at q;simp at q];exact g.hh a o q
 .by_cases w:a=p;.subst w;rw[Qu]at q⊢;exact q
  .rw[QY w]at q⊢;exact g.fh a o q
 .by_cases w:a=p;.subst w;exact .inr n1
  .rw[QY w]at q;exact g.fr a o q
end
section
variable{P:Program}{w:World}{K:Fg}{mg:Str->Option Value}{ae:Heap}{x:Str}{st:Stmt}{N ps:List Str}{k:Nat}{b:QJ}
def Oy{F H:Hp}{vs:List V}{ds:List D}(n:Nat)(s:Sm F H)(r:Reps K F vs ds):RS K H ⟨F,H,np⟩ F H (vs.map some++List.replicate (n-vs.length) none) (Jq n ds) []where
 fh:=s
 hh:=.refl H
 ff:=.refl F
 fr:=λ_ _ h=>.inl h
 slot:=λi d h _=>by
  unfold Jq at h;rcases VJ i ds.length with hi|hi
  .rw[RK<|by rw[Qr];exact hi,WG,ZQ hi]at h;have hd:ds[i]?=some d:=by rw[ZQ hi];simpa using h
   obtain⟨v,h1,h2⟩:=r.get hd;refine⟨v,?_,h2⟩;rw[RK<|by rw[Qr,r.length];exact hi,WG,h1];rfl
  .rw[RH<|by rw[Qr];exact hi,RJ]at h;split at h<;>simp at h
 own:=λi d _ h=>by simp at h
 dis:=λi j p _ _ h=>by simp at h
 pin:=λi h=>by simp at h
 len:=by unfold Jq;simp[r.length]
def LY(h:Df K mg x st ps)(S:FnScope N ps<|QN st){O' OL:List Nat}(hb:∀(f:Addr)(ah:Value)(A:Around)(af:List Env)(s:Shared)(H:Hp)(E:XK),Room k (A.deeper<|envOfC x (QN st) s.heap.objs.size f ah)->PSs (JK J9 P w K mg ae N x (QN st) f ah A af s H E).nox (Ju st) (tS (JK J9 P w K mg ae N x (QN st) f ah A af s H E).nox [] O' OL false b)):Qb P w K mg ae (k+1) x ps<|spD K<|Ql N.length ps.length b:=by
 obtain⟨f,fd,F,cz,hm⟩:=h;refine⟨f,fd,F.ok S (λvs H Q E⟨F,ds,d,s,r,e,_⟩=>?_) λah A af s H vs Q E hr⟨Fz,ds,d,sm,r,e,k⟩=>?_,cz,F.kp,hm⟩
 .unfold Ql at e;split at e;.rename_i z;rw[r.length];exact z
  .simp at e
 .refine⟨_,hb f ah A af s H E hr,?_⟩;unfold Ql at e;split at e
  .rename_i z;have e':PN (b<|Jq N.length ds)=some d:=e;cases q:b<|Jq N.length ds with|none=>rw[q]at e';cases e'|some fl=>
    rw[q]at e';have bG:ZV N vs=vs.map some++List.replicate (N.length-vs.length) none:=rfl;rw[bG];refine⟨⟨Fz,H,np⟩,Fz,Jq N.length ds,fl,Oy N.length sm r,q,?_⟩;cases fl with
    |nx en=>obtain rfl:=(Q5 e').symm;exact λσ' F' H' s' rs=>k .non F' H' rs.ex.gr .non|rt d'=>obtain rfl:=(Q5 e').symm;exact λv F' H' x r=>k v F' H' x.gr r|rz c d'=>cases e'|rm d' z'=>cases e'|bk en=>cases e'|ct en=>cases e'
  .simp at e
def QdB(h:Df K mg x st ps)(S:FnScope N ps<|QN st){O' OL:List Nat}(hb:∀(f:Addr)(ah:Value)(A:Around)(af:List Env)(s:Shared)(H:Hp)(E:XK),Room k (A.deeper<|envOfC x (QN st) s.heap.objs.size f ah)->PSs (JK J9 P w K mg ae N x (QN st) f ah A af s H E).nox (Ju st) (tS (JK J9 P w K mg ae N x (QN st) f ah A af s H E).nox [] O' OL true b))(dP:∀ds en,b (Jq N.length ds)≠some (.nx en)):Qb P w K mg ae (k+1) x ps<|spO K<|Ql N.length ps.length b:=by
 obtain⟨f,fd,F,cz,hm⟩:=h;refine⟨f,fd,F.ok S (λvs H Q E⟨F,ds,d,s,r,e,_⟩=>?_) λah A af s H vs Q E hr⟨Fz,ds,d,sm,r,e,k⟩=>?_,cz,F.kp,hm⟩
 .unfold Ql at e;split at e;.rename_i z;rw[r.length];exact z
  .simp at e
 .refine⟨_,hb f ah A af s H E hr,?_⟩;unfold Ql at e;split at e;.rename_i z;have e':PN (b<|Jq N.length ds)=some d:=e;cases q:b<|Jq N.length ds with
   |none=>rw[q]at e';cases e'|some fl=>
    rw[q]at e';have bG:ZV N vs=vs.map some++List.replicate (N.length-vs.length) none:=rfl;rw[bG];refine⟨⟨Fz,H,np⟩,Fz,Jq N.length ds,fl,Oy N.length sm r,q,?_⟩;cases fl with
    |nx en=>exact absurd q<|dP ds en|rt d'=>obtain rfl:=(Q5 e').symm;intro v F' H' x r;obtain⟨p,kk,xs,es,rfl,h1,h2,h3,h4,h5,h6⟩:=show Nj K H F' H' true v d from r;exact k p kk xs es F' H' x.gr h1 h2 h3 h4 h5 h6|rz c d'=>cases e'|rm d' z'=>cases e'|bk en=>cases e'|ct en=>cases e'
  .simp at e
end
structure ItOk(K:Fg)(F:Hp)(J:It)(ds:List D):Prop where
 go:∀i F' H',Sm F F'->Sm F' H'->i<ds.length->J.go i H'
 yld:∀i F' H' x H2,Sm F F'->Sm F' H'->i<ds.length->J.yld i H' x H2->∃F2 d,Gr F' H' F2 H2/\ds[i]?=some d/\Rep K F2 x d
 stop:∀i F' H',Sm F F'->Sm F' H'->ds.length<=i->J.stop i H'
inductive tI(X:Cx)(O:List Nat)(it:Za)(σ:L2.St)(H:Hp)(R:L2.It->Hp->Prop):Prop|mk(F0:Fz)(F:Hp)(e:Q8)(ds:List D)(h1:RS X.K X.H₀ F0 F H σ e O)(h2:it e=some ds)(h3:∀F' H' J,Gr F H F' H'->ItOk X.K F' J ds->R J H'):tI X O it σ H R
section
variable{X:Cx}{O OL:List Nat}{w:Bool}{tg iter:Expr}{body:List Stmt}{pos:Pos}
def PI.imp{t t':TI}(h:PI X tg iter t)(q:∀σ H R,t' σ H R->t σ H R):PI X tg iter t':=λaa s σ H R I z=>h aa s σ H R I<|q σ H R z
def Qg6{o:Option Fl}{k:QJ}{fl:Fl}(h:YN o k=some fl):∃f,o=some f/\YN (some f) k=some fl:=by cases o with|none=>cases h|some f=>exact⟨f,rfl,h⟩
def VZ{it:Za}{g:JW}{b:QJ}(hc:X.calm=true)(hp:PassesOwn (model X.prog X.w) X.A X.env X.xe)(hi:PI X tg iter<|tI X O it)(hg:PG X tg<|tG X O O g)(hb:PSs X body<|tS X O O O w b)(hs:∀x,foldedSetIterable iter X.env x=pure x:=by intro _;rfl):PS X (.For tg iter body [] pos)<|tS X O O OL w<|Z3 it g b:=PS.imp (Lk hp hc hi hg hb hs)<|by
  rintro Dn σ H⟨F0,F,en,fl,rs,z,k⟩;obtain⟨ds,e1,e2⟩:=Qg z;refine⟨F0,F,en,ds,rs,e1,λF1 H1 J g1 io=>?_⟩;refine⟨λi m σ' H'=>m=ds.length-i/\i<=ds.length/\∃F' br,Sm F1 F'/\RS X.K X.H₀ F0 F' H' σ' br O/\Zz g b (ds.drop i) br=some fl,⟨ds.length,by omega,by omega,F1,en,.refl F1,rs.grow g1,by rw[We];exact e2⟩,?_⟩;rintro i m σ' H'⟨rfl,hle,F',br,s',aR,e3⟩;rcases VJ i ds.length with hi|hi
  .refine .inr ⟨io.go i F' H' s' aR.fh hi,λσ2 H2=>∃m',m'<ds.length-i/\m'=ds.length-(i+1)/\i+1<=ds.length/\∃F' br,Sm F1 F'/\RS X.K X.H₀ F0 F' H2 σ2 br O/\Zz g b (ds.drop<|i+1) br=some fl,λσ2 H2⟨m',h1,h2⟩=>⟨m',h1,h2⟩,λx H2 hy=>?_⟩;obtain⟨F2,d,g2,hd,r2⟩:=io.yld i F' H' x H2 s' aR.fh hi hy;have fO:ds.drop i=d::ds.drop (i+1):=by
    rw[XA hi];rw[ZQ hi]at hd;obtain rfl:=(Q5 hd).symm;rfl
   rw[fO]at e3;obtain⟨f,e4,e5⟩:=Qg6<|show YN ((g d br).bind b) (Zz g b<|ds.drop<|i+1)=some fl from e3;obtain⟨e9,e6,e7⟩:=Qg<|show((g d br).bind λx=>b x)=some f from e4;refine⟨F0,F2,br,d,e9,aR.grow g2,r2,e6,λσ3 H3 F3 s3 rs3=>?_⟩;refine⟨F0,F3,e9,f,rs3,e7,?_⟩;have sA:Sm F1 F3:=(s'.trans g2.ff).trans s3.ff;cases f with
   |nx e=>exact λσ4 F4 H4 s4 eA=>⟨_,by omega,rfl,hi,F4,e,sA.trans s4,eA,e5⟩|ct e=>exact λσ4 F4 H4 s4 eA=>⟨_,by omega,rfl,hi,F4,e,sA.trans s4,eA,e5⟩|bk e=>obtain rfl:=(Q5 e5).symm;exact λσ4 F4 H4 s4 eA=>k σ4 F4 H4 (g1.ff.trans<|sA.trans s4) eA|rt d=>obtain rfl:=(Q5 e5).symm;exact k|rz c d=>obtain rfl:=(Q5 e5).symm;exact k|rm d z=>obtain rfl:=(Q5 e5).symm;exact k
  .have hz:ds.drop i=[]:=Wf hi;rw[hz]at e3;obtain rfl:=(Q5 e3).symm;exact .inl ⟨io.stop i F' H' s' aR.fh hi,k σ' F' H' (g1.ff.trans s') aR⟩
def Lw(lo:Int)(n:Nat):(rD lo n).length=n:=by unfold rD;simp
def VW{ev:Q6}(h:PE X iter<|tD X O ev):PI X tg iter<|tI X O<|Zc ev:=PI.imp (Qfr h)<|by rintro σ H R⟨F0,F,en,ds,rs,z,k⟩;obtain⟨d,e1,e2⟩:=Qg z;refine⟨F0,F,en,d,rs,e1,λv F1 H1 g1 r1=>?_⟩;have fin:∀(a:Addr)(xs:List V),SqL X.K F1 a xs->Reps X.K F1 xs ds->R (NZ X.K a) H1:=λa xs ha r=>k F1 H1 _ g1 ⟨λi F' H' s s' hi=>by obtain⟨v,h1,_⟩:=r.get<|ZQ hi;exact⟨xs,v,s'.sqL<|s.sqL ha,h1⟩,λi F' H' x H2 s s' hi⟨hH,hx⟩=>by subst hH;have i6:=hx xs<|s'.sqL<|s.sqL ha;obtain⟨d,h1,h2⟩:=r.getV i6;exact⟨F',d,.refl s',h1,h2.mono s⟩,λi F' H' s s' hi=>⟨xs,s'.sqL<|s.sqL ha,by rw[r.length];exact hi⟩⟩;cases r1 with|@lst a xs eg ha r=>obtain rfl:=(Q5 e2).symm;exact⟨a,rfl,⟨xs,SqL.of<|g1.fh _ _ ha⟩,fin a xs (SqL.of ha) r⟩|@scr a ns ha=>obtain rfl:=(Q5 e2).symm;exact⟨a,rfl,⟨_,g1.fh.sqL ha⟩,fin a _ ha<|Reps.ints ns⟩|_=>cases e2
def Vs{a:Expr}{p:Pos}{ev:Q6}(hg:Gl X "range")(hm:X.mg "range"=none)(ha:PE X a<|tR X O ev)(hs:starEach [a] X.env=[(false,eval a X.env)]:=by rfl):PI X tg (.Call (.Name "range" p) [a] [] pos)<|tI X O<|ZH ev:=PI.imp (Qfs hg hm (Xq ha hs) hs)<|by
  rintro σ H R⟨F0,F,en,ds,rs,z,k⟩;obtain⟨d,e1,e2⟩:=Qg z;cases d with
  |int n=>
   simp only[D.rng]at e2;split at e2
   .rename_i hz;obtain rfl:=(Q5 e2).symm;refine⟨F0,F,en,.int n,rs,e1,λv F1 H1 g1 r1=>⟨n,by rw[r1.int],by omega,by omega,k F1 H1 _ g1 ⟨λi F' H' s s' hi=>?_,λi F' H' x H2 s s' hi⟨hH,hx⟩=>?_,λi F' H' s s' hi=>?_⟩⟩⟩;.rw[Lw]at hi;exact hi
    .subst hH hx;have jk:i<n.toNat:=by rw[Lw]at hi;exact hi
     exact⟨F',.int<|0+(i:Int),.refl s',by simp[rD,jk],.int _⟩
    .rw[Lw]at hi;exact hi
   .simp at e2|_=>cases e2
end
section
variable{P:Program}{w:World}{K:Fg}{mg:Str->Option Value}{ae:Heap}{x:Str}{st:Stmt}{N ps:List Str}{k:Nat}{b:QJ}
section
variable{h:Heap}{f:Addr}{oc kV dc pm cd ct:Value}{od an:Option Addr}{osl:Array<|Option Value}
def df_mk(X:K.In h)(G:h.Ns mainGlobals mg)(hb:∀(kV doc pm:Value)(an:Option Addr)(ah ct:Value)(us:List Value),us.length=ps.length->bindArgs (W.fnOf x x (YS st) (Ju st) (QN st) .none kV doc pm an ah ct) ⟨us,[]⟩=pure (ps.zip us))(a:W.nsIn K mainGlobals x=some (some<|.ref f))(l:K.lookup f=some ⟨oc,od,.func<|W.fnOf x x (YS st) (Ju st) (QN st) .none kV dc pm an cd ct,osl⟩)(c:W.codeIn K cd x=true)(k:W.keepIn K (.ref f)=true):Df K mg x st ps:=⟨f,_,Mv l c k,(Mv l c k).binds hb,W.mg_of X G a⟩
def law_mk{fa:Addr}{y:Str}(X:K.In h)(G:h.Ns mainGlobals mg)(nC:mg x=some (.ref fa))(hb:∀(kV doc pm:Value)(an:Option Addr)(ah ct:Value)(u:Value),bindArgs (W.fnOf x x (YS st) (Ju st) (QN st) .none kV doc pm an ah ct) ⟨[u],[]⟩=pure [(y,u)])(a:W.nsIn K mainGlobals x=some (some<|.ref f))(l:K.lookup f=some ⟨oc,od,.func<|W.fnOf x x (YS st) (Ju st) (QN st) .none kV dc pm an cd ct,osl⟩)(c:W.codeIn K cd x=true)(k:W.keepIn K (.ref f)=true):∃fd,(∀(s:Shared)(u:Value),BindsTo s fd ⟨[u],[]⟩ [(y,u)])/\Fun K x x st fa fd:=by have e:=nC.symm.trans<|W.mg_of X G a;cases e;exact⟨_,λs u=>.of_eq<|hb _ _ _ _ _ _ u,Mv l c k⟩
end
end
def QcU(K:Fg)(f:List D->Option D)(h:∀ns,f [.scr ns]=some (.bl true))(H:Hp)(a:Addr)(ns:List Int)(hS:SqL K H a<|ns.map V.int):spD K f [.ref a] H (λv _=>v=.bl true) λ_ _ _=>False:=⟨H,[.scr ns],.bl true,.refl H,.cons (.scr hS) .nil,h ns,λv F' H' g r=>by cases r;rfl⟩
def LG(K:Fg):Uv K "int":=λd hd=>by cases d<;>first|rfl|exact absurd rfl<|hd.1 _|exact absurd rfl<|hd.2 _ _
def E7(K:Fg):Uv K "bool":=λd hd=>by cases d<;>first|rfl|exact absurd rfl<|hd.1 _|exact absurd rfl<|hd.2 _ _
def QcL(K:Fg):Uv K "tuple":=λd hd=>by cases d<;>first|rfl|exact absurd rfl<|hd.1 _|exact absurd rfl<|hd.2 _ _
def E8(K:Fg):Uv K "list":=λd hd=>by cases d<;>first|rfl|exact absurd rfl<|hd.1 _|exact absurd rfl<|hd.2 _ _
def E9(K:Fg):Uv K "str":=λd hd=>by cases d<;>first|rfl|exact absurd rfl<|hd.1 _|exact absurd rfl<|hd.2 _ _
section
variable{X:Cx}{aa:List<|Addr×Obj}{σ:L2.St}{H:Hp}{s:Shared}{h':Heap}
def Qg2{t':Nat}{ch:List Addr}{p:Addr}{o:HO}(I:Inv X aa σ H s)(k:∀b u,b∉ch->s.heap.get? b=some u->h'.get? b=some u)(hf:∀b∈ch,Ye X aa H b)(hp:s.heap.objs.size<=p)(new:ObjOk X.prog X.w (upd H p o) h' p o):Inv X aa σ (upd H p o) {s with heap:=h',toks:=t'}:=by
 have hn:H p=none:=I.hok.fresh hp;have eT:∀b u,H b=some u->b∉ch:=λb u e z=>by rw[(hf b z).1]at e;simp at e
 refine I.step (g':=s.gens) (d':=s.drawn) (ch:=ch) (λb hb=>?_) (λb o _ _ hc e _=>k b o hc e) (λb o _ _ hc e _=>⟨o.slots,k b o hc e⟩) (λb o _ e n=>?_) (λb o hc e=>⟨o,k b o hc e⟩) (λb xs e=>?_) (λb xs u e=>?_) (λb ps e=>⟨#[],?_⟩) (λm hm=>?_) (λb u e=>?_) I.bare
 .obtain⟨f0,f1,f2,f3,f4,f5⟩:=hf b hb;exact⟨f3,f1,f4,f5⟩
 .rw[QY<|Z5<|ZW (Heap.lt_size e) hp];exact n
 .rw[QY<|VD e hn];exact e
 .rw[QY<|VD e hn];exact e
 .rw[QY<|VD e hn,e];simp
 .obtain⟨o,es,ep,ho,r⟩:=hm;exact⟨o,es,ep,k _ o (λz=>(hf _ z).2.1 rfl) ho,r⟩
 .by_cases hb:b=p;.subst hb;rw[Qu]at e;obtain rfl:=Q5 e;exact new
  .rw[QY hb]at e;refine(I.hok b u e).stay (λc v hc q=>k c v ?_ q) (λc q=>by rw[QY<|VD q hn];exact q) λc xs q=>by rw[QY<|VD q hn];exact q
   rcases hc with z|z;.rw[z];exact eT b u e
   .exact eT c _ z
def Qg1{t':Nat}{ch:List Addr}(I:Inv X aa σ H s)(k:∀b u,b∉ch->s.heap.get? b=some u->h'.get? b=some u)(hf:∀b∈ch,Ye X aa H b):Inv X aa σ H {s with heap:=h',toks:=t'}:=by
 have eT:∀b u,H b=some u->b∉ch:=λb u e z=>by rw[(hf b z).1]at e;simp at e
 refine I.step (g':=s.gens) (d':=s.drawn) (ch:=ch) (λb hb=>?_) (λb o _ _ hc e _=>k b o hc e) (λb o _ _ hc e _=>⟨o.slots,k b o hc e⟩) (λ_ _ _ _ n=>n) (λb o hc e=>⟨o,k b o hc e⟩) (λ_ _ e=>e) (λ_ _ _ e=>e) (λb ps e=>⟨#[],by rw[e];simp⟩) (λm hm=>?_) (λb u e=>?_) I.bare
 .obtain⟨f0,f1,f2,f3,f4,f5⟩:=hf b hb;exact⟨f3,f1,f4,f5⟩
 .obtain⟨o,es,ep,ho,r⟩:=hm;exact⟨o,es,ep,k _ o (λz=>(hf _ z).2.1 rfl) ho,r⟩
 .refine(I.hok b u e).stay (λc v hc q=>k c v ?_ q) (λ_ q=>q) λ_ _ q=>q;rcases hc with z|z;.rw[z];exact eT b u e
  .exact eT c _ z
end
def NY(K:Fg)(a:Addr):It:=⟨λi H=>∃xs x,SqL K H a xs/\xs[i]?=some x,λi H x H'=>∃p y,H p=none/\x=.ref p/\H'=upd H p (.tup [.int i,y])/\∀xs,SqL K H a xs->xs[i]?=some y,λi H=>∃xs,SqL K H a xs/\xs.length<=i⟩
def Qg3{P:Program}{w:World}{K:Fg}{elts:List Expr}{x1:Nat}{pos:Pos}(a e it:Addr)(iG:e≠it):Turn P w K (.Tuple elts x1 pos) (NY K a) [e,it] e λi h=>∃old,IsEnum h e it i old/\h.IsListIter it a i where
 mem:=by simp
 obj:=λi h st b hb=>by
  obtain⟨old,he,o,ho,c,d⟩:=st;rcases q_7.mp hb with z|z;.subst z;exact⟨_,he,λv z=>by have z':Data.fields _=Data.cell v:=z;simp at z'⟩
  .have z:=q_1.mp z;subst z;exact⟨o,ho,λv z=>by rw[d]at z;simp at z⟩
 keep:=λi h h' st k=>by
  obtain⟨old,he,hi⟩:=st;exact⟨old,k e (by simp) _ he,hi.at λo q=>k it (by simp) o q⟩
 item:=by
  intro X hP hw hK hc i aa s σ H E I hf st hg;subst hP hw hK;obtain⟨old,he,hi⟩:=st;obtain⟨xs,x,hq,hx⟩:=hg;obtain⟨its,rv,p,hz⟩:=I.list hq;obtain⟨u,hu,ru⟩:=rv.get hx;refine wpAny_pyNext_enum_item he hi p.isList (x:=u) (by simpa using hu) iG λh' eo jk ht cW kk=>?_;refine⟨_,rfl,wpAny_letOwnedTupleGo_enum eo λh2 cg sb=>?_⟩;have k2:∀b o,b∉[e,it]->s.heap.get? b=some o->h2.get? b=some o:=λb o hb q=>by
   have h1:b≠e:=λz=>hb (by simp[z]);have h3:b≠it:=λz=>hb (by simp[z]);exact(sb.2 b h1).trans<|kk b o h1 h3 q
  have fe:H s.heap.objs.size=none:=I.hok.fresh<|Qm _;have le:e<s.heap.objs.size:=Heap.lt_size he;have iD:h2.get? s.heap.objs.size=some {cls:=.type "tuple",data:=.seq #[.int i s.toks,u]}:=(sb.2 _<|ne_of_gt le).trans ht;have li:it<s.heap.objs.size:=by obtain⟨o,ho,_⟩:=hi;exact Heap.lt_size ho
  have I2:Inv X aa σ (upd H s.heap.objs.size<|.tup [.int i,x]) {s with heap:=h2,toks:=s.toks+1}:=Qg2 (t':=s.toks+1) I k2 hf (Qm _)<|show ObjOk X.prog X.w _ h2 _<|.tup [.int i,x]from⟨by show 2<=sizeLine;decide,[.int i s.toks,u],.cons ⟨_,rfl⟩<|.cons ru .nil,⟨_,iD,rfl,_,rfl⟩⟩;refine⟨.ref s.heap.objs.size,_,I2,rfl,⟨_,x,fe,rfl,rfl,λys hy=>by rw[I.list_inj hy hq];exact hx⟩,⟨u,cg,?_⟩,λb hb=>?_⟩;.exact jk.at λo q=>(sb.2 it<|Ne.symm iG).trans q
  .have:b≠s.heap.objs.size:=by
    rcases q_7.mp hb with z|z;.rw[z];exact Z5 le
    .rw[q_1.mp z];exact Z5 li
   rw[QY this];exact(hf b hb).1
 done:=by
  intro X hP hw hK hc i aa s σ H E I hf st hg;subst hP hw hK;obtain⟨old,he,hi⟩:=st;obtain⟨xs,hq,hx⟩:=hg;obtain⟨its,rv,p,hz⟩:=I.list hq;have hl:=rv.length;exact wpAny_pyNext_enum_end (I.ok.hd hc) he hi p.isList (by simp;omega) λh' eb=>⟨rfl,Qg1 (t':=s.toks) I (λb o hb q=>eb b o (λz=>hb<|by simp[z]) q) hf⟩
 self:=λ_ _ _ _ _ st h=>by obtain⟨old,he,_⟩:=st;exact wpAny_pyIter_enum he h
section
variable{X:Cx}{O:List Nat}{a:Expr}{p pos:Pos}
def QbW(K:Fg)(ta:TA):TI:=λσ H R=>ta σ H λvs H1=>∃l,vs=[.ref l]/\(∃xs,SqL K H1 l xs)/\R (NY K l) H1
def Qfq{elts:List Expr}{x1:Nat}{dR:Pos}{ta:TA}(hg:Gl X "enumerate")(hm:X.mg "enumerate"=none)(ha:PA X [a] ta)(hs:starEach [a] X.env=[(false,eval a X.env)]:=by rfl):PI X (.Tuple elts x1 dR) (.Call (.Name "enumerate" p) [a] [] pos)<|QbW X.K ta:=by
 intro aa s σ H R I h;refine Call_<|Sd I hg hm boot_enumerate<|PyProof.Rows.callWith_type1 (Qd (ha pos aa s σ H _ I h) λus s1⟨vs,H1,I1,r1,q1⟩=>?_) hs rfl;obtain⟨l,e,⟨xs,hq⟩,q⟩:=q1;subst e;obtain⟨u,rfl,rx⟩:=Wn r1;cases rx;obtain⟨its,rv,pl,hz⟩:=I1.list hq;refine call_enumerate_list pl.isList λh' he hi cW hk=>?_;have I2:Inv X aa σ H1 {s1 with heap:=h'}:=I1.kept (t':=s1.toks) hk;have fe:∀b,s1.heap.objs.size<=b->H1 b=none:=λb hb=>I1.hok.fresh hb;refine wpAny_pyIter_enum he ⟨_,[s1.heap.objs.size+1,s1.heap.objs.size],_,_,H1,rfl,I2,Qg3 l _ _<|Nat.succ_ne_self _,⟨.none,he,hi⟩,λb hb=>?_,q⟩;have:s1.heap.objs.size<=b:=by
  rcases q_7.mp hb with z|z;.rw[z];exact le_succ _
  .rw[q_1.mp z];exact Qm _
 exact I1.fpOk this<|fe b this
theorem FO:∀(ds:List D)(n i:Nat)(d:D),ds[i]?=some d->(Vu n ds)[i]?=some (.tup [.int ((n+i:Nat):Int),d])|[],_,_,_,h=>by simp at h|d::ds,n,0,_,h=>by simp at h;subst h;simp[Vu]|d::ds,n,i+1,x,h=>by have:=FO ds (n+1) i x (by simpa using h);rw[Vu,List.getElem?_cons_succ,this,show n+1+i=n+(i+1)by omega]
theorem MW:∀(ds:List D)(n:Nat),(Vu n ds).length=ds.length|[],_=>rfl|d::ds,n=>by rw[Vu,Jb,Jb,MW]
def ML{elts:List Expr}{x1:Nat}{dR:Pos}{ev:Q6}(hg:Gl X "enumerate")(hm:X.mg "enumerate"=none)(ha:PE X a<|tD X O ev)(hs:starEach [a] X.env=[(false,eval a X.env)]:=by rfl):PI X (.Tuple elts x1 dR) (.Call (.Name "enumerate" p) [a] [] pos)<|tI X O<|Xg ev:=PI.imp (Qfq hg hm (J5 ha JL hs) hs)<|by rintro σ H R⟨F0,F,en,ds0,rs,z,k⟩;obtain⟨d,e1,e2⟩:=Qg z;obtain⟨ds,e3,rfl⟩:=Z0 e2;refine⟨F0,F,en,d,rs,e1,λv F1 H1 g1 r1=>?_⟩;have fin:∀(l:Addr)(xs:List V),SqL X.K F1 l xs->Reps X.K F1 xs ds->R (NY X.K l) H1:=λl xs hl r=>k F1 H1 _ g1 ⟨λi F' H' s s' hi=>by rw[MW]at hi;obtain⟨v,h1,_⟩:=r.get<|ZQ hi;exact⟨xs,v,s'.sqL<|s.sqL hl,h1⟩,λi F' H' x H2 s s' hi hy=>by obtain⟨p,y,hp,rfl,rfl,hx⟩:=hy;have i6:=hx xs<|s'.sqL<|s.sqL hl;obtain⟨d,h1,h2⟩:=r.getV i6;have g:=Gr.new s' hp<|.tup [.int i,y];refine⟨_,.tup [.int i,d],g,?_,.tup Qu<|.cons (.int _)<|.cons ((h2.mono s).mono g.ff) .nil⟩;have:=FO ds 0 i d h1;rw[this,zero_add],λi F' H' s s' hi=>⟨xs,s'.sqL<|s.sqL hl,by rw[MW]at hi;rw[r.length];exact hi⟩⟩;cases r1 with|@lst l xs eg hl r=>obtain rfl:=Q5 e3;exact⟨l,rfl,⟨xs,SqL.of<|g1.fh _ _ hl⟩,fin l xs (SqL.of hl) r⟩|@scr l ns hl=>obtain rfl:=Q5 e3;exact⟨l,rfl,⟨_,g1.fh.sqL hl⟩,fin l _ hl<|Reps.ints ns⟩|_=>cases e3
end
section
variable{env:Env}
theorem M4:∀(names:List<|Str×NameKind)(cs:List<|Str×Addr),(∀x∈names,x.2=.free->∃c,env.cells.lookup x.1=some c)->(∀x c,cs.lookup x=some c->env.cells.lookup x=some c)->∃cl,forIn (m:=Sem) names cs (λx r=>match x with|(name,kind)=>if(kind==NameKind.free)=true then do let c<-cellOf env name;pure<|ForInStep.yield<|(name,c)::r else pure<|ForInStep.yield r:Str×NameKind->List (Str×Addr)->Sem (ForInStep<|List<|Str×Addr))=pure cl/\(∀x c,cl.lookup x=some c->env.cells.lookup x=some c)/\∀x,(∃c,cs.lookup x=some c)\/(x,NameKind.free)∈names->∃c,cl.lookup x=some c
 |[],cs,_,hP=>⟨cs,rfl,hP,λx h=>by
   rcases h with h|h;.exact h
   .simp at h⟩|(n,k)::names,cs,hf,hP=>by
  rw[forIn_cons];by_cases hk:k=.free
  .subst hk;obtain⟨c,hc⟩:=hf (n,.free) JY rfl;have cm:cellOf env n=pure c:=by unfold cellOf;rw[hc]
   obtain⟨cl,h1,h2,h3⟩:=M4 names ((n,c)::cs) (λx hx=>hf x<|Qy _ hx) (λx c' h=>by
    rw[Vk]at h;split at h
    .rename_i z;obtain rfl:=Q5 h;rw[eq_of_beq z];exact hc
    .exact hP x c' h);refine⟨cl,?_,h2,λx h=>h3 x ?_⟩
   .rw[<-h1];simp only[beq_self_eq_true,if_true,cm];rfl
   .rcases h with⟨c',h⟩|h
    .left;rw[Vk];split;.exact⟨_,rfl⟩
     .exact⟨c',h⟩
    .rcases q_7.mp h with h|h
     .cases h;left;exact⟨c,by simp⟩
     .exact .inr h
  .have hb:(k==NameKind.free)=false:=by simpa using hk
   obtain⟨cl,h1,h2,h3⟩:=M4 names cs (λx hx=>hf x<|Qy _ hx) hP;refine⟨cl,?_,h2,λx h=>h3 x ?_⟩
   .rw[<-h1];simp only[hb,Bool.false_eq_true,if_false];rfl
   .rcases h with h|h;.exact .inl h
    .rcases q_7.mp h with h|h
     .cases h;exact absurd rfl hk
     .exact .inr h
def Am{scope:Scope}(hf:∀x∈scope.names,x.2=.free->∃c,env.cells.lookup x.1=some c):∃cl,closureFor scope env=pure cl/\(∀x c,cl.lookup x=some c->env.cells.lookup x=some c)/\∀x,(x,NameKind.free)∈scope.names->∃c,cl.lookup x=some c:=by obtain⟨cl,h1,h2,h3⟩:=M4 scope.names [] hf (λx c h=>by simp at h);refine⟨cl,?_,h2,λx h=>h3 x<|.inr h⟩;have e:closureFor scope env=forIn (m:=Sem) scope.names [] (λx r=>match x with|(name,kind)=>if(kind==NameKind.free)=true then do let c<-cellOf env name;pure<|ForInStep.yield<|(name,c)::r else pure<|ForInStep.yield r:Str×NameKind->List (Str×Addr)->Sem (ForInStep<|List<|Str×Addr))>>=λr=>pure r:=rfl;rw[e,h1];rfl
theorem LL(env:Env):∀(names:List<|Str×NameKind)(x:Str),(names.map λ(n,k)=>if(k==NameKind.free&&env.scope.kind==.function&&env.kindOf n==some .cell)then(n,NameKind.cell)else(n,k)).lookup x=(names.lookup x).map λk=>if(k==NameKind.free&&env.scope.kind==.function&&env.kindOf x==some .cell)then NameKind.cell else k
 |[],_=>rfl|(n,k)::names,x=>by
  have ih:=LL env names x;rw[YK,Vk];show List.lookup x ((if(k==NameKind.free&&env.scope.kind==.function&&env.kindOf n==some .cell)=true then(n,NameKind.cell)else(n,k))::_)=_;cases hx:x==n with
  |true=>
   have:=eq_of_beq hx;subst this;by_cases hc:(k==NameKind.free&&env.scope.kind==.function&&env.kindOf x==some .cell)=true
   .rw[if_pos hc,Vk,hx];rw[Vk,hx];simp only[map_some];rw[if_pos hc]
   .rw[if_neg hc,Vk,hx];rw[Vk,hx];simp only[map_some];rw[if_neg hc]|false=>
   by_cases hc:(k==NameKind.free&&env.scope.kind==.function&&env.kindOf n==some .cell)=true;.rw[if_pos hc,Vk,Vk,hx];exact ih
   .rw[if_neg hc,Vk,Vk,hx];exact ih
theorem mem_of_lookup{α β:Type}[BEq α][LawfulBEq α]:∀{l:List<|α×β}{x:α}{y:β},l.lookup x=some y->(x,y)∈l
 |[],_,_,h=>by simp at h|(a,b)::l,x,y,h=>by
  rw[Vk]at h;split at h;.rename_i z;obtain rfl:=Q5 h;rw[eq_of_beq z];exact JY
  .exact Qy _<|mem_of_lookup h
end
noncomputable def UG(X:Cx)(scope:Scope)(N':List Str)(cl:List<|Str×Addr)(C:Addr)(ex:List Addr)(s:Shared)(H:Hp)(pn:List<|Addr×Obj):Cx:={X with N:=N',env:=compEnvC scope cl C X.env,s₀:=s,H₀:=H,af:=X.stack,ex:=ex,fn:=λ_=>false,pn:=pn,xe:=λ_ _=>False}
structure CompSc(X:Cx)(scope:Scope)(n:Nat)(N':List Str)(ao:List Nat):Prop where
 kind:scope.kind=.function
 nocell:∀y∈scope.names,y.2≠.cell
 loc:∀x∈scope.names,x.2=.local->scope.names.lookup x.1=some .local
 fre:∀x∈scope.names,x.2=.free->X.env.kindOf x.1=some .cell\/X.env.kindOf x.1=some .free
 len:N'.length=n+ao.length
 cap:∀(j i:Nat),ao[j]?=some i->∃x,N'[n+j]?=some x/\X.N[i]?=some x/\scope.names.lookup x=some .free
 nd:N'.Nodup
section
variable{X:Cx}{aa:List<|Addr×Obj}{σ:L2.St}{H:Hp}{s:Shared}{scope:Scope}{n:Nat}{N':List Str}{ao:List Nat}{cl:List<|Str×Addr}{C:Addr}{ex:List Addr}
def Aq(S:CompSc X scope n N' ao){x:Str}(h:(compEnvC scope cl C X.env).kindOf x=some .cell\/(compEnvC scope cl C X.env).kindOf x=some .free):(x,NameKind.free)∈scope.names:=by have e:(compEnvC scope cl C X.env).kindOf x=(scope.names.lookup x).map λk=>if(k==NameKind.free&&X.env.scope.kind==.function&&X.env.kindOf x==some .cell)then NameKind.cell else k:=LL X.env scope.names x;rw[e]at h;cases q:scope.names.lookup x with|none=>rw[q]at h;rcases h with h|h<;>simp at h|some k=>have m:=mem_of_lookup q;cases k with|free=>exact m|cell=>exact absurd rfl<|S.nocell _ m|_=>rw[q]at h;rcases h with h|h<;>simp at h
def Ap(I:Inv X aa σ H s)(S:CompSc X scope n N' ao)(hC:s.heap.objs.size<=C)(cT:∀x c,cl.lookup x=some c->X.env.cells.lookup x=some c)(dB:∀x,(x,NameKind.free)∈scope.names->∃c,cl.lookup x=some c)(hex:∀b∈ex,Ye X aa H b/\b≠C)(pn:List<|Addr×Obj):(UG X scope N' cl C ex s H pn).Ok where
 mod:=I.ok.mod
 kind:=S.kind
 glob:=I.ok.glob
 blt:=I.ok.blt
 above:=hC
 inj:=λx y c h1 h2=>I.ok.inj x y c (cT x c h1)<|cT y c h2
 has:=λx h=>dB x<|Aq (cl:=cl) (C:=C) S h
 cab:=λx c h=>by cases h
 hd:=I.ok.hd
 frames:=I.ok.frames
 stk:=.inl rfl
 exf:=λb hb=>⟨(hex b hb).2,λx c h=>(hex b hb).1.2.2.2.2.1 x c<|cT x c h⟩
 bs:=I.bs
 bsz:=ZU I.ok.bsz I.sz
 noex:=λb o e hb=>by
  rcases(hex b hb).1.2.2.2.1 with z|z;.exact I.ok.noex b o e z
  .exact absurd (ZW (Heap.lt_size e)<|ZU I.ok.bsz z)<|X6 _
 exfs:=λb hb hf=>by
  obtain⟨⟨_,h1,h2,_⟩,_⟩:=hex b hb;rcases q_7.mp<|I.stkSub b hf with z|z;.exact h1 z
  .exact h2 z
 funs:=I.stack
 frf:=I.stkFree
end
def Ar{prog:Program}{w:World}{A:Around}{R:Result->Shared->Prop}{s:Shared}{elt target iter:Expr}{ifs:List Expr}{scope:Scope}{pos:Pos}{it acc:Value}{env:Env}{E:Value->Shared->Prop}(hE:∀x s,¬E x s)(J:Nat->Shared->Prop)(turn:∀n s,J n s->wpAny (model prog w) A (pyNext it) (λr s₁=>match r with|none=>R (.ok .next) s₁|some v=>wpAny (model prog w) A (letOwnedTupleGo target it v) (λ_ s₁=>wpAny (model prog w) A (assign target env v) (λ_ s₂=>wpAny (model prog w) A (forIn ifs true λc r=>if r=true then do let ok<-isTrue c env<|eval c env;pure<|ForInStep.yield ok else pure<|ForInStep.yield r) (λok s₃=>if ok=true then wpAny (model prog w) A (eval elt env) (λx s₄=>wpAny (model prog w) A (call (.builtin "list.append") [acc,x]) (λ_ s₅=>∃m,m<n/\J m s₅) E s₄) E s₃ else∃m,m<n/\J m s₃) E s₂) E s₁) E s₁) E s)(n:Nat)(h:J n s):codeAny (model prog w) A (.compLoop (.ListComp elt [⟨target,iter,ifs,0⟩] scope pos) 0 it acc env) R s:=by have no:∀{E':Value->Shared->Prop}x s,E x s->E' x s:=λx s h=>absurd h<|hE x s;refine codeAny_loop rfl J (λn s hI=>?_) n h;show wpAny _ A ((compTurn (.ListComp elt [⟨target,iter,ifs,0⟩] scope pos) 0 it acc env).onRaise λx=>do noteFrame x env;theTreesLotGoes x) _ _ s;refine wpAny_noted ?_;rw[compTurn_list];refine wpAny_bind<|wpAny_standAt<|wpAny_bind<|wpAny_mono (turn n s hI) (λr s₁ h₁=>?_) λx s h'=>no x s h';cases r with|none=>exact wpAny_pure h₁|some v=>refine wpAny_bind<|wpAny_mono h₁ (λ_ s₂ h₂=>wpAny_bind<|wpAny_mono h₂ (λ_ s₂ h₂=>wpAny_bind<|wpAny_mono h₂ (λok s₃ h₃=>?_) λx s h'=>no x s h') λx s h'=>no x s h') λx s h'=>no x s h';cases ok with|false=>exact wpAny_pure ⟨rfl,h₃⟩|true=>exact wpAny_bind<|wpAny_bind<|wpAny_mono h₃ (λx s₄ h₄=>wpAny_bind<|wpAny_mono h₄ (λ_ s₅ h₅=>wpAny_pure<|wpAny_pure ⟨rfl,h₅⟩) λx s h'=>no x s h') λx s h'=>no x s h'
def Uw(X:Cx)(ifs:List Expr)(t:TT):Prop:=∀(aa:List<|Addr×Obj)(s:Shared)(σ:L2.St)(H:Hp)(Q:Bool->Hp->Prop),Inv X aa σ H s->t σ H Q->wpAny (model X.prog X.w) X.A (forIn ifs true λc r=>if r=true then do let ok<-isTrue c X.env<|eval c X.env;pure<|ForInStep.yield ok else pure<|ForInStep.yield r) (TP X aa σ Q) X.xe s
section
variable{X:Cx}
def VX{O:List Nat}:Uw X []<|tDT X O<|eC<|.bl true:=by rintro aa s σ H Q I⟨F0,F,en,b,rs,w,k⟩;cases w;exact wpAny_pure ⟨H,I,k F H<|.refl rs.fh⟩
def FI{O:List Nat}{c:Expr}{ev:Q6}(h:PT X c<|tDT X O ev):Uw X [c]<|tDT X O ev:=λaa s σ H Q I t=>by simp only[forIn_cons,List.forIn_nil,if_true];exact wpAny_bind<|wpAny_bind<|wpAny_mono (h aa s σ H Q I t) (λb s' hb=>wpAny_pure<|wpAny_pure hb) λ_ _ x=>x
end
section
variable{X:Cx}{aa:List<|Addr×Obj}{σ:L2.St}{H:Hp}{s:Shared}{scope:Scope}{n:Nat}{N':List Str}{ao:List Nat}{cl:List<|Str×Addr}{fp:List Addr}
noncomputable def XX(n:Nat)(ao:List Nat)(σ:L2.St):L2.St:=List.replicate n none++ao.map λi=>(σ[i]?).join
def As(I:Inv X aa σ H s)(S:CompSc X scope n N' ao)(cT:∀x c,cl.lookup x=some c->X.env.cells.lookup x=some c)(dB:∀x,(x,NameKind.free)∈scope.names->∃c,cl.lookup x=some c)(jn:∀b∈fp,Ye X aa H b/\b<s.heap.objs.size){h1:Heap}{tk:Nat}(dH:h1.Ns (s.heap.objs.size+1) λ_=>none)(old:∀b o,(s.heap.push {cls:=.type "list",data:=.seq #[]}).get? b=some o->h1.get? b=some o):Inv (UG X scope N' cl (s.heap.objs.size+1) (s.heap.objs.size::fp) {s with heap:=s.heap.push {cls:=.type "list",data:=.seq #[]}} H<|X.pn++aa) [] (XX n ao σ) (upd H s.heap.objs.size<|.lst []) {s with heap:=h1,toks:=tk}:=by
 have hz:(s.heap.push {cls:=.type "list",data:=.seq #[]}).objs.size=s.heap.objs.size+1:=Heap.size_push ..;have up:∀b o,s.heap.get? b=some o->h1.get? b=some o:=λb o e=>old b o<|Heap.get?_push_of_some _ e;have ck:H s.heap.objs.size=none:=I.hok.fresh<|Qm _;have hC:H (s.heap.objs.size+1)=none:=I.hok.fresh<|le_succ _;have I3:Inv X aa σ H {s with heap:=s.heap.push {cls:=.type "list",data:=.seq #[]}}:=I.kept (t':=s.toks) λb o e=>Heap.get?_push_of_some _ e;have gf:∀x c,X.env.cells.lookup x=some c->c<s.heap.objs.size:=λx c e=>by
  obtain⟨v,o,ho,_⟩:=I.cell x c e;exact Heap.lt_size ho
 refine⟨Ap I3 S (by rw[hz];exact Qm _) cT dB (λb hb=>?_) _,rfl,I.bare,⟨λb o e _ _ _=>old b o e,λb o e _ _ _=>⟨o.slots,old b o e⟩,λb o e n hb=>?_,λb o e _=>⟨o,old b o e⟩,λb xs e=>?_,λb o u e=>?_,λb ps e=>⟨#[],?_⟩⟩,⟨_,dH,λi x v e1 e2 _=>?_⟩,λx c e=>?_,?_,λx c e=>?_,λp hp=>?_,I.hok.laid up (Qm _) ⟨Zm _,[],0,.nil,old _ _<|Heap.get?_push_size _ rfl⟩,?_⟩
 .rcases q_7.mp hb with z|z;.subst z;exact⟨I.fpOk (Qm _) ck,Z5<|Nat.lt_succ_self _⟩
  .exact⟨(jn b z).1,Z5<|lt_succ_of_lt (jn b z).2⟩
 .rw[QY λz=>hb<|by rw[z];exact JY];exact n
 .rw[QY<|VD e ck];exact e
 .rw[QY<|VD e ck];exact e
 .have e':H b=some (.tbl ps):=e;rw[QY<|VD e' ck,e'];simp
 .unfold XX at e2;rcases VJ i n with hi|hi
  .rw[RK<|by simpa using hi,RJ,if_pos hi]at e2;simp at e2
  .rw[RH<|by simpa using hi,RL,WG]at e2;cases q:ao[i-n]?with
   |none=>rw[q]at e2;simp at e2|some j=>
    rw[q]at e2;obtain⟨x',f1,f2,f3⟩:=S.cap (i-n) j q;rw[show n+(i-n)=i by omega]at f1;have lr:N'[i]?=some x:=e1;rw[f1]at lr;obtain rfl:=(Q5 lr).symm;have gR:(σ[j]?).join=some v:=Q5 e2;have e3:σ[j]?=some (some v):=by cases w:σ[j]?with|none=>rw[w]at gR;simp at gR|some o=>rw[w]at gR;cases o with|none=>simp at gR|some u=>obtain rfl:=(Q5 gR).symm;rfl
    have hm:=mem_of_lookup f3;have kx:=S.fre _ hm rfl;obtain⟨m,_,hl⟩:=I.loc;obtain⟨u,r,lk⟩:=hl j x v f2 e3 (by
     rcases kx with z|z;.exact .inr<|.inl z
     .exact .inr<|.inr z);refine⟨u,r,.inr ⟨?_,?_⟩⟩
    .have e:(compEnvC scope cl (s.heap.objs.size+1) X.env).kindOf x=(scope.names.lookup x).map λk=>if k==NameKind.free&&X.env.scope.kind==.function&&X.env.kindOf x==some .cell then NameKind.cell else k:=LL X.env scope.names x;have e':(compEnvC scope cl (s.heap.objs.size+1) X.env).kindOf x=some (if NameKind.free==NameKind.free&&X.env.scope.kind==.function&&X.env.kindOf x==some .cell then NameKind.cell else NameKind.free):=by rw[e,f3];rfl
     show(compEnvC scope cl (s.heap.objs.size+1) X.env).kindOf x=some .cell\/(compEnvC scope cl (s.heap.objs.size+1) X.env).kindOf x=some .free;rw[e'];split;.exact .inl rfl
     .exact .inr rfl
    .obtain⟨c,hc⟩:=dB x hm;rcases lk with⟨z,_⟩|⟨_,c',fP,o,ho,hd⟩;.rcases kx with w|w<;>(rw[z]at w;simp at w)
     .have:=cT x c hc;rw[fP]at this;obtain rfl:=(Q5 this).symm;exact⟨c,hc,o,up c o ho,hd⟩
 .obtain⟨v,o,ho,hd⟩:=I.cell x c<|cT x c e;exact⟨v,o,up c o ho,hd⟩
 .show upd H s.heap.objs.size (.lst []) (s.heap.objs.size+1)=none;rw[QY<|Nat.succ_ne_self _];exact hC
 .rw[QY<|Z5<|gf x c<|cT x c e];exact I.freeC x c<|cT x c e
 .have aZ:p∈X.pn++aa:=by simpa[UG]using hp
  obtain⟨k1,k2,k3,k4,k5⟩:=I.pin p aZ;have lt:p.1<s.heap.objs.size:=Heap.lt_size k1;refine⟨up _ _ k1,?_,Z5<|lt_succ_of_lt lt,λhb=>?_,k5⟩;.rw[QY<|Z5 lt];exact k2
  .rcases q_7.mp<|I.stkSub _ hb with z|z;.exact k3 z
   .exact k4 z
 .show(XX n ao σ).length=N'.length;rw[S.len];simp[XX]
end
def VO(X:Cx)(scope:Scope)(N':List Str)(P:Cx->Prop):Prop:=∀(cl:List<|Str×Addr)(C:Addr)(ex:List Addr)(s:Shared)(H:Hp)(pn:List<|Addr×Obj),P<|UG X scope N' cl C ex s H pn
section
variable{X:Cx}{O:List Nat}{scope:Scope}{n:Nat}{N':List Str}{ao:List Nat}{tg iter elt:Expr}{ifs:List Expr}{pos:Pos}{it:Za}{g:JW}{c el:Q6}
def Qf8{K:Fg}{H₀:Hp}{F0:Fz}{F H:Hp}{σ:L2.St}{en:Q8}(r:RS K H₀ F0 F H σ en O)(hO:∀i∈ao,i∉O):RS K H ⟨F,H,np⟩ F H (XX n ao σ) (WR n ao en) []where
 fh:=r.fh
 hh:=.refl H
 ff:=.refl F
 fr:=λ_ _ h=>.inl h
 slot:=λi d h _=>by
  unfold WR at h;unfold XX;rcases VJ i n with hi|hi
  .rw[RK<|by simpa using hi,RJ,if_pos hi]at h;simp at h
  .rw[RH<|by simpa using hi,RL,WG]at h;rw[RH<|by simpa using hi,RL,WG];cases q:ao[i-n]?with
   |none=>rw[q]at h;simp at h|some j=>
    rw[q]at h;have h':(en[j]?).join=some d:=Q5 h;have e3:en[j]?=some (some d):=by cases w:en[j]?with|none=>rw[w]at h';simp at h'|some o=>rw[w]at h';cases o with|none=>simp at h'|some u=>obtain rfl:=Q5 h';rfl
    have hj:j∈ao:=List.mem_of_getElem? q;obtain⟨v,h1,h2⟩:=r.slot j d e3<|hO j hj;refine⟨v,?_,h2⟩;simp[h1]
 own:=λi d _ h=>by simp at h
 dis:=λi j p _ _ h=>by simp at h
 pin:=λi h=>by simp at h
 len:=by unfold XX WR;simp
def Dm{K:Fg}{H₀:Hp}{F0:Fz}{F H:Hp}{σ:L2.St}{en:Q8}{p:Addr}{o:HO}(r:RS K H₀ F0 F H σ en [])(h0:F0.h p=none)(hf:F p=none):RS K H₀ F0 F (upd H p o) σ en []where
 fh:=r.fh.upd o hf
 hh:=r.hh.upd o h0
 ff:=r.ff
 fr:=r.fr
 slot:=r.slot
 own:=λi d _ h=>by simp at h
 dis:=λi j p _ _ h=>by simp at h
 pin:=λi h=>by simp at h
 len:=r.len
def Qb0{α:Type}{o:Option D}{x y:Option α}{r:α}(h:Zt o x y=some r):∃b,o=some (.bl b)/\(b=true->x=some r)/\(b=false->y=some r):=by
 obtain⟨b,h1,h2⟩:=Xh h;refine⟨b,h1,λz=>?_,λz=>?_⟩;.subst z;exact h2
 .subst z;exact h2
structure ItOkH(K:Fg)(F H:Hp)(J:It)(ds:List D):Prop where
 go:∀i F' H',Sm F F'->Sm F' H'->Sm H H'->i<ds.length->J.go i H'
 yld:∀i F' H' x H2,Sm F F'->Sm F' H'->Sm H H'->i<ds.length->J.yld i H' x H2->∃F2 d,Gr F' H' F2 H2/\ds[i]?=some d/\Rep K F2 x d
 stop:∀i F' H',Sm F F'->Sm F' H'->Sm H H'->ds.length<=i->J.stop i H'
inductive tIH(X:Cx)(O:List Nat)(it:Za)(σ:L2.St)(H:Hp)(R:L2.It->Hp->Prop):Prop|mk(F0:Fz)(F:Hp)(e:Q8)(ds:List D)(h1:RS X.K X.H₀ F0 F H σ e O)(h2:it e=some ds)(h3:∀F' H' J,Gr F H F' H'->ItOkH X.K F' H' J ds->R J H'):tIH X O it σ H R
def Yk(h:PI X tg iter<|tI X O it):PI X tg iter<|tIH X O it:=PI.imp h<|by rintro σ H R⟨F0,F,en,ds,rs,z,k⟩;exact⟨F0,F,en,ds,rs,z,λF' H' J g io=>k F' H' J g ⟨λi F2 H2 a b _=>io.go i F2 H2 a b,λi F2 H2 x H3 a b _=>io.yld i F2 H2 x H3 a b,λi F2 H2 a b _=>io.stop i F2 H2 a b⟩⟩
def PEt(n0:Nat)(X:Cx)(e:Expr)(t:TE):Prop:=∀(aa:List<|Addr×Obj)(s:Shared)(σ:L2.St)(H:Hp)(Q:VK),n0<=s.toks->Inv X aa σ H s->t σ H Q->wpAny (model X.prog X.w) X.A (eval e X.env) (EP X aa σ Q) X.xe s
def PEt.of{n0:Nat}{X:Cx}{e:Expr}{t:TE}(h:PE X e t):PEt n0 X e t:=λaa s σ H Q _ I q=>h aa s σ H Q I q
def U7{α:Type}{M:Model}{A:Around}{E:Value->Shared->Prop}{s:Shared}{t:Sem α}{Q Q':α->Shared->Prop}{n0:Nat}(hn:n0<=s.toks)(h:wpAny M A t Q E s)(k:∀a s',n0<=s'.toks->Q a s'->Q' a s'):wpAny M A t Q' E s:=wpAny_mono (wpAny_toks_of hn h) (λa s' x=>k a s' x.1 x.2) λ_ _ x=>x.2
structure CI(Y:Cx)(K:Fg)(tn:Nat->Heap->Prop)(fp:List Addr)(F2 H2:Hp)(acc:Addr)(g:JW)(c el:Q6)(ds dM:List D)(i:Nat)(σ':L2.St)(H' F':Hp)(br:Q8)(xs:List V)(done rest:List D)(n0:Nat)(s':Shared):Prop where
 c1:i<=ds.length
 c2:Inv Y [] σ' H' s'
 c3:tn i s'.heap
 c4:∀b∈fp,H' b=none
 c5:RS K H2 ⟨F2,H2,np⟩ F' H' σ' br []c6:H' acc=some (.lst xs)c7:F' acc=none
 c8:Reps K F' xs done
 c9:Y8 g c el (ds.drop i) br=some rest
 ca:done++rest=dM
 cb:done.length<=i
 cc:n0<=s'.toks
def Gj{n0:Nat}(hx:X.xe=λ_ _=>False)(hc:X.calm=true)(S:CompSc X scope n N' ao)(hO:∀i∈ao,i∉O)(hi:PI X tg iter<|tIH X O it)(hg:VO X scope N' λY=>PG Y tg<|tG Y [] [] g)(ht:VO X scope N' λY=>Uw Y ifs<|tDT Y [] c)(he:VO X scope N' λY=>PEt n0 Y elt<|tD Y [] el)(hs:∀x,foldedSetIterable iter X.env x=pure x){use:Option<|Value->Sem Unit}{Qv:Value->Shared->Prop}{ax:Pos}{aa:List<|Addr×Obj}{σ:L2.St}{H:Hp}{s:Shared}(ja:n0<=s.toks)(I:Inv X aa σ H s){F0:Fz}{F:Hp}{en:Q8}{ds dM:List D}(rs:RS X.K X.H₀ F0 F H σ en O)(e1:it en=some ds)(hlen:ds.length<=Qz)(e3:Y8 g c el ds (WR n ao en)=some dM)(j9:∀acc C s' H' F' xs m,H acc=none->Inv X aa σ H' s'->Ye X aa H' C->s'.heap.Ns C m->Gr F H F' H'->F' acc=none->H' acc=some (.lst xs)->Reps X.K F' xs dM->compPost (model X.prog X.w) X.A X.xe use Qv (.ref acc) C (.ok .next) s'):wpAny (model X.prog X.w) X.A (comprehension (.ListComp elt [⟨tg,iter,ifs,0⟩] scope pos) scope X.env ax (newList []) false (eval iter X.env) use) Qv X.xe s:=by
 obtain⟨cl,j6,cT,dB⟩:=Am (scope:=scope) (env:=X.env) λx hx hk=>I.ok.has x.1<|S.fre x hx hk;refine wpAny_comprehension_free (use:=use) rfl hs j6 S.kind S.loc ?_;refine U7 ja (hi aa s σ H _ I ⟨F0,F,en,ds,rs,e1,λF' H' J gr io=>⟨F',gr,io⟩⟩:wpAny (model X.prog X.w) X.A (eval iter X.env) (λv s1=>wpAny (model X.prog X.w) X.A (pyIter v) (PIE X aa σ tg λJ H'=>∃F',Gr F H F' H'/\ItOkH X.K F' H' J ds) X.xe s1) X.xe s) λv s1 m9 h1=>?_;refine U7 m9 h1 λiC s2 eW h2=>?_;obtain⟨i3,fp,tn,J,H2,rfl,I2,T,gx,f2,F2,gr,io⟩:=h2;have gQ:∀b∈fp,Ye X aa H2 b/\b<s2.heap.objs.size:=λb hb=>by
  obtain⟨o,ho,_⟩:=T.obj 0 _ gx b hb;exact⟨f2 b hb,Heap.lt_size ho⟩
 have ck:H2 s2.heap.objs.size=none:=I2.hok.fresh<|Qm _;have hz:(s2.heap.push {cls:=.type "list",data:=.seq #[]}).objs.size=s2.heap.objs.size+1:=Heap.size_push ..;refine wpAny_newObj_type<|wpAny_newFunctionEnv S.nocell (by intro y hy;simp at hy) (λh1 gX gW=>?_) S.kind;dsimp only at gX gW⊢;have dH:h1.Ns (s2.heap.objs.size+1) λ_=>none:=by
  have q:=gX;rw[hz]at q;exact q
 have old:∀b o,(s2.heap.push {cls:=.type "list",data:=.seq #[]}).get? b=some o->h1.get? b=some o:=λb o e=>gW.extBut b o (Z5<|Heap.lt_size e)<|Heap.get?_push_of_some _ e;have I4:=As (tk:=s2.toks+([]:List<|Str×Value).length) I2 S cT dB gQ dH old;have loop:∀(R:Result->Shared->Prop),(∀s' H' F' xs m,Inv (UG X scope N' cl (s2.heap.objs.size+1) (s2.heap.objs.size::fp) {s2 with heap:=s2.heap.push {cls:=.type "list",data:=.seq #[]}} H2<|X.pn++aa) [] m H' s'->Gr F2 H2 F' H'->F' s2.heap.objs.size=none->H' s2.heap.objs.size=some (.lst xs)->Reps X.K F' xs dM->R (.ok .next) s')->codeAny (model X.prog X.w) X.A (.compLoop (.ListComp elt [⟨tg,iter,ifs,0⟩] scope pos) 0 (.ref i3) (.ref s2.heap.objs.size)<|compEnvC scope cl (s2.heap.objs.size+1) X.env) R {s2 with heap:=h1,toks:=s2.toks+([]:List<|Str×Value).length}:=by
  intro R hR;have gY:=hg cl (s2.heap.objs.size+1) (s2.heap.objs.size::fp) {s2 with heap:=s2.heap.push {cls:=.type "list",data:=.seq #[]}} H2<|X.pn++aa;have tY:=ht cl (s2.heap.objs.size+1) (s2.heap.objs.size::fp) {s2 with heap:=s2.heap.push {cls:=.type "list",data:=.seq #[]}} H2<|X.pn++aa;have eY:=he cl (s2.heap.objs.size+1) (s2.heap.objs.size::fp) {s2 with heap:=s2.heap.push {cls:=.type "list",data:=.seq #[]}} H2<|X.pn++aa;generalize hY:UG X scope N' cl (s2.heap.objs.size+1) (s2.heap.objs.size::fp) {s2 with heap:=s2.heap.push {cls:=.type "list",data:=.seq #[]}} H2 (X.pn++aa)=Y at I4 gY tY eY hR;have yK:Y.K=X.K:=by rw[<-hY];rfl
  have yP:Y.prog=X.prog:=by rw[<-hY];rfl
  have yW:Y.w=X.w:=by rw[<-hY];rfl
  have yA:Y.A=X.A:=by rw[<-hY];rfl
  have yH:Y.H₀=H2:=by rw[<-hY];rfl
  have yE:Y.env=compEnvC scope cl (s2.heap.objs.size+1) X.env:=by rw[<-hY];rfl
  have yX:Y.xe=λ_ _=>False:=by rw[<-hY];rfl
  have yc:Y.calm=true:=by rw[<-hY];exact hc
  have yf:Y.fs=ZG X.stack:=by rw[<-hY];rfl
  have yx:Y.ex=s2.heap.objs.size::fp:=by rw[<-hY];rfl
  have yp:Y.pn=X.pn++aa:=by rw[<-hY];rfl
  have stat:∀{H':Hp},(∀b∈fp,H' b=none)->∀b∈fp,Ye Y [] H' b:=λhn b hb=>by
   obtain⟨⟨_,q1,q2,q3,q4,q5⟩,q6⟩:=gQ b hb;refine⟨hn b hb,?_,?_,.inl ?_,λx c e=>?_,λp hp=>q5 p ?_⟩;.rw[yE];exact Z5<|lt_succ_of_lt q6
   .rw[yf];intro hf;rcases q_7.mp<|I2.stkSub b hf with w|w;.exact q1 w
    .exact q2 w
   .rw[yx];exact Qy _ hb
   .rw[yE]at e;exact q4 x c<|cT x c e
   .rw[yp]at hp;simpa using hp
  rw[<-yP,<-yW,<-yA,<-yE];have T':Turn Y.prog Y.w Y.K tg J fp i3 tn:=by rw[yP,yW,yK];exact T
  have jN:∀b∈fp,b≠s2.heap.objs.size:=λb hb=>Z5 (gQ b hb).2;refine Ar (E:=Y.xe) (λx s h=>by rw[yX]at h;exact h) (λm s'=>∃i σ' H' F' br xs done rest,m=ds.length-i/\CI Y X.K tn fp F2 H2 s2.heap.objs.size g c el ds dM i σ' H' F' br xs done rest n0 s') ?_ ds.length ⟨0,XX n ao σ,_,F2,WR n ao en,[],[],dM,by omega,by omega,I4,T.keep 0 _ _ gx λb hb o e=>old b o<|Heap.get?_push_of_some _ e,λb hb=>?_,Dm (Qf8 (rs.grow gr) hO) ck<|(rs.grow gr).fh.none ck,Qu,(rs.grow gr).fh.none ck,.nil,by rw[We];exact e3,rfl,Qm _,ZU eW<|Nat.le_add_right _ _⟩
  .rintro m s3⟨i,σ3,H3,F3,jD,xs,done,rest,rfl,hle,I3,gw,gO,rs3,jv,k9,r3,q3,eL,dl3,m8⟩;have iM:Gr F2 H2 F3 H3:=rs3.ex.gr;rcases VJ i ds.length with hi|hi
   .refine U7 m8 (T'.item Y rfl rfl rfl yc i [] s3 σ3 H3 Y.xe I3 (stat gO) gw<|io.go i F3 H3 iM.ff rs3.fh rs3.hh hi) ?_;rintro r s4 m7⟨u,hr,h4⟩;subst hr;refine U7 m7 h4 ?_;rintro _ s5 m6⟨x,H5,I5,r5,y5,fE,jB⟩;obtain⟨F5,dx,g5,kP,l6⟩:=io.yld i F3 H3 x H5 iM.ff rs3.fh rs3.hh hi y5;have fO:ds.drop i=dx::ds.drop (i+1):=by
     rw[XA hi];rw[ZQ hi]at kP;obtain rfl:=Q5 kP;rfl
    rw[fO]at q3;obtain⟨gq,q4,q5⟩:=Qg<|show((g dx jD).bind λe1=>Zt (c e1) ((el e1).bind λx=>(Y8 g c el (ds.drop<|i+1) e1).map λr=>x::r)<|Y8 g c el (ds.drop<|i+1) e1)=some rest from q3;obtain⟨b,q6,qt,qf⟩:=Qb0 q5;have jJ:=I5.pinned (stat jB)<|T.obj _ _ fE;have a5:H5 s2.heap.objs.size=some (.lst xs):=g5.hh _ _ jv;have n5:F5 s2.heap.objs.size=none:=by cases w:F5 s2.heap.objs.size with|none=>rfl|some o=>
      rcases g5.fr _ o w with z|z;.rw[k9]at z;simp at z
      .rw[jv]at z;simp at z
    have rs5:RS Y.K Y.H₀ ⟨F2,H2,np⟩ F5 H5 σ3 jD []:=by rw[yK,yH];exact rs3.grow g5
    refine U7 m6 (gY _ s5 σ3 H5 x u (λσ' H'=>∃F',Gr F5 H5 F' H'/\RS Y.K Y.H₀ ⟨F2,H2,np⟩ F' H' σ' gq []) jJ r5 ⟨⟨F2,H2,np⟩,F5,jD,dx,gq,rs5,by rw[yK];exact l6,q4,λσ' H' F' g' r'=>⟨F',g',r'⟩⟩) λ_ s6 m5⟨σ6,H6,I6,F6,g6,ky⟩=>?_;have keepN:∀{Fa Ha Fb Hb:Hp},Gr Fa Ha Fb Hb->Ha s2.heap.objs.size=some (.lst xs)->Fa s2.heap.objs.size=none->Hb s2.heap.objs.size=some (.lst xs)/\Fb s2.heap.objs.size=none:=λ{Fa Ha Fb Hb}gg ha fa=>by refine⟨gg.hh _ _ ha,?_⟩;cases w:Fb s2.heap.objs.size with|none=>rfl|some o=>
      rcases gg.fr _ o w with z|z;.rw[fa]at z;simp at z
      .rw[ha]at z;simp at z
    obtain⟨a6,n6⟩:=keepN g6 a5 n5;refine U7 m5 (tY _ s6 σ6 H6 (λb' H'=>b'=b/\∃F',Gr F6 H6 F' H') I6 ⟨⟨F2,H2,np⟩,F6,gq,b,ky,q6,λF' H' g'=>⟨rfl,F',g'⟩⟩) λok s7 i9⟨H7,I7,hb,F7,g7⟩=>?_;subst hb;obtain⟨a7,n7⟩:=keepN g7 a6 n6;have ik:=ky.grow g7;have ki:Sm F3 F7:=(g5.ff.trans g6.ff).trans g7.ff;have back:∀{σ8:L2.St}{H8:Hp}{s8:Shared},Inv Y ([]++RE fp s5.heap) σ8 H8 s8->Inv Y [] σ8 H8 s8/\tn (i+1) s8.heap/\∀b∈fp,H8 b=none:=λ{σ8 H8 s8}I8=>by
     refine⟨I8.unpinned,T.keep _ _ _ fE λb hb o e=>(I8.pin (b,o)<|Ze _<|Ze _<|O6 hb e).1,λb hb=>?_⟩;obtain⟨o,e,_⟩:=T.obj _ _ fE b hb;exact(I8.pin (b,o)<|Ze _<|Ze _<|O6 hb e).2.1
    cases ok with
    |false=>rw[if_neg VH];obtain⟨k1,k2,k3⟩:=back I7;exact⟨_,by omega,i+1,σ6,H7,F7,gq,xs,done,rest,rfl,hi,k1,k2,k3,by rw[yK,yH]at ik;exact ik,a7,n7,r3.mono ki,qf rfl,eL,by omega,i9⟩|true=>
     rw[if_pos rfl];obtain⟨dy,q8,q9⟩:=Qg<|qt rfl;obtain⟨hJ,mf,iR⟩:=Z0 q9;refine U7 i9 (eY _ s7 σ6 H7 (λv' H'=>∃F',Gr F7 H7 F' H'/\Rep Y.K F' v' dy) i9 I7 ⟨⟨F2,H2,np⟩,F7,gq,dy,ik,q8,λv' F' H' g' r'=>⟨F',g',r'⟩⟩) λy s8 m4⟨y',H8,I8,l5,F8,g8,kz⟩=>?_;obtain⟨a8,n8⟩:=keepN g8 a7 n7;have ku:=ik.grow g8;have lW:Sm F3 F8:=ki.trans g8.ff;have jP:xs.length<sizeLine:=by rw[YL,r3.length];omega
     refine U7 m4 (VC (X:=Y) _ s8 σ6 H8 (.ref s2.heap.objs.size) [y'] (.ref s2.heap.objs.size) [y] (λv' H'=>H'=upd H8 s2.heap.objs.size (.lst<|xs++[y'])) I8 rfl (.cons l5 .nil) ⟨_,xs,y',rfl,rfl,a8,jP,rfl⟩) λ_ s9 mZ⟨v9,H9,I9,_,nM⟩=>?_;subst nM;obtain⟨k1,k2,k3⟩:=back I9;rw[yK,yH]at ku;rw[yK]at kz;refine⟨_,by omega,i+1,σ6,_,F8,gq,xs++[y'],done++[dy],hJ,rfl,hi,k1,k2,k3,Dm ku ck n8,Qu,n8,(r3.mono lW).append<|.cons kz .nil,mf,?_,?_,mZ⟩;.rw[Zw];rw[<-eL,<-iR];rfl
     .rw[JZ,RM];omega
   .have mK:ds.drop i=[]:=Wf hi;rw[mK]at q3;obtain rfl:=Q5 q3;rw[Yv]at eL;subst eL;refine Qd (T'.done Y rfl rfl rfl yc i [] s3 σ3 H3 Y.xe I3 (stat gO) gw<|io.stop i F3 H3 iM.ff rs3.fh rs3.hh hi) ?_;rintro r s4⟨hr,oA⟩;subst hr;exact hR s4 H3 F3 xs σ3 oA iM k9 jv r3
  .rw[QY<|jN b hb];exact(gQ b hb).1.1
 have I3:Inv X aa σ H2 {s2 with heap:=s2.heap.push {cls:=.type "list",data:=.seq #[]}}:=I2.kept (t':=s2.toks) λb o e=>Heap.get?_push_of_some _ e;have fin:∀s' H' F' xs m,Inv (UG X scope N' cl (s2.heap.objs.size+1) (s2.heap.objs.size::fp) {s2 with heap:=s2.heap.push {cls:=.type "list",data:=.seq #[]}} H2<|X.pn++aa) [] m H' s'->Gr F2 H2 F' H'->F' s2.heap.objs.size=none->H' s2.heap.objs.size=some (.lst xs)->Reps X.K F' xs dM->compPost (model X.prog X.w) X.A X.xe use Qv (.ref s2.heap.objs.size) (s2.heap.objs.size+1) (.ok .next) s':=by
  intro s' H' F' xs m I' g' fa ha r';obtain⟨mm,eF,_⟩:=id I'.loc;have fC:H' (s2.heap.objs.size+1)=none:=I'.free;have IX:Inv X aa σ H' s':=I3.call' (s':=s') (ch:=s2.heap.objs.size::fp) I'.os I'.ae I'.hok I'.bare λb hb=>by
   rcases q_7.mp hb with w|w
   .obtain⟨_,q1,_,q3,q4,q5⟩:=I2.fpOk (b:=b) (H':=H2) (by rw[w];exact Qm _) (by rw[w];exact ck);exact⟨q3,q1,q4,q5⟩
   .obtain⟨⟨_,q1,_,q3,q4,q5⟩,_⟩:=gQ b w;exact⟨q3,q1,q4,q5⟩
  exact j9 s2.heap.objs.size (s2.heap.objs.size+1) s' H' F' xs mm (gr.hh.none ck) IX (I2.fpOk (H':=H') (le_succ _) fC) eF (gr.trans g') fa ha r'
 have lS:tn 0 h1:=T.keep 0 _ _ gx λb hb o e=>old b o<|Heap.get?_push_of_some _ e;have L:=loop (compPost (model X.prog X.w) X.A X.xe use Qv (.ref s2.heap.objs.size)<|s2.heap.objs.size+1) fin;show codeAny (model X.prog X.w) X.A (.compStart (.ListComp elt [⟨tg,iter,ifs,0⟩] scope pos) 0 (.ref i3) (.ref s2.heap.objs.size)<|compEnvC scope cl (s2.heap.push {cls:=.type "list",data:=.seq #[]}).objs.size X.env) (compPost (model X.prog X.w) X.A X.xe use Qv (.ref s2.heap.objs.size) (s2.heap.push {cls:=.type "list",data:=.seq #[]}).objs.size) _;rw[hz];exact codeAny_compStart_list L<|T.self _ 0 _ _ _ lS L
def B5{aa:List<|Addr×Obj}{σ:L2.St}{H:Hp}{s:Shared}{C:Addr}{h':Heap}(I:Inv X aa σ H s)(f:Ye X aa H C)(sb:Heap.SameBut C s.heap h'):Inv X aa σ H {s with heap:=h'}:=by obtain⟨f0,f1,_,f3,f4,f5⟩:=f;exact I.turned (t':=s.toks) (λb o hb e=>(sb.2 b hb).trans e) f0 f1 f3 f4 f5
def VT(hx:X.xe=λ_ _=>False)(hc:X.calm=true)(S:CompSc X scope n N' ao)(hO:∀i∈ao,i∉O)(hi:PI X tg iter<|tIH X O it)(hg:VO X scope N' λY=>PG Y tg<|tG Y [] [] g)(ht:VO X scope N' λY=>Uw Y ifs<|tDT Y [] c)(he:VO X scope N' λY=>PE Y elt<|tD Y [] el)(hs:∀x,foldedSetIterable iter X.env x=pure x:=by intro _;rfl):PE X (.ListComp elt [⟨tg,iter,ifs,0⟩] scope pos)<|tO X O<|JX n ao it g c el:=by
 intro aa s σ H Q I⟨F0,F,en,d,rs,z,k⟩;obtain⟨ds,e1,e2⟩:=Qg z;split at e2;case isFalse=>simp at e2
 case isTrue hlen=>
 obtain⟨dM,e3,rfl⟩:=Z0 e2;rw[eval_ListComp];refine Gj (n0:=0) hx hc S hO hi hg ht (λcl C ex s2 H2 pn=>PEt.of<|he cl C ex s2 H2 pn) hs (use:=none) (Zm _) I rs e1 hlen e3 λacc C s' H' F' xs m n1 I' fC hn gr fa ha r'=>?_;exact⟨m,hn,λh' sb=>⟨.ref acc,H',B5 I' fC sb,rfl,k acc none xs dM F' H' gr n1 fa ha r' rfl trivial⟩⟩
def Nf(n0:Nat)(X:Cx)(st:Stmt)(t:TS):Prop:=∀(aa:List<|Addr×Obj)(s:Shared)(σ:L2.St)(H:Hp)(Dn:Ends),n0<=s.toks->Inv X aa σ H s->t Dn σ H->wpAny (model X.prog X.w) X.A (exec st X.env) (SP X aa Dn) X.xe s
def FN{n0:Nat}(i:Nat){x:Str}{p dS:Pos}{OL:List Nat}{w:Bool}(hN:X.N.Nodup)(hx:X.xe=λ_ _=>False)(hc:X.calm=true)(S:CompSc X scope n N' ao)(hO:∀i∈ao,i∉O)(hi:PI X tg iter<|tIH X O it)(hg:VO X scope N' λY=>PG Y tg<|tG Y [] [] g)(ht:VO X scope N' λY=>Uw Y ifs<|tDT Y [] c)(he:VO X scope N' λY=>PEt n0 Y elt<|tD Y [] el)(i5:X.N[i]?=some x:=by rfl)(je:WN X.env.scope x:=by first|exact Or.inl rfl|exact Or.inr rfl)(hf:WP X x:=by first|exact .inl rfl|exact .inr rfl)(dO:swapsWith (.ListComp elt [⟨tg,iter,ifs,0⟩] scope pos) (some<|.Name x p) dS.line X.env=pure true:=by rfl)(hs:∀x,foldedSetIterable iter X.env x=pure x:=by intro _;rfl)(hq:J1 i∉O:=by decide)(gH:i<1000:=by decide):Nf n0 X (.Assign [.Name x p] (.ListComp elt [⟨tg,iter,ifs,0⟩] scope pos) dS)<|tS X O (ad i O) OL w<|QO (JX n ao it g c el)<|gS i:=by
 intro aa s σ H Dn ja I⟨F0,F,en,fl,rs,z,k⟩;obtain⟨d,z1,z2⟩:=Qg z;obtain⟨br,z3,rfl⟩:=Z0 z2;obtain rfl:=Q5 z3;obtain⟨ds,e1,e2⟩:=Qg z1;split at e2;case isFalse=>simp at e2
 case isTrue hlen=>
 obtain⟨dM,e3,rfl⟩:=Z0 e2;rw[exec_Assign_Name_used _ _ _ _ dO];refine wpAny_bind<|wpAny_standAt<|wpAny_bind ?_;show wpAny _ X.A (do let _<-comprehension (.ListComp elt [⟨tg,iter,ifs,0⟩] scope pos) scope X.env _ (newList []) false (eval iter X.env)<|some<|assign (.Name x p) X.env) _ _ s;refine wpAny_bind<|Qd (Gj hx hc S hO hi hg ht he hs (use:=some<|assign (.Name x p) X.env) (Qv:=λ_ s'=>SP X aa Dn .next s') ja I rs e1 hlen e3 λacc C s' H' F' xs m n1 I' fC hn gr fa ha r'=>?_) λ_ s' hq=>wpAny_pure<|wpAny_pure hq;show wpAny _ X.A (assign (.Name x p) X.env<|.ref acc) _ _ s';refine wpAny_assign_Name<|Cp I' hN i5 je (show RelV (.ref acc)<|.ref acc from rfl) (λij oB dJ=>?_) hf;obtain⟨a,sb,dw⟩:=dJ;have nP:C≠a:=by
  obtain⟨_,f1,_,_,f4,_⟩:=fC;rcases dw with q|q;.rw[q];exact f1
  .exact λzz=>f4 x a q zz.symm
 have aR:=rs.grow gr;refine⟨m,hn.sameBut sb nP,λh' lY=>⟨_,H',B5 oB fC lY,k _ F' H' gr.ff<|aR.putO' (kk:=none) i (rs.hh.none n1) fa ha trivial r' (λj d' hj q2 _ q=>?_) hq λj z=>by unfold J1 at z;omega⟩⟩;obtain⟨p',_,ys,es,h1,_,_,h4,_⟩:=rs.own j d' q2 hj;rw[h1]at q;cases q;rw[n1]at h4;simp at h4
def Qbn(i:Nat){x:Str}{p dS:Pos}{OL:List Nat}{w:Bool}(hN:X.N.Nodup)(hx:X.xe=λ_ _=>False)(hc:X.calm=true)(S:CompSc X scope n N' ao)(hO:∀i∈ao,i∉O)(hi:PI X tg iter<|tIH X O it)(hg:VO X scope N' λY=>PG Y tg<|tG Y [] [] g)(ht:VO X scope N' λY=>Uw Y ifs<|tDT Y [] c)(he:VO X scope N' λY=>PE Y elt<|tD Y [] el)(i5:X.N[i]?=some x:=by rfl)(je:WN X.env.scope x:=by first|exact Or.inl rfl|exact Or.inr rfl)(hf:WP X x:=by first|exact .inl rfl|exact .inr rfl)(dO:swapsWith (.ListComp elt [⟨tg,iter,ifs,0⟩] scope pos) (some<|.Name x p) dS.line X.env=pure true:=by rfl)(hs:∀x,foldedSetIterable iter X.env x=pure x:=by intro _;rfl)(hq:J1 i∉O:=by decide)(gH:i<1000:=by decide):PS X (.Assign [.Name x p] (.ListComp elt [⟨tg,iter,ifs,0⟩] scope pos) dS)<|tS X O (ad i O) OL w<|QO (JX n ao it g c el)<|gS i:=λaa s σ H Dn I=>FN (n0:=0) i hN hx hc S hO hi hg ht (λcl C ex s2 H2 pn=>PEt.of<|he cl C ex s2 H2 pn) i5 je hf dO hs hq gH aa s σ H Dn (Zm _) I
end
def QbF(cps:Array Nat)(i k:Nat):((List.range k).map λm=>i+m).filterMap (cps[·]?)=(cps.toList.drop i).take k:=by
 rw[List.filterMap_map];induction k generalizing i with
 |zero=>simp|succ k ih=>
  rw[List.range_succ_eq_map,filterMap_cons,List.filterMap_map];have e0:((λx=>cps[x]?)∘λm=>i+m) 0=cps[i]?:=by simp
  have e1:((λx=>cps[x]?)∘λm=>i+m)∘Nat.succ=(λx=>cps[x]?)∘λm=>i+1+m:=by funext m;simp only[Function.comp];rw[show i+Nat.succ m=i+1+m by omega]
  rw[e0,e1,ih<|i+1];cases q:cps[i]?with
  |none=>
   have hz:cps.toList.length<=i:=by
    rcases VJ i cps.size with h|h;.rw[Lm h]at q;simp at q
    .simpa using h
   rw[Wf hz,Wf<|Nat.le_succ_of_le hz];simp|some v=>
   have hi:i<cps.toList.length:=by
    rcases VJ i cps.size with h|h;.simpa using h
    .rw[Array.getElem?_eq_none h]at q;simp at q
   have hv:cps.toList[i]=v:=by
    have:cps.toList[i]?=some v:=by simpa using q
    rw[ZQ hi]at this;exact Q5 this
   rw[XA hi,hv,List.take_succ_cons]
def Gh(v:Option Int)(n d:Nat)(hd:d<=n):(match v with|none=>(d:Int)|some i=>max 0<|min (if i<0 then i+(n:Int)else i) (n:Int))=((ZC n d v:Nat):Int):=by cases v with|none=>rfl|some i=>exact M3 i n
def Qgv(a b:Nat):sliceRange (a:Int) (b:Int) 1=(List.range<|b-a).map λm=>a+m:=by
 unfold sliceRange;simp only[show(1:Int)>0 by decide,if_true];have hc:(if(a:Int)<(b:Int)then((b:Int)-(a:Int)+1-1)/1 else 0).toNat=b-a:=by
  split;.rw[Int.ediv_one,Int.add_sub_cancel,Int.toNat_sub]
  .exact(Nat.sub_eq_zero_of_le<|Int.ofNat_le.mp<|Int.not_lt.mp ‹_›).symm
 rw[hc];apply List.map_congr_left;intro m _;rw[Int.one_mul];exact Xs<|a+m
def Qb3(lo hi:Option Int)(n:Nat):Builtin.Str.strSliceIndices lo hi 1 n=(List.range<|ZC n n hi-ZC n 0 lo).map λm=>ZC n 0 lo+m:=by rw[<-Qgv];unfold Builtin.Str.strSliceIndices;simp only[show(1:Int)>0 by decide,if_true];have h1:=Gh lo n 0<|Zm _;have h2:=Gh hi n n<|Qm _;cases lo<;>cases hi<;>dsimp only at h1 h2⊢<;>rw[<-h1,<-h2]<;>rfl
def Qgx(x:Str)(lo hi:Option Int):Txt.slice x lo hi=cutS x lo hi:=by
 unfold Txt.slice cutS Jt;have hl:x.cps.toList.length=x.length:=by simp[Str.length]
 rw[Qb3,Qr,Xu,hl];split
 .rename_i h;have h':ZC x.length x.length hi-ZC x.length 0 lo=x.length:=by simpa using h
  have b1:ZC x.length x.length hi<=x.length:=by cases hi with|none=>exact Qm _|some v=>simp only[ZC];split<;>omega
  by_cases z:x.length=0
  .have:x.cps.toList=[]:=List.length_eq_zero_iff.mp (by rw[hl];exact z);obtain⟨c⟩:=x;have hc:c=#[]:=by simpa using this
   subst hc;simp
  .have b2:ZC x.length 0 lo=0:=by omega
   rw[h',b2,We,<-hl,take_length]
 .rw[QbF]
section
variable{X:Cx}{O:List Nat}{e a b:Expr}{pos:Pos}
def QfO:V->Option Int->Option Int->Hp->VK->Prop:=λx lo hi H Q=>∃z,x=.str z/\z.length<=sizeLine/\Q (.str<|cutS z lo hi) H
def D2{v:Value}{o:Option Int}(p:IsPart v o):∃l:Option<|Int×Tok,partValue l=v/\l.map (·.1)=o:=by cases p with|none=>exact⟨none,rfl,rfl⟩|int i t=>exact⟨some (i,t),rfl,rfl⟩
def Qgr:SlR X QfO:=by
 intro aa s σ H x v vl vu lo hi sl Q I rx hs pl pu h;obtain⟨z,rfl,hz,q⟩:=h;obtain⟨t,rfl⟩:=show∃t,v=Value.str z t from rx;obtain⟨l,rfl,rfl⟩:=D2 pl;obtain⟨u,rfl,rfl⟩:=D2 pu;refine⟨"str",_,F.slot_str_getitem.lookup,typeIs_str _ _ _,wpAny_getItem_str_slice (l:=l) (u:=u) (st:=none) hs rfl ?_⟩;have e:=Qgx z (l.map (·.1)) (u.map (·.1));refine post_val_or_str ⟨?_,λt' k=>?_⟩;.exact ZU (Txt.slice_le z (l.map (·.1)) (u.map (·.1))) hz
 .have:EP X aa σ Q (.str (Txt.slice z (l.map (·.1)) (u.map (·.1))) t') {s with toks:=k}:=by rw[e];exact⟨.str<|cutS z _ _,H,I.tok k,⟨t',rfl⟩,q⟩
  exact this
def Jy{ev:Q6}{lo hi:Option Expr}{el eh:Ut}{p2:Pos}(he:PE X e<|tR X O ev)(hl:PO X lo<|tOI X O el)(hu:PO X hi<|tOI X O eh):PE X (.Subscript e (.Slice lo hi none p2) pos)<|tD X O<|Qn ev el eh:=PE.imp (Qfk (SlR.or Qgr<|SlR.or Qgq Qgs) he hl hu)<|by
  rintro σ H Q⟨F0,F,en,d,rs,w,k⟩;obtain⟨dx,e1,w1⟩:=Qg w;obtain⟨l,u,e2,e3,e4⟩:=Wq w1;refine⟨F0,F,en,dx,rs,e1,λx F1 H1 g1 r1=>?_⟩;refine⟨F0,F1,en,l,rs.grow g1,e2,λF2 H2 g2=>?_⟩;refine⟨F0,F2,en,u,(rs.grow g1).grow g2,e3,λF3 H3 g3=>?_⟩;have eZ:=(g1.trans g2).trans g3;have r3:=(r1.gr g2).gr g3;have s3:=g3.fh;cases dx with
  |str z=>
   simp only[XY]at e4;split at e4
   .rename_i hz;obtain rfl:=Q5 e4;exact .inl ⟨z,r3.str,by rw[YL];exact hz,k _ F3 H3 eZ<|.str _⟩
   .simp at e4|lst ds=>obtain rfl:=Q5 e4;obtain⟨p,xs,rfl,h,r⟩:=r3.lst s3;refine .inr<|.inl ⟨p,xs,rfl,SqL.of h,λq hq=>?_⟩;have g:=Gr.new s3 hq<|.lst<|VS xs l u;exact k _ _ _ (eZ.trans g)<|.lst Qu<|(MB r l u).mono g.ff|scr ns=>
   obtain rfl:=Q5 e4;obtain⟨p,rfl,h⟩:=r3.scr;refine .inr<|.inl ⟨p,_,rfl,s3.sqL h,λq hq=>?_⟩;have g:=Gr.new s3 hq<|.lst<|VS (ns.map V.int) l u;have r:Reps X.K F3 (VS (ns.map V.int) l u)<|Jt (ns.map D.int) l u:=MB (Reps.ints ns) l u;have hc:Jt (ns.map D.int) l u=(Jt ns l u).map D.int:=by unfold Jt;rw[Qr,<-map_drop,<-map_take]
   rw[hc]at r;exact k _ _ _ (eZ.trans g)<|.lst Qu<|r.mono g.ff|tup ds=>
   have e5:(if ZC ds.length 0 l=0/\ZC ds.length ds.length u=ds.length then none else some<|D.tup<|Jt ds l u)=some d:=e4;split at e5;.simp at e5
   .rename_i hw;obtain rfl:=Q5 e5;obtain⟨p,xs,rfl,h,r⟩:=r3.tup;refine .inr<|.inr ⟨p,xs,rfl,SqT.of<|s3 _ _ h,?_,λq hq=>?_⟩;.rw[r.length];exact hw
    .have g:=Gr.new s3 hq<|.tup<|VS xs l u;exact k _ _ _ (eZ.trans g)<|.tup Qu<|(MB r l u).mono g.ff|_=>cases e4
theorem FZ(c:Array Nat):∀(k:Nat)(acc:Array Nat),(List.replicate k c).foldl (·++·) acc=(acc.toList++(List.replicate k c.toList).flatten).toArray|0,acc=>by simp|k+1,acc=>by rw[X9,List.foldl_cons,FZ c k,X9,Uj];simp
def Qdi(x:Str)(n:Int):Txt.mul x n=Sr x n:=by
 unfold Txt.mul Sr;split;.rename_i h;rw[show n.toNat=0 by omega];rfl
 .split
  .rename_i h1 h2;by_cases z:n=1
   .subst z;obtain⟨c⟩:=x;simp
   .have hx:x.length=0:=by
     rcases or_eq_true _ _|>.mp h2 with w|w;.exact absurd (eq_of_beq w) z
     .exact eq_of_beq w
    obtain⟨c⟩:=x;have hc:c=#[]:=by simpa[Str.length]using hx
    subst hc;simp
  .rw[FZ];simp
def Lr:R2:=λx y H Q=>∃z n,x=.str z/\y=.int n/\-1073741824<n/\n<1073741824/\z.length*n.toNat<=Qz/\Q (.str<|Sr z n) H
def QeT:OpR X (binaryOp .Mult) Lr:=by
 intro aa s σ H x y v u Q I rx ry h;obtain⟨z,n,rfl,rfl,h1,h2,h3,q⟩:=h;obtain⟨t,rfl⟩:=show∃t,v=Value.str z t from rx;obtain⟨t2,rfl⟩:=show∃t,u=Value.int n t from ry;have ok:MulOk z n:=by
  refine⟨?_,λhn hc=>?_,λhn hc=>?_⟩;.rw[J0<|by omega,J0<|by omega];rfl
  .have hz:z.length<=Qz:=by
    have:1<=n.toNat:=by omega
    exact ZU (Nat.le_mul_of_pos_right _ this) h3
   have:(9223372036854775807:Int)/n≥8589934591:=by apply Int.le_ediv_of_mul_le (by omega);omega
   have e:(2:Int)^63-1=9223372036854775807:=by decide
   rw[e];unfold Qz at hz;omega
  .have h4:z.length*n.toNat<=sizeLine:=by rw[YL];exact h3
   unfold Builtin.Str.tooLong;simpa using h4
 exact SB.mul ok λt' k=>by rw[Qdi];exact⟨.str<|Sr z n,H,I.tok k,⟨t',rfl⟩,q⟩
def Y0:OpR X (binaryOp .Mult) (λx y H Q=>(rI CMul λi j=>.int<|i*j) x y H Q\/Lr x y H Q\/Ls x y H Q)/\Jr X (λx y H Q=>(rI CMul λi j=>.int<|i*j) x y H Q\/Lr x y H Q\/Ls x y H Q) D.mulA:=by
 refine⟨OpR.or Eu<|OpR.or QeT QeY,λF H x y dx dy d Q s rx ry e k=>?_⟩;cases dx<;>cases dy<;>try(simp[D.mulA]at e;done)
 case int.int i j=>exact .inl<|QeS.2 F H x y (.int i) (.int j) d Q s rx ry e k
 case str.int z n=>
  simp only[D.mulA]at e;split at e
  .rename_i h;obtain rfl:=Q5 e;exact .inr<|.inl ⟨z,n,rx.str,ry.int,h.1,h.2.1,h.2.2,k _ F H (.refl s)<|.str _⟩
  .simp at e
 case lst.int ds n=>
  simp only[D.mulA]at e;split at e
  .rename_i h;obtain rfl:=Q5 e;obtain⟨p,xs,rfl,hp,r⟩:=rx.lst s;refine .inr<|.inr ⟨p,n,xs,rfl,ry.int,hp,by omega,by omega,by rw[YL,r.length];exact h.2.2,λq hq=>?_⟩;have g:=Gr.new s hq<|.lst (List.replicate n.toNat xs).flatten;have rr:Reps X.K F (List.replicate n.toNat xs).flatten (List.replicate n.toNat ds).flatten:=by
    generalize n.toNat=m;induction m with
    |zero=>exact .nil|succ m ih=>rw[X9,X9,Uj,Uj];exact r.append ih
   exact k _ _ _ g<|.lst Qu<|rr.mono g.ff
  .simp at e
end
section
variable{X:Cx}{O:List Nat}{e a b:Expr}{pos:Pos}
def FX{K:Fg}{F H:Hp}{x:V}{d:D}(r:RdD K F H x d)(h:Zq d=true):Vy x=true/\Rep K F x d:=by cases d with|str z=>rw[r.str];exact⟨rfl,.str z⟩|_=>cases h
def QbA{K:Fg}{F:Hp}{x y:V}{dx dy:D}(rx:Rep K F x dx)(ry:Rep K F y dy)(hx:Zq dx=true)(hy:Zq dy=true):Ws y x=(D.eq dy dx==some true):=by cases rx with
 |str p=>cases ry with
  |str q=>
   rw[Xc];show(q==p)=(some (decide<|q=p)==some true);by_cases z:q=p;.rw[J2 z,z,beq_self_eq_true];rfl
   .rw[J0 z,beq_eq_false_iff_ne.mpr z];rfl|_=>cases hy
 |_=>cases hx
def Fi{K:Fg}{F:Hp}{x:V}{dx:D}(rx:Rep K F x dx)(hx:Zq dx=true){ys:List V}{ds:List D}(h:Reps K F ys ds)(hd:ds.all Zq=true):inV x ys=inD dx ds/\ys.all Vy=true:=by
 refine h.ind (M:=λys ds=>ds.all Zq=true->inV x ys=inD dx ds/\ys.all Vy=true) (λ_=>⟨rfl,rfl⟩) (λh r ih hd=>?_) hd;rw[VI,Ja]at hd;obtain⟨i1,i2⟩:=ih hd.2;refine⟨?_,?_⟩
 .unfold inV at i1⊢;rw[any_cons,i1,QbA rx h hx hd.1];rfl
 .rw[VI,i2,(FX (H:=F) (.inl h) hd.1).1];rfl
def Es{neg:Bool}{op:CmpOp}{g:D->D->Option D}(hr:OpR X (compareOp op)<|XD X.K neg)(h1:∀dx dy d,g dx dy=some d->∃ys,(dy=.tup ys\/dy=.lst ys)/\Zq dx=true/\ys.all Zq=true/\d=.bl (if neg then !inD dx ys else inD dx ys)):OpR X (compareOp op) (XD X.K neg)/\Jr X (XD X.K neg) g:=by
 refine⟨hr,λF H x y dx dy d Q s rx ry e k=>?_⟩;obtain⟨ys,hy,fx,fy,rfl⟩:=h1 dx dy d e;obtain⟨fv,rp⟩:=FX rx fx;rcases hy with rfl|rfl;.obtain⟨p,xs,rfl,hp,r⟩:=ry.tup;obtain⟨i1,i2⟩:=Fi rp fx r fy;refine⟨p,xs,rfl,.inr<|SqT.of<|s _ _ hp,fv,i2,?_⟩;rw[i1];exact k _ F H (.refl s)<|.bl _
 .obtain⟨p,xs,rfl,hp,r⟩:=ry.lst s;obtain⟨i1,i2⟩:=Fi rp fx r fy;refine⟨p,xs,rfl,.inl<|SqL.of hp,fv,i2,?_⟩;rw[i1];exact k _ F H (.refl s)<|.bl _
def La:OpR X (compareOp .In) (XD X.K false)/\Jr X (XD X.K false) D.inO:=Es QeN λdx dy d e=>by
 unfold D.inO at e;split at e
 .split at e;.rename_i ys h;obtain rfl:=Q5 e;exact⟨ys,.inl rfl,h.1,h.2,rfl⟩
  .simp at e
 .split at e;.rename_i ys h;obtain rfl:=Q5 e;exact⟨ys,.inr rfl,h.1,h.2,rfl⟩
  .simp at e
 .simp at e
def QeV:OpR X (compareOp .NotIn) (XD X.K true)/\Jr X (XD X.K true) D.notInO:=Es QeW λdx dy d e=>by
 unfold D.notInO at e;split at e
 .split at e;.rename_i ys h;obtain rfl:=Q5 e;exact⟨ys,.inl rfl,h.1,h.2,rfl⟩
  .simp at e
 .split at e;.rename_i ys h;obtain rfl:=Q5 e;exact⟨ys,.inr rfl,h.1,h.2,rfl⟩
  .simp at e
 .simp at e
def Qad{x:Str}{p:Pos}{ev:Q6}(hg:Gl X x)(hm:X.mg x=none)(hv:bootBuiltins x=some (.type "list"))(ha:PE X a<|tR X O ev)(hn:x≠"__name__":=by decide)(aY:XV x:=by decide)(he:starEach [a] X.env=[(false,eval a X.env)]:=by rfl):PE X (.Call (.Name x p) [a] [] pos)<|tO X O<|QD D.listOf ev:=PE.imp (D8 AY hg hm hv (Xq ha he) hn aY he rfl)<|by rintro σ H Q⟨F0,F,en,d,rs,w,k⟩;obtain⟨dx,e1,e2⟩:=Qg w;refine⟨F0,F,en,dx,rs,e1,λv F1 H1 g1 r1=>?_⟩;have fin:∀(l:Addr)(xs:List V)(ds:List D),SqL X.K H1 l xs\/SqT X.K H1 l xs->Reps X.K F1 xs ds->d=.lst ds->∃p ys,[V.ref l]=[.ref p]/\(SqL X.K H1 p ys\/SqT X.K H1 p ys)/\∀l,H1 l=none->Q (.ref l) (upd H1 l<|.lst ys):=λl xs ds hl r hd=>⟨l,xs,rfl,hl,λq hq=>k q none xs ds F1 _ (g1.trans<|Gr.newO g1.fh hq<|.lst xs) (g1.hh.none hq) (g1.fh.none hq) Qu r hd trivial⟩;cases dx with|lst ds=>obtain rfl:=Q5 e2;obtain⟨l,xs,rfl,h,r⟩:=r1.lst g1.fh;exact fin l xs ds (.inl<|SqL.of h) r rfl|tup ds=>obtain rfl:=Q5 e2;obtain⟨l,xs,rfl,h,r⟩:=r1.tup;exact fin l xs ds (.inr<|SqT.of<|g1.fh _ _ h) r rfl|scr ns=>obtain rfl:=Q5 e2;obtain⟨l,rfl,h⟩:=r1.scr;exact fin l _ _ (.inl<|g1.fh.sqL h) (Reps.ints ns) rfl|_=>cases e2
def Qhe{vs:List V}{us:List Value}(r:Vals vs us){i:Nat}{u:Value}(h:us[i]?=some u):∃v,vs[i]?=some v/\RelV v u:=by
 have hl:=r.length;rcases VJ i vs.length with hi|hi
 .obtain⟨u',h1,h2⟩:=r.get<|ZQ hi;rw[h]at h1;obtain rfl:=Q5 h1;exact⟨_,ZQ hi,h2⟩
 .rw[Ul<|by omega]at h;simp at h
def Qhi{aa:List<|Addr×Obj}{σ:L2.St}{H:Hp}{s:Shared}{l:Addr}{us:List Value}{A:Around}{E:Value->Shared->Prop}{Q:Value->Shared->Prop}(I:Inv X aa σ H s)(hh:A.handled=none)(hp:PlainL s.heap l us.toArray)(h:∀s₂:Shared,Walks X.prog X.w A s.heap.objs.size [s.heap.objs.size,l] [s.heap.objs.size] us.toArray.size (λi v=>us.toArray[i]?=some v) (λi h=>h.IsListIter s.heap.objs.size l i/\h.IsList l us.toArray)->s₂.heap.IsListIter s.heap.objs.size l 0/\s₂.heap.IsList l us.toArray->(∀b∈[s.heap.objs.size,l],b<s₂.heap.objs.size)->(∀(h':Heap)(tk:Nat),(∀b o,b∉[s.heap.objs.size]->s₂.heap.get? b=some o->h'.get? b=some o)->Inv X aa σ H {s₂ with heap:=h',toks:=tk})->Q (.ref s.heap.objs.size) s₂):wpAny (model X.prog X.w) A (pyIter<|.ref l) Q E s:=by
 have d7:l<s.heap.objs.size:=by obtain⟨_,_,e,_⟩:=hp;exact Heap.lt_size e
 refine wpAny_pyIter_list hp.isList<|h _ (Walks.list hh _ l (Z5 d7) us.toArray) ⟨⟨_,Heap.get?_push_size _ rfl,rfl,rfl⟩,hp.isList.push _⟩ (λb hb=>?_) λh' tk hk=>?_
 .show b<(s.heap.push _).objs.size;rw[Heap.size_push];rcases q_7.mp hb with rfl|hb;.exact Nat.lt_succ_self _
  .rw[q_1.mp hb];exact lt_succ_of_lt d7
 .exact I.kept (t':=tk) λb u e=>hk b u (λz=>by rw[q_1.mp z]at e;exact absurd (Heap.lt_size e)<|X6 _)<|Heap.get?_push_of_some _ e
def Rep.bI{K:Fg}{F:Hp}{v:V}{i:Bool}(h:Rep K F v<|.bl i):v=.bl i:=by cases h;rfl
def AR{K:Fg}{F:Hp}{vs:List V}{ds:List D}{bs:List Bool}(h:Reps K F vs ds)(e:V5 ds=some bs):vs=bs.map V.bl:=by
 refine h.ind (M:=λv d=>∀ns,V5 d=some ns->v=ns.map V.bl) (λns e=>by obtain rfl:=Q5 e;rfl) (λ{x d xs ds}h r ih ns e=>?_) bs e;cases d with
 |bl i=>
  simp only[V5]at e;cases q:V5 ds with|none=>rw[q]at e;simp at e|some ms=>rw[q]at e;obtain rfl:=Q5 e;rw[ih _ q,h.bI];rfl
 |_=>simp[V5]at e
end
noncomputable def YF(osc:Scope)(oN:List Str)(scope:Scope)(n:Nat)(N':List Str)(ao:List Nat):Bool:=scope.kind==.function&&scope.names.all (λy=>y.2 !=.cell)&&scope.names.all (λx=>x.2 !=.local||scope.names.lookup x.1==some .local)&&scope.names.all (λx=>x.2 !=.free||osc.names.lookup x.1==some .cell||osc.names.lookup x.1==some .free)&&N'.length==n+ao.length&&(List.range ao.length).all (λj=>match ao[j]?,N'[n+j]?with|some i,some x=>oN[i]?==some x&&scope.names.lookup x==some .free|_,_=>false)&&decide N'.Nodup
def Yg{X:Cx}{scope:Scope}{n:Nat}{N':List Str}{ao:List Nat}(h:YF X.env.scope X.N scope n N' ao=true):CompSc X scope n N' ao:=by
 unfold YF at h;simp only[Ja,decide_eq_true_eq,beq_iff_eq,q_24]at h;obtain⟨⟨⟨⟨⟨⟨h1,h2⟩,h3⟩,h4⟩,h5⟩,h6⟩,h7⟩:=h;refine⟨h1,λy hy z=>?_,λx hx z=>?_,λx hx z=>?_,h5,λj i hj=>?_,h7⟩;.have:=h2 y hy;rw[z]at this;simp at this
 .have:=h3 x hx;rw[z]at this;simpa using this
 .have:=h4 x hx;rw[z]at this;have q:List.lookup x.1 X.env.scope.names=some NameKind.cell\/List.lookup x.1 X.env.scope.names=some NameKind.free:=by simpa using this
  exact q
 .have hl:j<ao.length:=by
   rcases VJ j ao.length with w|w;.exact w
   .rw[Ul w]at hj;simp at hj
  have:=h6 j<|List.mem_range.mpr hl;rw[hj]at this;cases q:N'[n+j]?with|none=>rw[q]at this;simp at this|some x=>rw[q]at this;simp only[Ja,beq_iff_eq]at this;exact⟨x,rfl,this.1,this.2⟩
section
variable{es:List Expr}{env:Env}
def Qgh{a b c}:starEach (.Constant a b c::es) env=(false,eval (.Constant a b c) env)::starEach es env:=rfl
def Qgk{a b}:starEach (.Name a b::es) env=(false,eval (.Name a b) env)::starEach es env:=rfl
def Qgf{a b c d}:starEach (.BinOp a b c d::es) env=(false,eval (.BinOp a b c d) env)::starEach es env:=rfl
def Qgg{a b c d}:starEach (.Call a b c d::es) env=(false,eval (.Call a b c d) env)::starEach es env:=rfl
def Qgl{a b c}:starEach (.Subscript a b c::es) env=(false,eval (.Subscript a b c) env)::starEach es env:=rfl
def Qgi{a b}:starEach (.List a b::es) env=(false,eval (.List a b) env)::starEach es env:=rfl
def Qgj{a b c d}:starEach (.ListComp a b c d::es) env=(false,eval (.ListComp a b c d) env)::starEach es env:=rfl
end
section
variable{X:Cx}{O:List Nat}{es:List Expr}{l:ZK}{ea:Q6}
def Dk{a b c}(ha:PE X (.Constant a b c)<|tD X O ea)(hr:PA X es<|tL X O l):PA X (.Constant a b c::es)<|tL X O<|lC ea l:=UJ ha hr Qgh
def Gy{a b}(ha:PE X (.Name a b)<|tD X O ea)(hr:PA X es<|tL X O l):PA X (.Name a b::es)<|tL X O<|lC ea l:=UJ ha hr Qgk
def Db{a b c d}(ha:PE X (.BinOp a b c d)<|tD X O ea)(hr:PA X es<|tL X O l):PA X (.BinOp a b c d::es)<|tL X O<|lC ea l:=UJ ha hr Qgf
def Dl{a b c d}(ha:PE X (.Call a b c d)<|tD X O ea)(hr:PA X es<|tL X O l):PA X (.Call a b c d::es)<|tL X O<|lC ea l:=UJ ha hr Qgg
def Du{a b c}(ha:PE X (.Subscript a b c)<|tD X O ea)(hr:PA X es<|tL X O l):PA X (.Subscript a b c::es)<|tL X O<|lC ea l:=UJ ha hr Qgl
def XZ{a b}(ha:PE X (.List a b)<|tD X O ea)(hr:PA X es<|tL X O l):PA X (.List a b::es)<|tL X O<|lC ea l:=UJ ha hr Qgi
def Qa5{a b c d}(ha:PE X (.ListComp a b c d)<|tD X O ea)(hr:PA X es<|tL X O l):PA X (.ListComp a b c d::es)<|tL X O<|lC ea l:=UJ ha hr Qgj
end
end Wd
namespace Wd
def Vf{n:Nat}{l:ZK}(h:∀(e:Q8)(d:List D),l e=some d->d.length<=n)(hn:n<=Qz):∀(e:Q8)(d:List D),l e=some d->d.length<=Qz:=λe d w=>ZU (h e d w) hn
def ZA:∀(e:Q8)(d:List D),lN e=some d->d.length<=Qz:=Vf (n:=0) Ve<|by decide
def YB{p:Q6}:∀(e:Q8)(d:List D),(lC p lN) e=some d->d.length<=Qz:=Vf (n:=1) (Qj Ve)<|by decide
def YX{p q:Q6}:∀(e:Q8)(d:List D),(lC p<|lC q lN) e=some d->d.length<=Qz:=Vf (n:=2) (Qj<|Qj Ve)<|by decide
def YY{p q r:Q6}:∀(e:Q8)(d:List D),(lC p<|lC q<|lC r lN) e=some d->d.length<=Qz:=Vf (n:=3) (Qj<|Qj<|Qj Ve)<|by decide
def Vg{p q r t:Q6}:∀(e:Q8)(d:List D),(lC p<|lC q<|lC r<|lC t lN) e=some d->d.length<=Qz:=Vf (n:=4) (Qj<|Qj<|Qj<|Qj Ve)<|by decide
def lz5{p q r t u:Q6}:∀(e:Q8)(d:List D),(lC p<|lC q<|lC r<|lC t<|lC u lN) e=some d->d.length<=Qz:=Vf (n:=5) (Qj<|Qj<|Qj<|Qj<|Qj Ve)<|by decide
def O5{p q r t u v:Q6}:∀(e:Q8)(d:List D),(lC p<|lC q<|lC r<|lC t<|lC u<|lC v lN) e=some d->d.length<=Qz:=Vf (n:=6) (Qj<|Qj<|Qj<|Qj<|Qj<|Qj Ve)<|by decide
open PySem PySem.Spec PyProof.Rows L2
def Qbo{X:Cx}{O OL:List Nat}{w:Bool}{e:Expr}{pos:Pos}{i:Nat}{x:Str}{p:Pos}{ev:Q6}(hN:X.N.Nodup)(he:PE X e<|tD X O ev)(hi:X.N[i]?=some x)(hx:WN X.env.scope x)(hs:swapsWith e (some<|.Name x p) pos.line X.env=pure false)(hf:WP X x)(hq:J1 i∉O):PS X (.Assign [.Name x p] e pos)<|tS X O (dl i O) OL w<|QO ev<|gS i:=Qi i hN he hi hx hs hf hq
end Wd
namespace Wd
open PySem PySem.Spec PyProof.Rows L2
def Reps.snoc{K:Fg}{F:Hp}{xs:List V}{ds:List D}{v:V}{d:D}(r:Reps K F xs ds)(h:Rep K F v d):Reps K F (xs++[v])<|ds++[d]:=r.append<|.cons h .nil
noncomputable def er(H:Hp)(p:Addr):Hp:=λa=>if a=p then none else H a
def Ma{H:Hp}{p a:Addr}(h:a≠p):er H p a=H a:=if_neg h
theorem Sm.er{F H:Hp}(s:Sm F H){p:Addr}(h:F p=Option.none):Sm F<|er H p:=λa o e=>by
 have:a≠p:=λz=>by rw[z,h]at e;simp at e
 rw[Ma this];exact s a o e
def RS.call{K:Fg}{H₀:Hp}{F0:Fz}{F H F' H':Hp}{σ:L2.St}{en:Q8}{O:List Nat}{i:Nat}{p:Addr}{d0:D}{kk:Option<|List Kd}{xs:List V}{es:List D}(r:RS K H₀ F0 F H σ en O)(hi:i∈O)(he:en[i]?=some (some d0))(hσ:σ[i]?=some (some<|.ref p))(h0:F0.h p=none)(g:Gr F (er H p) F' H')(hf:F' p=none)(hp:H' p=some (ho kk xs))(hk:VP kk xs)(re:Reps K F' xs es):RS K H₀ F0 F' H' σ (en.set i<|some<|YR kk es) O:=have hl:i<en.length:=by cases VJ i en.length with|inl h=>exact h|inr h=>rw[Ul h]at he;simp at he
 {
 fh:=g.fh
 hh:=(r.hh.er h0).trans g.hh
 ff:=r.ff.trans g.ff
 fr:=λa o e=>by
  rcases g.fr a o e with z|z;.exact r.fr a o z
  .by_cases q:a=p;.rw[q,hf]at e;simp at e
   .rw[Ma q]at z;exact .inr<|r.hh.none z
 slot:=λj d' e1 hj=>by
  have z:i≠j:=λz=>hj<|z▸hi;rw[ZD hl,if_neg z]at e1;obtain⟨v,h1,h2⟩:=r.slot j d' e1 hj;exact⟨v,h1,h2.mono g.ff⟩
 own:=λj d' e1 hj=>by
  rw[ZD hl]at e1;split at e1;.rename_i z;cases e1;subst z;exact⟨p,kk,xs,es,hσ,h0,hf,hp,re,rfl,hk⟩
  .rename_i z;obtain⟨q,k2,ys,nY,h1,h2,h3,h4,h5,h6,h7⟩:=r.own j d' e1 hj;have qp:q≠p:=λw:q=p=>z<|r.dis i j p _ _ hi hj he e1 hσ (by rw[<-w];exact h1);have e4:er H p q=some (ho k2 ys):=by rw[Ma qp];exact h4
   refine⟨q,k2,ys,nY,h1,h2,?_,g.hh _ _ e4,h5.mono g.ff,h6,h7⟩;cases w:F' q with|none=>rfl|some o=>
    rcases g.fr q o w with z2|z2;.rw[h3]at z2;simp at z2
    .rw[e4]at z2;simp at z2
 dis:=λj k q d1 d2 hj gG f1 f2 g1 g2=>by
  rw[ZD hl]at f1 f2;have k1:∃d,en[j]?=some (some d):=by
   split at f1;.rename_i z;subst z;exact⟨_,he⟩
   .exact⟨_,f1⟩
  have k2:∃d,en[k]?=some (some d):=by
   split at f2;.rename_i z;subst z;exact⟨_,he⟩
   .exact⟨_,f2⟩
  obtain⟨_,k1⟩:=k1;obtain⟨_,k2⟩:=k2;exact r.dis j k q _ _ hj gG k1 k2 g1 g2
 pin:=r.pin
 len:=by rw[Z2];exact r.len}
structure Passed(s₀:Heap)(H:Hp)(fs ch:List Addr)(ea:Addr)(h h':Heap):Prop where
 keep:∀b o,h.get? b=some o->b∉fs->b≠ea->b∉ch->h'.get? b=some o
 slot:∀b o,h.get? b=some o->b∈fs->∃sl,h'.get? b=some {o with slots:=sl}ex:∀oe vs,h.get? ea=some oe->oe.data=.fields vs->∃bZ,h'.get? ea=some {oe with data:=.fields bZ}/\bZ.size=vs.size/\bZ[0]?=vs[0]?ch0:∀T∈ch,s₀.objs.size<=T/\H T=none/\∃o ts,h.get? T=some o/\o.data=.fields ts
 cht:∀T∈ch,∃o,h'.get? T=some o
 fly:Fly s₀ H ea h'
section
variable{M:Model}{A:Around}{E:Value->Shared->Prop}{s:Shared}
def EN{oe:Obj}{vs:Array Value}(hd:oe.data=.fields vs)(f:Array Value->Array Value):Obj.mapFields f oe={oe with data:=.fields<|f vs}:=by obtain⟨c,d,dt,sl⟩:=oe;dsimp only at hd;subst hd;rfl
def Ot{ae:Heap}{env:Env}{af:List Env}{L ea:Addr}{oe:Obj}{vs:Array Value}{head:Value}{eR:Bool}{s₀:Heap}{H:Hp}{Q:Unit->Shared->Prop}(dQ:A.frames=some (env::af))(hl:s.heap.FunFrames ae<|env::af)(hf:env.frame=some L)(he:s.heap.get? ea=some oe)(hd:oe.data=.fields vs)(cW:vs.size=6)(h0:s₀.objs.size<=ea)(hs:s₀.objs.size<=s.heap.objs.size)(hH:∀a,s.heap.objs.size<=a->H a=none)(h:∀h',Passed s₀ H (ZG<|env::af) [] ea s.heap h'->Q () {s with heap:=h'}):wpAny M A (do let a<-frameOf env;let pl<-entryPlaceOf L eR;let b<-EntryCells.newEntry head a .none (rawInt L) .none pl;setField (.ref ea) 1 b) (λ_ s'=>wpAny M A (setFlight (.ref ea) none) Q E s') E s:=by
 have g9:ea∉(env::af).filterMap (·.frame):=λhm=>by
  obtain⟨_,o,ho,cP⟩:=hl.mem hm;rw[he]at ho;injection ho with ho;subst ho;exact cP vs hd
 have h1:1<vs.size:=by omega
 refine wpAny_bind<|wpAny_frameOf_fun dQ hl hf λh₁ di=>?_;refine wpAny_bind<|wpAny_entryPlaceOf λpl aQ=>?_;unfold EntryCells.newEntry newFields;refine wpAny_bind<|wpAny_newObj_type ?_<|aQ.sizeOk5 _ _ _ _ _;have ft:h₁.get? ea=some oe:=(di.2.1 ea g9).trans he;have fm:=Heap.get?_push_of_some (h:=h₁) {cls:=.type "traceback",dict:=none,data:=.fields ([head,.ref L,.none,rawInt L,.none]++if pl.isEmpty then List.replicate 6 Value.none else pl).toArray} ft;refine wpAny_setField fm hd h1 ?_;have eJ:h₁.objs.size≠ea:=ne_of_gt<|Heap.lt_size ft;have fA:=Obj.data_mapFields hd (·.setIfInBounds 1<|Value.ref h₁.objs.size);have fk:=Heap.get?_update_self (Obj.mapFields (·.setIfInBounds 1<|Value.ref h₁.objs.size)) fm<|Obj.isFreed_of_fields fA;have fB:=(Heap.get?_update_other (h₁.push {cls:=.type "traceback",dict:=none,data:=.fields ([head,.ref L,.none,rawInt L,.none]++if pl.isEmpty then List.replicate 6 Value.none else pl).toArray}) (Obj.mapFields (·.setIfInBounds 1<|Value.ref h₁.objs.size))<|Ne.symm eJ).trans<|Heap.get?_push_size h₁ rfl;unfold setFlight;refine wpAny_bind<|wpAny_field fk fA (x:=.ref h₁.objs.size) (by simp[h1]) ?_;rw[if_pos<|show(Value.ref h₁.objs.size !=Value.none)=true from by simp];refine wpAny_setField fB rfl (by simp only[Jh,JZ,Jb,length_nil]<;>omega)<|h _ ?_;have keep:∀b o,b≠ea->h₁.get? b=some o->(((h₁.push {cls:=.type "traceback",dict:=none,data:=.fields ([head,.ref L,.none,rawInt L,.none]++if pl.isEmpty then List.replicate 6 Value.none else pl).toArray}).update ea (Obj.mapFields (·.setIfInBounds 1<|Value.ref h₁.objs.size))).update h₁.objs.size (Obj.mapFields (·.setIfInBounds 3<|(none:Option Addr).elim Value.none λf=>rawInt f))).get? b=some o:=λb o cO hb=>by have nJ:h₁.objs.size≠b:=ne_of_gt<|Heap.lt_size hb;rw[Heap.get?_update_other _ _ nJ,Heap.get?_update_other _ _<|Ne.symm cO];exact Heap.get?_push_of_some _ hb
 have kM:=(Heap.get?_update_other ((h₁.push {cls:=.type "traceback",dict:=none,data:=.fields ([head,.ref L,.none,rawInt L,.none]++if pl.isEmpty then List.replicate 6 Value.none else pl).toArray}).update ea (Obj.mapFields (·.setIfInBounds 1<|Value.ref h₁.objs.size))) (Obj.mapFields (·.setIfInBounds 3<|(none:Option Addr).elim Value.none λf=>rawInt f)) eJ).trans fk;have gM:=Heap.get?_update_self (Obj.mapFields (·.setIfInBounds 3<|(none:Option Addr).elim Value.none λf=>rawInt f)) fB<|Obj.isFreed_of_fields<|Obj.data_mapFields rfl _;have oG:s.heap.objs.size=h₁.objs.size:=di.1.symm;refine⟨λb o hb cZ cO _=>keep b o cO<|(di.2.1 b cZ).trans hb,λb o hb cZ=>?_,λiu bZ eX cY=>?_,(λT hT=>nomatch hT),(λT hT=>nomatch hT),⟨h0,_,_,kM,Obj.data_mapFields hd _,by simp[cW],.inr ⟨h₁.objs.size,_,_,by simp[h1],by omega,hH _<|by omega,eJ,gM,Obj.data_mapFields rfl _,?_⟩⟩⟩;.obtain⟨sl,e⟩:=di.2.2 b o hb;exact⟨sl,keep b _ (λz=>g9<|z▸cZ) e⟩
 .rw[he]at eX;obtain rfl:=Q5 eX;rw[hd]at cY;cases cY;refine⟨vs.setIfInBounds 1<|.ref h₁.objs.size,?_,by simp,by rw[Array.getElem?_setIfInBounds_ne<|by decide]⟩;rw[kM,EN hd]
 .first|(simp;done)|(rcases aQ with rfl|⟨_,_,_,_,_,_,_,rfl⟩<;>simp)
def Qe8{ae:Heap}{env:Env}{af:List Env}{L ea:Addr}{s₀:Heap}{H:Hp}{Q:Unit->Shared->Prop}(dQ:A.frames=some (env::af))(hl:s.heap.FunFrames ae<|env::af)(hf:env.frame=some L)(hs:s₀.objs.size<=s.heap.objs.size)(hH:∀a,s.heap.objs.size<=a->H a=none)(fly:Fly s₀ H ea s.heap)(h:∀h' ch,Passed s₀ H (ZG<|env::af) ch ea s.heap h'->Q () {s with heap:=h'}):wpAny M A (noteFrame (.ref ea) env) (λ_ s'=>wpAny M A (setFlight (.ref ea) none) Q E s') E s:=by
 obtain⟨h0,oe,vs,he,hd,cW,h1|⟨T,oT,ts,h1,jw,jx,eJ,hT,dI,h3⟩⟩:=fly
 .unfold noteFrame;simp only[hf];refine wpAny_bind<|wpAny_field he hd h1 ?_;rw[if_neg<|by decide];exact Ot dQ hl hf he hd cW h0 hs hH λh' p=>h h' [] p
 .unfold noteFrame;simp only[hf];refine wpAny_bind<|wpAny_field he hd h1 ?_;rw[if_pos<|show(Value.ref T !=Value.none)=true from by simp];refine wpAny_bind<|wpAny_field hT dI h3 ?_;rw[if_neg<|show¬(Value.none==rawInt L)=true from by simp[rawInt]];refine wpAny_bind<|wpAny_setField hT dI (q_71.mp h3).1 ?_;have other:∀b,b≠T->(s.heap.update T (Obj.mapFields (·.setIfInBounds 3 Value.none))).get? b=s.heap.get? b:=λb hb=>Heap.get?_update_other _ _<|Ne.symm hb;have gM:=Heap.get?_update_self (Obj.mapFields (·.setIfInBounds 3 Value.none)) hT<|Obj.isFreed_of_fields<|Obj.data_mapFields dI _;have kC:∀b o,s.heap.get? b=some o->(∀vs,o.data≠.fields vs)->b≠T:=λb o hb cP q=>by rw[q,hT]at hb;injection hb with hb;subst hb;exact cP ts dI
  have eO:(s.heap.update T (Obj.mapFields (·.setIfInBounds 3 Value.none))).objs.size=s.heap.objs.size:=Heap.size_update ..;have kD:∀b∈ZG<|env::af,b≠T:=λb hb=>by
   obtain⟨_,o,ho,cP⟩:=hl.mem hb;exact kC b o ho cP
  refine Ot (ae:=ae) dQ (hl.of_keeps λb o hb cP=>⟨o,(other b<|kC b o hb cP).trans hb,rfl⟩) hf ((other ea<|Ne.symm eJ).trans he) hd cW h0 (by show s₀.objs.size<=(s.heap.update T _).objs.size;rw[eO];exact hs) (λa ha=>hH a (by have:(s.heap.update T (Obj.mapFields (·.setIfInBounds 3 Value.none))).objs.size<=a:=ha;rw[eO]at this;exact this)) λh' p=>h h' [T] ?_;refine⟨λb o hb cZ cO hc=>p.keep b o ((other b λz=>hc<|by simp[z]).trans hb) cZ cO<|by simp,λb o hb cZ=>p.slot b o ((other b<|kD b cZ).trans hb) cZ,λiu bZ eX cY=>p.ex iu bZ ((other ea<|Ne.symm eJ).trans eX) cY,λT' gN=>?_,λT' gN=>?_,p.fly⟩;.rw[q_1]at gN;subst gN;exact⟨jw,jx,oT,ts,hT,dI⟩
  .rw[q_1]at gN;subst gN;exact⟨_,p.keep T' _ gM (λz=>kD T' z rfl) eJ<|by simp⟩
def Qc1{ae:Heap}{env:Env}{af:List Env}{L ea:Addr}{s₀:Heap}{H:Hp}{Q:Unit->Shared->Prop}(dQ:A.frames=some (env::af))(hl:s.heap.FunFrames ae<|env::af)(hf:env.frame=some L)(hs:s₀.objs.size<=s.heap.objs.size)(hH:∀a,s.heap.objs.size<=a->H a=none)(fly:Fly s₀ H ea s.heap)(h:∀h' ch,Passed s₀ H (ZG<|env::af) ch ea s.heap h'->Q () {s with heap:=h'}):wpAny M A (leaving env<|.ref ea) Q E s:=by unfold leaving;exact wpAny_bind<|Qe8 dQ hl hf hs hH fly h
end
def Rr(P:Program)(w:World):YO:=λaf H s E e s'=>∃ea H',e=.ref ea/\s'.os=s.os/\AllBare s'.gens/\Un (ZG af) [] H H' s.heap s'.heap/\HOk P w H' s'.heap/\Fly s.heap H' ea s'.heap/\E (.ref ea) none H'
def NU(P:Program)(w:World)(K:Fg)(mg:Str->Option Value)(ae:Heap)(k:Nat)(x:Str)(ps:List Str)(sp:Sp):Prop:=∃f fd,FnOk P w K mg ae (Rr P w) k f fd ps sp/\Binds K fd ps []/\W.keepIn K (.ref f)=true/\mg x=some (.ref f)
noncomputable def N8(K:Fg)(f:List D->Option Rs):Sp:=λvs H Q E=>∃F ds r,Sm F H/\Reps K F vs ds/\f ds=some r/\match r with|.inl d=>∀v F' H',Gr F H F' H'->Rep K F' v d->Q v H'|.inr (c,n)=>∀ea F' H',Gr F H F' H'->Rep K F' (.ref ea) (.exc c n)->E (.ref ea) none H'
def Rep.exF{K:Fg}{F:Hp}{ea:Addr}{c:Nat}{n:D}(r:Rep K F (.ref ea)<|.exc c n):∃C dx,F ea=some (.ext<|Vq ea C dx):=by cases r with|exc0 h=>exact⟨_,_,h⟩|exc h hx=>exact⟨_,_,h⟩
def Fly.mono{s₀ s₁:Heap}{H:Hp}{ea:Addr}{h:Heap}(f:Fly s₁ H ea h)(le:s₀.objs.size<=s₁.objs.size):Fly s₀ H ea h:=by
 obtain⟨a,oe,vs,b,c,d,e|⟨T,oT,ts,e1,e2,e3⟩⟩:=f;.exact⟨by omega,oe,vs,b,c,d,.inl e⟩
 .exact⟨by omega,oe,vs,b,c,d,.inr ⟨T,oT,ts,e1,by omega,e3⟩⟩
theorem Passed.hok{X:Cx}{aa:List<|Addr×Obj}{σ:L2.St}{H F:Hp}{s:Shared}{s₀:Heap}{ch:List Addr}{ea:Addr}{h':Heap}{c:Nat}{n:D}(I:Inv X aa σ H s)(sm:Sm F H)(r:Rep X.K F (.ref ea)<|.exc c n)(p:Passed s₀ H (ZG X.stack) ch ea s.heap h'):HOk X.prog X.w H h':=λa o e=>by
 obtain⟨C,dx,hF⟩:=r.exF;have hE:=sm _ _ hF;by_cases z:a=ea
 .subst z;rw[hE]at e;obtain rfl:=Q5 e;obtain⟨⟨vs,t,h1,h2,h3⟩,_,st⟩:=show ObjOk X.prog X.w H s.heap a<|.ext<|Vq a C dx from I.hok a _ hE;obtain⟨bZ,g1,g2,g3⟩:=p.ex _ vs h1 rfl;exact⟨⟨bZ,t,g1,by omega,by rw[g3];exact h3⟩,⟨_,g1⟩,st⟩
 .refine(I.hok a o e).stay (λb u hb q=>?_) (λb q=>q) λb xs q=>q;have hH:∃o,H b=some o/\b≠ea:=by
   rcases hb with rfl|hb;.exact⟨o,e,z⟩
   .exact⟨_,hb,λw=>by rw[w,hE]at hb;simp at hb⟩
  obtain⟨o',hH,iG⟩:=hH;refine p.keep b u q (λw=>?_) iG λw=>?_;.rw[I.stkFree b w]at hH;simp at hH
  .rw[(p.ch0 b w).2.1]at hH;simp at hH
section
variable{P:Program}{w:World}{K:Fg}{mg:Str->Option Value}{ae:Heap}{x:Str}{st:Stmt}{N ps:List Str}{k:Nat}{b:QJ}
def Fun.okX{CX:YO}{qual:Str}{f:Addr}{fd:FuncData}{sp:Sp}(F:Fun K x qual st f fd)(S:FnScope N ps<|QN st)(len:∀vs H Q E,sp vs H Q E->vs.length=ps.length)(bH:∀(ah:Value)(A:Around)(af:List Env)(s:Shared)(H:Hp)(vs:List V)(Q:VK)(E:XK),Room k (A.deeper<|envOfC qual (QN st) s.heap.objs.size f ah)->sp vs H Q E->∃t,PSs (JK CX P w K mg ae N qual (QN st) f ah A af s H E) (Ju st) t/\t {nx:=λ_ H'=>Q .non H',rt:=Q} (ZV N vs) H):FnOk P w K mg ae CX (k+1) f fd ps sp:=by obtain⟨oc,od,kV,doc,pm,an,ah,ct,osl,rfl,lk,bE⟩:=F.ex;exact FY lk bE S len λA af s H vs Q E hr cX=>bH ah A af s H vs Q E hr cX
def QhB{f:Addr}{ah:Value}{A:Around}{af:List Env}{s:Shared}{H:Hp}{E:XK}{scope:Scope}{F0:Fz}{c:Nat}{n:D}(hk:∀ea F' H',Gr F0.f F0.h F' H'->Rep K F' (.ref ea) (.exc c n)->E (.ref ea) none H'):XW (JK (Rr P w) P w K mg ae N x scope f ah A af s H E) F0 c n:=by
 intro aa σ F H' s' ea I ex r fly;have B:Un (ZG af) [] H H' s.heap s'.heap:=I.ae;refine Qc1 (ae:=ae) (af:=af) (L:=s.heap.objs.size) (s₀:=s.heap) (H:=H') I.ok.frames I.stack rfl I.sz (λa ha=>I.hok.fresh ha) fly λh' ch p=>⟨ea,H',rfl,I.os,I.bare,?_,p.hok I ex.fh r,p.fly,hk ea F H' ex.gr r⟩;have lt:∀b o,s.heap.get? b=some o->b≠ea/\b∉ch/\b≠s.heap.objs.size:=λb o q=>by
  have h1:=Heap.lt_size q;refine⟨λz=>?_,λz=>?_,Z5 h1⟩;.exact absurd (ZW h1<|show s.heap.objs.size<=b by rw[z];exact fly.1)<|X6 _
  .exact absurd (ZW h1 (p.ch0 b z).1)<|X6 _
 have nf:∀b o,s.heap.get? b=some o->b∉ZG af->b∉ZG (envOfC x scope s.heap.objs.size f ah::af):=λb o q hb z=>by
  rcases q_7.mp<|show b∈s.heap.objs.size::ZG af from z with z|z;.exact(lt b o q).2.2 z
  .exact hb z
 have fo:∀b,b∈ZG af->b∈ZG (envOfC x scope s.heap.objs.size f ah::af):=λb hb=>Qy s.heap.objs.size hb;refine⟨λb o q hn hb hx=>p.keep b o (B.keep b o q hn hb hx) (nf b o q hb) (lt b o q).1 (lt b o q).2.1,λb o q hn hb hx=>?_,B.free,λb o q hx=>?_,B.tups,B.frzs,B.tbls⟩
 .obtain⟨sl,e1⟩:=B.slot b o q hn hb hx;obtain⟨fF,e2⟩:=p.slot b _ e1<|fo b hb;exact⟨fF,e2⟩
 .obtain⟨o',e1⟩:=B.there b o q hx;by_cases hb:b∈ZG af
  .obtain⟨sl,e2⟩:=p.slot b _ e1<|fo b hb;exact⟨_,e2⟩
  .exact⟨o',p.keep b o' e1 (nf b o q hb) (lt b o q).1 (lt b o q).2.1⟩
def QdC(h:Df K mg x st ps)(S:FnScope N ps<|QN st){O' OL:List Nat}(hb:∀(f:Addr)(ah:Value)(A:Around)(af:List Env)(s:Shared)(H:Hp)(E:XK),Room k (A.deeper<|envOfC x (QN st) s.heap.objs.size f ah)->PSs (JK (Rr P w) P w K mg ae N x (QN st) f ah A af s H E) (Ju st) (tS (JK (Rr P w) P w K mg ae N x (QN st) f ah A af s H E) [] O' OL false b)):NU P w K mg ae (k+1) x ps<|N8 K<|UL N.length ps.length b:=by
 obtain⟨f,fd,F,cz,hm⟩:=h;have len:∀{vs:List V}{ds:List D}{Fz:Hp}{r:Rs},Reps K Fz vs ds->UL N.length ps.length b ds=some r->vs.length=ps.length:=λr e=>by
  unfold UL at e;split at e;.rename_i z;rw[r.length];exact z
  .simp at e
 refine⟨f,fd,Fun.okX F S (by rintro vs H Q E⟨F,ds,d,s,r,e,_⟩;exact len r e) λah A af s H vs Q E hr z=>?_,cz,F.kp,hm⟩;obtain⟨Fz,ds,d,sm,r,e,k⟩:=z;refine⟨_,hb f ah A af s H E hr,?_⟩;unfold UL at e;split at e;.cases q:b<|Jq N.length ds with
  |none=>rw[q]at e;simp at e|some fl=>
   rw[q]at e;have bG:ZV N vs=vs.map some++List.replicate (N.length-vs.length) none:=rfl;rw[bG];refine⟨⟨Fz,H,np⟩,Fz,Jq N.length ds,fl,Oy N.length sm r,q,?_⟩;cases fl with
   |nx en=>obtain rfl:=Q5 e;exact λσ' F' H' s' rs=>k .non F' H' rs.ex.gr .non|rt d'=>obtain rfl:=Q5 e;exact λv F' H' x r=>k v F' H' x.gr r|rz c d'=>obtain rfl:=Q5 e;exact QhB k|rm d' z'=>simp at e|bk en=>simp at e|ct en=>simp at e
 .simp at e
end
noncomputable def EX(X:Cx):XK:=λv _ H'=>∀(ea:Addr)(aa:List<|Addr×Obj)(σ:L2.St)(s':Shared),v=.ref ea->Inv X aa σ H' s'->Fly X.s₀.heap H' ea s'.heap->X.xe v s'
section
variable{X:Cx}{O OL:List Nat}{w:Bool}{e a:Expr}{es:List Expr}{p pos ax:Pos}{x y:Str}{ps:List Str}{k:Nat}
def FlOk.ex{O':List Nat}{F0:Fz}{F H:Hp}{Dn:Ends}{c:Nat}{n:D}(k:FlOk X O' OL w F0 F Dn<|.rz c n)(x:Ex X.H₀ F0 F H){ea:Addr}(r:Rep X.K F (.ref ea)<|.exc c n):EX X (.ref ea) none H:=λlj aa σ s' e I fly=>by cases e;exact k aa σ F H s' ea I x r fly
end
end Wd
namespace PySem
open Sem(wp)
structure MadeX(h h':Heap)(C:Addr):Prop where
 keeps:∀b o,h.get? b=some o->h'.get? b=some o
 ex:∃vs t,h'.get? (h.objs.size+1)=some {cls:=.ref C,data:=.fields vs}/\vs.size=6/\vs[0]?=some (.ref t)/\vs[1]?=some .none
section
variable{prog:Program}{w:World}{A:Around}{E:Value->Shared->Prop}{h:Heap}{g:Array GenState}{d:Drawn}{t:Nat}{os:OsState}
variable{nm q:Str}{C N:Addr}{bs bm bmB:List Value}{hdct:Bool}{sn:List Str}{sub:List Value}{ab:Bool}{col:Option Bool}{dd:Option Addr}{k0 k1 k2 k3 k5:Option Value}{B newId cu:String}
def Qhw(F:ExcBaseFacts B newId cu bmB)(T:OwnTail h bmB bm){mN:Str->Option Value}{rest:List Value}{fI:Addr}{oI:Obj}{Q:Fin->Shared->Prop}(hC:h.get? C=some (excClassObj nm q C N bs bm hdct sn sub ab col dd k0 k1 k2 k3 k5 newId))(hn:h.Ns N mN)(hi:mN "__init__"=some (.ref fI))(jq:h.get? fI=some oI)(jo:oI.cls=.type "function")(hq:∀h',MadeX h h' C->wpAny (model prog w) A (call (.ref fI)<|.ref (h.objs.size+1)::rest) (λr s'=>r=.none/\Q (.done<|.ret<|.ref<|h.objs.size+1) s') E ⟨h',g,d,t,os⟩)(hrest:rest.length<=sizeLine):wpAny (model prog w) A (Builtin.«type.__call__» ⟨.ref C::rest,[]⟩) Q E ⟨h,g,d,t,os⟩:=by
 repeat(first|with_reducible refine wpAny_loadPart_at hC ?_|with_reducible refine wpAny_madeBy_exc hC ?_|wp_step)
 refine codeAny_call_builtin_code (Code.quiet_builtin _ F.quiet)<|wpAny_check_new_subT F T hC ?_;refine codeAny_exc_new_subT F T hC ?_ hrest;show wpAny _ _ _ _ _ _;have fD:=Heap.get?_push_of_some {cls:=.ref C,data:=.fields #[.ref h.objs.size,.none,.none,.none,.bool false,.none]}<|Heap.get?_push_of_some {cls:=.type "tuple",data:=.seq rest.toArray} hC;have gd:=Heap.get?_push_of_some {cls:=.ref C,data:=.fields #[.ref h.objs.size,.none,.none,.none,.bool false,.none]}<|Heap.get?_push_of_some {cls:=.type "tuple",data:=.seq rest.toArray} jq;have hW:((h.push {cls:=.type "tuple",data:=.seq rest.toArray}).push {cls:=.ref C,data:=.fields #[.ref h.objs.size,.none,.none,.none,.bool false,.none]}).Ns N mN:=let⟨o,es,ep,e,r⟩:=hn;⟨o,es,ep,Heap.get?_push_of_some _<|Heap.get?_push_of_some _ e,r⟩;have T₁:=T.keeps (h':=(h.push {cls:=.type "tuple",data:=.seq rest.toArray}).push {cls:=.ref C,data:=.fields #[.ref h.objs.size,.none,.none,.none,.bool false,.none]}) λb o e=>Heap.get?_push_of_some _<|Heap.get?_push_of_some _ e;have gZ:((h.push {cls:=.type "tuple",data:=.seq rest.toArray}).push {cls:=.ref C,data:=.fields #[.ref h.objs.size,.none,.none,.none,.bool false,.none]}).get? (h.objs.size+1)=some {cls:=.ref C,data:=.fields #[.ref h.objs.size,.none,.none,.none,.bool false,.none]}:=by heap_get
 have jt:(Value.ref C::bm).contains (.ref C)=true:=by simp
 unfold isInstance;repeat(first|with_reducible refine wpAny_loadPart_at gZ ?_|(with_reducible refine wpAny_isSubtype_exc fD ?_;rw[jt])|wp_step)
 show wpAny _ _ (typeLookup (.ref C) _) _ _ _;refine wpAny_typeLookup_tail fD hW T₁ F.mroIs F.init.lookup ?_;rw[hi];refine wpAny_holding<|wpAny_bind ?_;unfold bindSpecial;refine wpAny_bind<|wpAny_typeOf (T:="function") ⟨_,gd,jo⟩ ?_;rw[if_pos<|by decide];refine wpAny_pure<|wpAny_bind<|wpAny_mono (hq _ ⟨λb o hb=>Heap.get?_push_of_some _<|Heap.get?_push_of_some _ hb,_,_,gZ,rfl,rfl,rfl⟩) (λr s' hr=>?_) λ_ _ x=>x;obtain⟨rfl,hQ⟩:=hr;wp_walk;exact hQ
def Qhm(F:ExcBaseFacts B newId cu bmB)(T:OwnTail h bmB bm){mN:Str->Option Value}{rest:List Value}{fI:Addr}{oI:Obj}{Q:Value->Shared->Prop}(hC:h.get? C=some (excClassObj nm q C N bs bm hdct sn sub ab col dd k0 k1 k2 k3 k5 newId))(hn:h.Ns N mN)(hi:mN "__init__"=some (.ref fI))(jq:h.get? fI=some oI)(jo:oI.cls=.type "function")(hq:∀h',MadeX h h' C->wpAny (model prog w) (A.under<|.builtin "type.__call__" ⟨.ref C::rest,[]⟩) (call (.ref fI)<|.ref (h.objs.size+1)::rest) (λr s'=>r=.none/\Q (.ref<|h.objs.size+1) s') E ⟨h',g,d,t,os⟩)(hrest:rest.length<=sizeLine):wpAny (model prog w) A (call (.ref C) rest) Q E ⟨h,g,d,t,os⟩:=by
 have f1:=tc_lookup;have f2:=tc_bind<|.ref C;have hT:(⟨h,g,d,t,os⟩:Shared).TypeIs (.ref C) "type":=⟨_,hC,rfl⟩;refine wpAny_call<|codeAny_of_tree ?_;show wpAny _ _ (callAny (.ref C) _) _ _ _;repeat(any_goals(first|assumption|with_reducible refine wpAny_loadPart_at hC ?_|wp_step))
 refine⟨rfl,?_⟩;exact codeAny_call_builtin_at (Code.quiet_builtin _<|by decide+kernel) entry_typeCall<|wpAny_check_type_call_sub hC<|Qhw (hrest:=hrest) F T hC hn hi jq jo λh' hm=>hq h' hm
end
section
variable{prog:Program}{w:World}{A:Around}{E:Value->Shared->Prop}{h:Heap}{g:Array GenState}{d:Drawn}{t:Nat}{os:OsState}
variable{nm q:Str}{C N:Addr}{bs bm bmB:List Value}{hdct:Bool}{sn:List Str}{sub:List Value}{ab:Bool}{col:Option Bool}{dd:Option Addr}{k0 k1 k2 k3 k5:Option Value}{B newId cu:String}
structure ButX(h h':Heap)(e:Addr):Prop where
 keeps:∀b o,b≠e->h.get? b=some o->h'.get? b=some o
 size:h.objs.size<=h'.objs.size
def Qhr(F:ExcBaseFacts B newId cu bmB)(T:OwnTail h bmB bm){e:Addr}{dx:Option Addr}{vs:Array Value}{rest:List Value}{Q:Value->Shared->Prop}(hC:h.get? C=some (excClassObj nm q C N bs bm hdct sn sub ab col dd k0 k1 k2 k3 k5 newId))(he:h.get? e=some {cls:=.ref C,dict:=dx,data:=.fields vs})(hv:vs.size=6){t0:Addr}(h0:vs[0]?=some (.ref t0))(hrest:rest.length<=sizeLine)(hq:∀h' u,ButX h h' e->h'.get? e=some {cls:=.ref C,dict:=dx,data:=.fields<|vs.setIfInBounds 0<|.ref u}->Q .none ⟨h',g,d,t,os⟩):wpAny (model prog w) A (call (.builtin cu)<|.ref e::rest) Q E ⟨h,g,d,t,os⟩:=by refine wpAny_call<|codeAny_call_builtin F.init.plain F.initEntry<|wpAny_check_init_subT F T hC he rfl ?_;wp_walk;rw[h0];refine wpAny_pure<|wpAny_bind<|wpAny_setField (Heap.get?_push_of_some _ he) rfl (by omega) ?_;have eX:=Heap.get?_update_self (Obj.mapFields (·.setIfInBounds 0<|Value.ref h.objs.size)) (Heap.get?_push_of_some {cls:=.type "tuple",data:=.seq rest.toArray} he) rfl;have hk:=hq ((h.push {cls:=.type "tuple",data:=.seq rest.toArray}).update e (Obj.mapFields (·.setIfInBounds 0<|Value.ref h.objs.size))) h.objs.size ⟨λb o hb nH=>by rw[Heap.get?_update_other _ _<|Ne.symm hb];exact Heap.get?_push_of_some _ nH,by rw[Heap.size_update,Heap.size_push];exact le_succ _⟩ eX;wp_walk;exact hk
end
section
variable{prog:Program}{w:World}{A:Around}{E:Value->Shared->Prop}{h:Heap}{g:Array GenState}{d:Drawn}{t:Nat}{os:OsState}{K:W.Frag}{C e:Addr}{vs:Array Value}{cd:ClassData}{v:Value}
noncomputable abbrev Yd:List Value:=[.type "ValueError",.type "Exception",.type "BaseException",.type "object"]
def QhA{ox:Obj}{od:Option Obj}{name:Str}{tk:Tok}{B:Addr}{R:Result->Shared->Prop}(X:K.In h)(I:W.InstAt h e ox C od)(hc:W.clsIn K C=some cd)(hm:cd.mro=.ref C::.ref B::Yd)(ht:W.takerIn K C name=some none)(hq:∀b,wpAny (model prog w) A.in1 (Builtin.ObjectAttr.storeInOwnDict (.ref e) (.ref C) (.str name tk) name v b) (λfin s'=>match fin with|.done f=>R (.ok f) s'|.again c'=>c'.quiet=true/\codeAny (model prog w) A c' R s') (λe s'=>R (.error e) s') ⟨h,g,d,t,os⟩):codeAny (model prog w) A (.call (.builtin "object.__setattr__") ⟨[.ref e,.str name tk,v],[]⟩) R ⟨h,g,d,t,os⟩:=by
 have SF:=PySem.F.store_object;have L0:=I.type (M:=model prog w);have sub:W.Looks (model prog w) h (isInstance (.ref e)<|.type "object") true:=L0.andThen<|W.looks_mroIn X (by unfold W.mroIn;rw[hc,bind_some,hm];rfl);refine codeAny_call_builtin SF.slot.plain SF.entry<|@W.check_slot (model prog w) _ _ ⟨h,g,d,t,os⟩ "object.__setattr__" "object" "__setattr__" (.ref e) [.str name tk,v] [] _ SF.kind SF.split sub (SF.args (.ref e) (.str name tk) v) ?_;obtain⟨attr,ha,hr⟩:=Option.bind_eq_some_iff.mp ht;have nc:W.Looks (model prog w) h (mroOf<|.ref C) cd.mro:=(W.looks_clsIn X hc).andThen .now;have L3:W.Looks (model prog w) h (Builtin.ObjectAttr.storeTaker? attr) none:=by cases attr with|none=>cases hr;exact .now|some a=>
   obtain⟨b,hb,hz⟩:=q_65.mp hr;refine(W.looks_takesIn X hb).andThen ?_;cases b<;>first|exact .now|simp at hz
 rw[W.osa_eq,refuse_eq];refine wpAny_bind<|wpAny_bind<|L0.here<|wpAny_bind<|nc.here ?_;rw[hm,refuseLoop_ref,refuseLoop_ref,PySem.F.store_ValueError.passes];refine wpAny_pure<|wpAny_bind<|L0.here<|wpAny_bind<|(W.looks_findIn X ha).here<|wpAny_bind<|L3.here ?_;exact hq _
def Qht{B:Addr}{name:Str}{tk:Tok}{R:Result->Shared->Prop}(X:K.In h)(hm:cd.mro=.ref C::.ref B::Yd)(ht:W.takerIn K C name=some none)(hc:W.clsIn K C=some cd)(hd:cd.hasDict=true)(he:h.get? e=some {cls:=.ref C,data:=.fields vs})(hq:∀h',ButX h h' e->h'.get? e=some {cls:=.ref C,dict:=some h.objs.size,data:=.fields vs}->h'.Ns1 h.objs.size (λy=>if y=name then some v else none)->R (.ok<|.ret .none) ⟨h',g,d,t+1,os⟩):codeAny (model prog w) A (.call (.builtin "object.__setattr__") ⟨[.ref e,.str name tk,v],[]⟩) R ⟨h,g,d,t,os⟩:=by have I:W.InstAt h e {cls:=.ref C,data:=.fields vs} C none:=⟨he,rfl,rfl,trivial⟩;refine QhA X I hc hm ht λb=>?_;refine wpAny_bind<|wpAny_pure<|wpAny_bind<|wpAny_bind<|wpAny_loadPart he<|wpAny_bind<|(W.looks_clsIn X hc).here ?_;rw[hd,if_neg<|by decide,if_neg<|by simp[typeHasDict]];refine wpAny_bind<|wpAny_alloc ?_;refine wpAny_bind<|wpAny_update (Heap.get?_push_of_some _ he) ?_;refine wpAny_bind<|wpAny_pure ?_;refine wpAny_pure ?_;have d7:e<h.objs.size:=Heap.lt_size he;have e1:(h.push {cls:=.type "dict",data:=.dict #[]}).get? h.objs.size=some {cls:=.type "dict",data:=.dict #[]}:=Heap.get?_push_size h rfl;have e3:(h.push {cls:=.type "dict",data:=.dict #[]}).Ns h.objs.size λ_=>none:=⟨{cls:=.type "dict",data:=.dict #[]},#[],_,e1,rfl,λe he=>absurd he<|by simp,λ_=>rfl⟩;have hu:∀b o,b≠e->(h.push {cls:=.type "dict",data:=.dict #[]}).get? b=some o->((h.push {cls:=.type "dict",data:=.dict #[]}).update e λo=>{cls:=o.cls,dict:=some h.objs.size,data:=o.data,slots:=o.slots}).get? b=some o:=λb o hb z=>(Heap.get?_update_other _ _<|Ne.symm hb).trans z;have cg:=Heap.get?_update_self (λo:Obj=>{cls:=o.cls,dict:=some h.objs.size,data:=o.data,slots:=o.slots}) (Heap.get?_push_of_some {cls:=.type "dict",data:=.dict #[]} he) rfl;have hn:((h.push {cls:=.type "dict",data:=.dict #[]}).update e λo=>{cls:=o.cls,dict:=some h.objs.size,data:=o.data,slots:=o.slots}).Ns1 h.objs.size λ_=>none:=(Heap.Ns1.of_empty e3).at λo q=>hu _ o (ne_of_gt d7) q;refine wpAny_bind<|wpAny_pure<|wpAny_bind ?_;refine wpAny_nsSet1 (s:=⟨_,g,d,t,os⟩) hn λh' eW eU=>?_;obtain⟨oD,esD,epD,mX,nD,eG⟩:=eW.count<|PySem.Within.cons name v (ns:=[]) λy hy=>absurd rfl hy;refine wpAny_bind<|wpAny_lookBehind mX (by rw[nD];exact pastItsLine_dict<|ZU eG<|by rw[sizeLine_eq];exact le_add_left 1 _) ?_;refine wpAny_pure<|hq _ ⟨λb o hb z=>(eU.2 b<|Z5<|Heap.lt_size z).trans<|hu b o hb<|Heap.get?_push_of_some _ z,?_⟩ ((eU.2 e<|Z5 d7).trans cg) eW;rw[eU.1,Heap.size_update,Heap.size_push];exact le_succ _
def Qhv{B:Addr}{name:Str}{Q:Unit->Shared->Prop}{E:Value->Shared->Prop}(X:K.In h)(hs:W.findIn K (.ref C) "__setattr__"=some (some<|.builtin "object.__setattr__"))(hm:cd.mro=.ref C::.ref B::Yd)(ht:W.takerIn K C name=some none)(hc:W.clsIn K C=some cd)(hd:cd.hasDict=true)(he:h.get? e=some {cls:=.ref C,data:=.fields vs})(hq:∀h' t',t<=t'->ButX h h' e->h'.get? e=some {cls:=.ref C,dict:=some h.objs.size,data:=.fields vs}->h'.Ns1 h.objs.size (λy=>if y=name then some v else none)->Q () ⟨h',g,d,t',os⟩):wpAny (model prog w) A (setAttr (.ref e) name v) Q E ⟨h,g,d,t,os⟩:=by have I:W.InstAt h e {cls:=.ref C,data:=.fields vs} C none:=⟨he,rfl,rfl,trivial⟩;exact W.set_plain (s:=⟨h,g,d,t,os⟩) X I hs<|Qht X hm ht hc hd he λh' a b c=>hq h' (t+1+1) (by omega) a b c
end
section
variable{prog:Program}{w:World}{A:Around}{E:Value->Shared->Prop}{h:Heap}{g:Array GenState}{d:Drawn}{t:Nat}{os:OsState}{K:W.Frag}{C e:Addr}{ox:Obj}{od:Option Obj}{v:Value}{ms:List Value}{name:Str}
def Qhp{tk:Tok}{R:Result->Shared->Prop}(X:K.In h)(I:W.InstAt h e ox C od)(hm:W.mroIn K C (.type "BaseException")=some true)(hf:W.findObj K C od name=some (.value v))(hq:R (.ok<|.ret v) ⟨h,g,d,t,os⟩):codeAny (model prog w) A (.call (.builtin "BaseException.__getattribute__") ⟨[.ref e,.str name tk],[]⟩) R ⟨h,g,d,t,os⟩:=by
 have L0:=I.type (M:=model prog w);have L1:=W.looks_find (M:=model prog w) X I hf;refine codeAny_call_builtin (by decide+kernel) F.entry_bexc_ga ?_;have hk:builtinKind "BaseException.__getattribute__"=some .slot:=by decide+kernel
 have de:splitId "BaseException.__getattribute__"=some ("BaseException","__getattribute__"):=by decide+kernel
 have ha:=F.args_bexc_ga (.ref e)<|.str name tk;have LI:W.Looks (model prog w) h (isInstance (.ref e)<|.type "BaseException") true:=L0.andThen<|W.looks_mroIn X hm;simp only[checkBuiltinCall,hk,de];refine wpAny_bind<|LI.at ?_;refine wpAny_of_eq ha ?_;refine wpAny_bind<|wpAny_pure<|wpAny_bind<|wpAny_pure<|wpAny_bind<|L0.at<|wpAny_bind<|L1.at ?_;exact wpAny_pure hq
def Qhq{expr:Bool}{Q:Value->Shared->Prop}(X:K.In h)(I:W.InstAt h e ox C od)(hm:W.mroIn K C (.type "BaseException")=some true)(jm:W.findIn K (.ref C) "__getattribute__"=some (some<|.builtin "BaseException.__getattribute__"))(dP:W.findIn K (.ref C) "__getattr__"=some none)(hf:W.findObj K C od name=some (.value v))(hh:W.handedIn v=true)(hq:Q v ⟨h,g,d,t+1,os⟩):wpAny (model prog w) A (getAttr (.ref e) name expr) Q E ⟨h,g,d,t,os⟩:=by
 have L0:=I.type (M:=model prog w);have L1:=W.looks_findIn (M:=model prog w) X jm;have L2:=W.looks_findIn (M:=model prog w) X dP;unfold getAttr getAttrBy;refine wpAny_bind<|wpAny_mkText<|wpAny_holding<|wpAny_bind<|L0.at<|wpAny_bind<|L1.at ?_;show wpAny _ _ (getAttrByItsOwn _ _ _ _ _ _) _ _ _;refine wpAny_bind<|L2.at<|wpAny_bind ?_;have mQ:(expr&&onTheHeap (Value.builtin "BaseException.__getattribute__"))=false:=by cases expr<;>rfl
 refine wpAny_attempt<|wpAny_holding ?_;unfold callGetattribute;rw[mQ];show wpAny _ _ (boundAndCalled _ _ _) _ _ _;refine wpAny_bind<|wpAny_of_eq (F.attrBase_ValueError.ga.bind _) ?_;refine wpAny_call<|Qhp X I hm hf ?_;show wpAny _ _ (handedOut v) _ _ _;rw[W.handedOut_of hh];exact wpAny_pure hq
end
end PySem
namespace Wd
open PySem PySem.Spec PyProof.Rows L2
def Qb9(i:Int)(h0:0<=i)(h1:i<10^60):(Str.ofString<|toString i).length<=60/\i.natAbs.log2<1920:=by
 obtain⟨n,rfl⟩:=Tj h0;have hn:n<10^60:=by
  have:(n:Int)<((10^60:Nat):Int):=h1;exact Int.ofNat_lt.mp this
 refine⟨?_,?_⟩
 .have e1:(Str.ofString<|toString (n:Int)).length=(Nat.toDigits 10 n).length:=by
   show(cpsOfBytes 0 0 (Nat.repr n).toByteArray.data.toList).toArray.size=_;rw[cpsOfBytes_string,Nat.toList_repr];simp
  rw[e1];exact(RN (by decide)<|by decide).mpr hn
 .show n.log2<1920;rcases Nat.eq_zero_or_pos n with rfl|hp;.decide
  .exact(Nat.log2_lt<|ne_of_gt hp).mpr<|lt_trans hn<|by decide+kernel
section
variable{X:Cx}{e:Expr}{te:TE}{a b:Str}
def Qff{j1 j2}{p1 p2 p3 pos:Pos}(he:PE X e te)(ha:a.length<=1000)(hb:b.length<=1000):PE X (.JoinedStr [.Constant (.str a) j1 p1,.FormattedValue e (-1) none p2,.Constant (.str b) j2 p3] pos) λσ H Q=>te σ H λv H1=>∃i:Int,v=.int i/\0<=i/\i<10^60/\∀x,Q (.str x) H1:=by
 intro aa s σ H Q I h;refine JoinedStr_many<|joinParts_cons<|Calls.Constant_str ⟨?_,joinParts_cons<|FormattedValue_plain<|Qd (he aa _ σ H _ (I.tok _) h) λu s1⟨v,H1,I1,r,i,ev,i0,i1,q⟩=>?_⟩;.rw[strLen_append,sizeLine_eq];exact ZU (Nat.add_le_add_left ha _)<|by decide
 .subst ev;obtain⟨t,rfl⟩:=r;obtain⟨l1,l2⟩:=Qb9 i i0 i1;have f1:(Str.empty++a++Str.ofString (toString i)).length<=1060:=by rw[strLen_append,strLen_append];have:Str.empty.length=0:=rfl;omega
  have f2:(Str.empty++a++Str.ofString (toString i)++b).length<=2060:=by rw[strLen_append];omega
  refine formatField_int_small l2 ⟨?_,joinParts_cons<|Calls.Constant_str ⟨?_,joinParts_nil ⟨.str<|Str.empty++a++Str.ofString (toString i)++b,H1,I1.tok _,⟨_,rfl⟩,q _⟩ ?_⟩⟩;all_goals(rw[sizeLine_eq];first|exact ZU f1<|by decide|exact ZU f2<|by decide)
end
def ExcNew(a C:Addr)(dx:Option Addr)(h:Heap):Prop:=∃vs t,h.get? a=some {cls:=.ref C,dict:=dx,data:=.fields vs}/\vs.size=6/\vs[0]?=some (.ref t)/\vs[1]?=some .none
def ExcNew.ok{P:Program}{w:World}{H:Hp}{h:Heap}{a C:Addr}{dx:Option Addr}(x:ExcNew a C dx h):ObjOk P w H h a<|.ext<|ExcNew a C dx:=⟨x,let⟨_,_,e,_⟩:=x;⟨_,e⟩,λh1 h2⟨vs,t,e,r⟩k=>⟨vs,t,k _ e,r⟩⟩
def ExcNew.at{P:Program}{w:World}{H:Hp}{h:Heap}{a C:Addr}{dx:Option Addr}(x:ExcNew a C dx h):ObjOk P w H h a<|.ext<|Vq a C dx:=⟨let⟨vs,t,e,a,b,_⟩:=x;⟨vs,t,e,a,b⟩,let⟨_,_,e,_⟩:=x;⟨_,e⟩,λh1 h2⟨vs,t,e,r⟩k=>⟨vs,t,k _ e,r⟩⟩
def Qha{H:Hp}{a:Addr}{o:HO}(h:H a=some o):upd H a o=H:=by
 funext b;unfold upd;split;.rename_i z;rw[z,h]
 .rfl
structure XB(K:Fg)(CB:Addr):Prop where
 reads:W.readsIn K CB (.type "type")=true
 ga:W.specialIn K (.ref CB) "__getattribute__"=some (some<|.builtin "type.__getattribute__")init:W.findCls K (.ref CB) (.type "type") "__init__"=some (.val<|.builtin "ValueError.__init__")
structure XCl(K:Fg)(C CB:Addr)(cD:Option Value):Prop where
 obj:∃nm q N bs sn sub ab col dd k0 k1 k2 k3 k5,K.lookup C=some (excClassObj nm q C N bs (.ref CB::Yd) true sn sub ab col dd k0 k1 k2 k3 k5 "ValueError.__new__")/\W.nsOkIn K N=true/\W.nsIn K N "__init__"=some cD
 tail:W.tailIn K Yd (.ref CB::Yd)=true
 sa:W.findIn K (.ref C) "__setattr__"=some (some<|.builtin "object.__setattr__")tk:W.takerIn K C "row"=some none
 ga:W.findIn K (.ref C) "__getattribute__"=some (some<|.builtin "BaseException.__getattribute__")gn:W.findIn K (.ref C) "__getattr__"=some none
 no:W.findIn K (.ref C) "row"=some none
 kp:W.keepIn K (.ref C)=true
section
variable{X:Cx}{aa:List<|Addr×Obj}{σ:L2.St}{H:Hp}{s:Shared}
def Inv.xset{e dx:Addr}{φ ψ:Heap->Prop}{fs:List<|Str×V}{h':Heap}{t':Nat}(I:Inv X aa σ H s)(he:H e=some (.ext φ))(hp:s.heap.objs.size<=dx)(k:∀b u,b≠e->s.heap.get? b=some u->h'.get? b=some u)(n1:ObjOk X.prog X.w (upd (upd H dx<|.xd fs) e<|.ext ψ) h' e<|.ext ψ)(n2:ObjOk X.prog X.w (upd (upd H dx<|.xd fs) e<|.ext ψ) h' dx<|.xd fs):Inv X aa σ (upd (upd H dx<|.xd fs) e<|.ext ψ) {s with heap:=h',toks:=t'}:=by
 have hd:H dx=none:=I.hok.fresh hp;have nd:∀b o,H b=some o->b≠dx:=λb o q z=>by rw[z,hd]at q;simp at q
 have sm:∀b o,b≠e->H b=some o->upd (upd H dx<|.xd fs) e (.ext ψ) b=some o:=λb o hb q=>by rw[QY hb,QY<|nd b o q];exact q
 have ne:∀b o,H b=some o->(∀φ,o≠.ext φ)->b≠e:=λb o q w z=>by rw[z,he]at q;obtain rfl:=Q5 q;exact w _ rfl
 have nn:∀b,H b=none->b≠e:=λb q z=>by rw[z,he]at q;simp at q
 obtain⟨_,⟨oe,mW⟩,_⟩:=id n1;refine I.un ⟨λb o q n _ _=>k b o (nn b n) q,λb o q n _ _=>⟨o.slots,k b o (nn b n) q⟩,λb o q n _=>?_,λb o q _=>?_,λb xs q=>sm b _ (ne b _ q λ_ z=>nomatch z) q,λb o u q=>sm b _ (ne b _ q λ_ z=>nomatch z) q,λb ps q=>⟨#[],by rw[sm b _ (ne b _ q λ_ z=>nomatch z) q];simp⟩⟩ λb u q=>?_;.rw[QY<|nn b n,QY<|Z5<|ZW (Heap.lt_size q) hp];exact n
 .by_cases z:b=e;.rw[z];exact⟨oe,mW⟩
  .exact⟨o,k b o z q⟩
 .by_cases z:b=e;.subst z;rw[Qu]at q;obtain rfl:=Q5 q;exact n1
  .rw[QY z]at q;by_cases z2:b=dx;.subst z2;rw[Qu]at q;obtain rfl:=Q5 q;exact n2
   .rw[QY z2]at q;refine(I.hok b u q).stay (λc v hc r=>k c v ?_ r) (λc r=>sm c _ (ne c _ r λ_ z=>nomatch z) r) λc xs r=>sm c _ (ne c _ r λ_ z=>nomatch z) r;rcases hc with rfl|hc;.exact z
    .exact ne c _ hc λ_ z=>nomatch z
variable{C CB:Addr}{cD:Option Value}{xB:Str}{e1 o value:Expr}{es:List Expr}{ta tv:TE}{t:TA}{p0 p1 p2 p3 pos pos':Pos}
def XCl.tl{h:Heap}(c:XCl X.K C CB cD)(k:X.K.In h):OwnTail h Yd<|.ref CB::Yd:=W.tail_of_in k c.tail
def QfB(B:XB X.K CB)(c:XCl X.K C CB cD)(hg:Gl X xB)(hm:X.mg xB=some (.ref CB))(ha:PA X (e1::es) t)(aY:XV xB:=by decide)(he:Wp X e1 es:=by rfl)(aQ:WF X p2 es:=by rfl)(dO:swapsWith (.Call (.Attribute (.Name xB p0) "__init__" p1) (e1::es) [] p2) none p3.line X.env=pure false:=by rfl){pl:Sem Bool}(ht:eval (.Call (.Attribute (.Name xB p0) "__init__" p1) (e1::es) [] p2) X.env=(do
   let ov<-eval (.Name xB p0) X.env
   standAt p1.atName let(f,first)<-holding [ov] (getMethod ov "__init__" pl)callWith p2 f first (backTo p2<|starEach (e1::es) X.env)<|backToKw p2<|keywordEach [] X.env):=by rfl):PS X (.Expr (.Call (.Attribute (.Name xB p0) "__init__" p1) (e1::es) [] p2) p3) λDn σ H=>t σ H λvs H1=>∃e y,vs=[.ref e,y]/\H1 e=some (.ext<|ExcNew e C none)/\Dn.nx σ H1:=by
 intro aa s σ H Dn I h;refine wpAny_Expr_any (W.methodCall_KW (pl:=pl) (Se I hg hm (W.method_cls I.kIn B.ga<|W.cls_value I.kIn B.reads B.init rfl ?_) aY) ht) I.quiet dO;refine callWith_builtin1 (Qd (ha p2 aa _ σ H _ (I.tok _) h) λus s1 zz=>?_) he aQ;obtain⟨vs,H1,I1,r,e,y,ev,hE,q⟩:=zz;subst ev;cases r with|cons r1 r2=>cases r2 with|cons r3 r4=>cases r4;obtain rfl:=r1;obtain⟨⟨vs,t0,g1,g2,g3,g4⟩,_,_⟩:=show ObjOk X.prog X.w H1 s1.heap e<|.ext<|ExcNew e C none from I1.hok e _ hE;obtain⟨nm,q',N,bs,sn,sub,ab,col,dd,k0,k1,k2,k3,k5,hC,_⟩:=c.obj;obtain⟨hh,g,d,tk,os⟩:=s1;refine Qhr PySem.F.excBase_ValueError (c.tl I1.kIn) (I1.kIn _ _ hC) g1 g2 g3 (by rw[sizeLine_eq];exact le_add_left 1 _) λh' u bx ge=>?_;refine⟨σ,H1,?_,q⟩;have:=I1.write (x:=e) (e:=e) (o:=.ext<|ExcNew e C none) (h':=h') (t':=tk) (by rw[hE];exact trivial) (.inl rfl) bx.keeps ⟨_,ge⟩<|ExcNew.ok ⟨_,u,ge,by rw[Array.size_setIfInBounds];exact g2,by simp[Ln,g2],by simp[Ln,g4]⟩;rw[Qha hE]at this;exact this
def QfC(c:XCl X.K C CB cD)(ha:PE X o ta)(hv:PE X value tv)(hs:swapsWith value (some<|.Attribute o "row" pos') pos.line X.env=pure false:=by rfl):PS X (.Assign [.Attribute o "row" pos'] value pos) λDn σ H=>tv σ H λy H1=>ta σ H1 λx H2=>∃e i,x=.ref e/\y=.int i/\H2 e=some (.ext<|ExcNew e C none)/\∀dx,H2 dx=none->dx≠e->Dn.nx σ (upd (upd H2 dx<|.xd [("row",.int i)]) e<|.ext<|ExcNew e C<|some dx):=by
 intro aa s σ H D I h;refine plainObj_wpAny_Assign_Attribute (Qd (hv aa s σ H _ I h) λu s1⟨y,H1,I1,ry,q⟩=>Qd (ha aa s1 σ H1 _ I1 q) λov s2⟨x,H2,I2,rx,e,i,ex,ey,hE,q2⟩=>?_) hs;subst ex;subst ey;obtain rfl:ov=Value.ref e:=rx;obtain⟨ti,rfl⟩:=ry;obtain⟨⟨vs,t0,g1,g2,g3,g4⟩,_,_⟩:=show ObjOk X.prog X.w H2 s2.heap e<|.ext<|ExcNew e C none from I2.hok e _ hE;obtain⟨nm,q',N,bs,sn,sub,ab,col,dd,k0,k1,k2,k3,k5,hC,_⟩:=c.obj;have cT:W.clsIn X.K C=some {name:=nm,bases:=bs,mro:=.ref C::.ref CB::Yd,ns:=N,qualname:=q',hasDict:=true,slotNames:=sn,subclasses:=sub,abstract:=ab,collection:=col,hasDel:=false}:=by unfold W.clsIn;rw[hC]
 obtain⟨hh,g,d,tk,os⟩:=s2;refine Qhv (B:=CB) I2.kIn c.sa rfl c.tk cT rfl g1 λh' t' _ bx ge hn=>?_;have d7:e<hh.objs.size:=Heap.lt_size g1;refine⟨σ,_,Inv.xset (h':=h') (t':=t') I2 hE (Qm _) bx.keeps (ExcNew.ok ⟨vs,t0,ge,g2,g3,g4⟩) ⟨_,hn,λf=>?_⟩,q2 hh.objs.size (I2.hok.fresh<|Qm _)<|ne_of_gt d7⟩;show RelO (List.lookup f [("row",V.int i)])<|if f="row"then some<|.int i ti else none;by_cases z:f="row";.subst z;exact⟨ti,rfl⟩
 .have hb:(f==("row":Str))=false:=beq_eq_false_iff_ne.mpr z;simp only[List.lookup,hb,if_neg z];exact trivial
end
end Wd
namespace PySem
open Sem(wp)
section
variable{M:Model}{A:Around}{E:Value->Shared->Prop}{env:Env}
variable{nm q:Str}{C N:Addr}{bs bm:List Value}{hdct:Bool}{sn:List Str}{sub:List Value}{ab:Bool}{col:Option Bool}{dd:Option Addr}{k0 k1 k2 k3 k5:Option Value}{newId:String}
def Qhu{s:Shared}{x:Sem Value}{Q:Flow->Shared->Prop}(az:bm.contains (.type "BaseException")=true)(hh:A.handled=none)(h:wpAny M A x (λv s₁=>∃e dx vs,v=.ref e/\s₁.heap.get? C=some (excClassObj nm q C N bs bm hdct sn sub ab col dd k0 k1 k2 k3 k5 newId)/\s₁.heap.get? e=some {cls:=.ref C,dict:=dx,data:=.fields vs}/\vs[1]?=some .none/\E (.ref e) s₁) E s):wpAny M A (raiseStmt env (some x) none) Q E s:=by
 have ju:(Value.ref C::bm).contains (.type "BaseException")=true:=by rw[List.contains_cons,az,Bool.or_true]
 unfold raiseStmt;refine wpAny_bind<|wpAny_mono h (λv s₁ h₁=>?_) λ_ _ x=>x;obtain⟨e,dx,vs,rfl,hC,he,h1,hE⟩:=h₁;obtain⟨hp,g,d,tk,os⟩:=s₁;repeat(first|with_reducible refine wpAny_field he rfl h1 ?_|with_reducible refine wpAny_loadPart_at he ?_|with_reducible refine wpAny_loadPart_at hC ?_|(with_reducible refine wpAny_isSubtype_exc hC ?_;rw[ju])|wp_step)
 exact wpAny_raiseNew_none hh hE
end
end PySem
namespace Wd
open PySem PySem.Spec PyProof.Rows L2
def KW(C:Addr):Sp:=λvs H Q _=>∃e i,vs=[.ref e,.int i]/\H e=some (.ext<|ExcNew e C none)/\0<=i/\i<10^60/\∀dx,H dx=none->dx≠e->Q .non (upd (upd H dx<|.xd [("row",.int i)]) e<|.ext<|ExcNew e C<|some dx)
def B1(C:Addr):TS:=λDn σ H=>(Jc (J7 0)<|Jc (λσ H Q=>J7 1 σ H λv H1=>∃i:Int,v=.int i/\0<=i/\i<10^60/\∀x,Q (.str x) H1) Jm) σ H λvs H1=>∃e y,vs=[.ref e,y]/\H1 e=some (.ext<|ExcNew e C none)/\Dn.nx σ H1
def B2(C:Addr):TS:=λDn σ H=>J7 1 σ H λy H1=>J7 0 σ H1 λx H2=>∃e i,x=.ref e/\y=.int i/\H2 e=some (.ext<|ExcNew e C none)/\∀dx,H2 dx=none->dx≠e->Dn.nx σ (upd (upd H2 dx<|.xd [("row",.int i)]) e<|.ext<|ExcNew e C<|some dx)
def Rv(P:Program)(w:World)(K:Fg)(mg:Str->Option Value)(ae:Heap)(k:Nat)(x:Str)(c:Nat):Prop:=∃C CB f fd,XCl K C CB (some<|.ref f)/\W.isFn K (.ref f)=true/\Binds K fd ["self","row"] []/\FnOk P w K mg ae J9 k f fd ["self","row"] (KW C)/\mg x=some (.ref C)/\Jn K c=C
section
variable{P:Program}{w:World}{K:Fg}{mg:Str->Option Value}{ae:Heap}{st:Stmt}{k:Nat}{qual:Str}{f C:Addr}{fd:FuncData}{s1 s2:Stmt}
def LZ(F:Fun K "__init__" qual st f fd)(S:FnScope ["self","row"] ["self","row"]<|QN st)(hd:Ju st=[s1,s2])(hb:∀(ah:Value)(A:Around)(af:List Env)(s:Shared)(H:Hp)(E:XK),PS (JK J9 P w K mg ae ["self","row"] qual (QN st) f ah A af s H E).nox s1 (B1 C)/\PS (JK J9 P w K mg ae ["self","row"] qual (QN st) f ah A af s H E).nox s2 (B2 C)):FnOk P w K mg ae J9 (k+1) f fd ["self","row"]<|KW C:=by refine Fun.ok F S (by rintro vs H Q E⟨e,i,h,_⟩;rw[h];rfl) λah A af s H vs Q E hr⟨e,i,hv,hE,i0,i1,q⟩=>?_;obtain⟨h1,h2⟩:=hb ah A af s H E;rw[hd];refine⟨_,Z1 h1<|ZT h2,?_⟩;subst hv;refine⟨.ref e,rfl,.int i,rfl,i,rfl,i0,i1,λx=>⟨e,_,rfl,hE,.int i,rfl,.ref e,rfl,e,i,rfl,rfl,hE,λdx hn ne=>q dx hn ne⟩⟩
end
def Qdr{K:Fg}{h:Heap}{N:Addr}{mg:Str->Option Value}{n:Str}{v:Value}(X:K.In h)(G:h.Ns N mg)(e:W.nsIn K N n=some (some v)):mg n=some v:=by
 obtain⟨o,es,ep,ho,hd,_,hf⟩:=G;unfold W.nsIn at e;split at e
 .rename_i c d iN n' sl q;have:=X _ _ q;rw[ho]at this;obtain rfl:=Q5 this;cases hd;split at e
  .rename_i he;cases e;rw[<-hf];unfold nsFind findBy;rw[<-Array.find?_toList,he];rfl
  .split at e<;>simp at e
 .simp at e
section
variable{X:Cx}{aa:List<|Addr×Obj}{σ:L2.St}{H:Hp}{s:Shared}{O O' OL:List Nat}{w:Bool}{e:Expr}{ev:Q6}{x:Str}{c k:Nat}{np ax pos:Pos}
def Qga{C CB f:Addr}{fd:FuncData}{i:Int}{ti:Tok}(cl:XCl X.K C CB<|some<|.ref f)(fN:W.isFn X.K (.ref f)=true)(hb:Binds X.K fd ["self","row"] [])(F:FnOk X.prog X.w X.K X.mg X.ae J9 k f fd ["self","row"]<|KW C)(hr:Room (k+1) X.A)(I:Inv X aa σ H s)(i0:0<=i)(i1:i<10^60){Q:Value->Shared->Prop}(hq:∀e dx H' s',s.heap.objs.size<=e->H e=none->H dx=none->dx≠e->H'=upd (upd H dx<|.xd [("row",.int i)]) e (.ext<|ExcNew e C<|some dx)->Inv X aa σ H' s'->Q (.ref e) s'):wpAny (model X.prog X.w) X.A (call (.ref C) [.int i ti]) Q X.xe s:=by
 obtain⟨nm,q',N,bs,sn,sub,ab,col,dd,k0,k1,k2,k3,k5,hC,hok,mY⟩:=cl.obj;obtain⟨hh,g,d,tk,os⟩:=s;have kin:X.K.In hh:=I.kIn;have hN:hh.Ns N<|hh.nsMap N:=.of_isNs<|W.isNs_of_in kin hok;have j0:hh.nsMap N "__init__"=some (.ref f):=Qdr kin hN mY;obtain⟨oI,iH,nE⟩:=q_65.mp (show(X.K.lookup f).map (·.cls)=some (.type "function")from beq_iff_eq.mp fN);refine Qhm PySem.F.excBase_ValueError (cl.tl kin) (kin _ _ hC) hN j0 (kin _ _ iH) nE (λh' mx=>?_) (by rw[sizeLine_eq];exact le_add_left 1 _);obtain⟨vs,t0,g1,g2,g3,g4⟩:=mx.ex;have nO:H (hh.objs.size+1)=none:=I.hok.fresh<|le_succ _;have I2:Inv X aa σ (upd H (hh.objs.size+1)<|.ext<|ExcNew (hh.objs.size+1) C none) ⟨h',g,d,tk,os⟩:=I.laid (t':=tk) mx.keeps (le_succ _)<|ExcNew.ok ⟨vs,t0,g1,g2,g3,g4⟩;have r2:Vals [V.ref<|hh.objs.size+1,V.int i] [Value.ref<|hh.objs.size+1,Value.int i ti]:=.cons rfl<|.cons ⟨ti,rfl⟩ .nil;refine wpAny_call<|codeAny_mono (F.run _ X.stack ⟨h',g,d,tk,os⟩ _ ⟨[Value.ref<|hh.objs.size+1,.int i ti],[]⟩ [Value.ref<|hh.objs.size+1,.int i ti] _ (λv H2=>v=.non/\∃dx,H dx=none/\dx≠hh.objs.size+1/\H2=upd (upd H dx<|.xd [("row",.int i)]) (hh.objs.size+1) (.ext<|ExcNew (hh.objs.size+1) C<|some dx)) E0 (hr.make C _ []) (I2.env0.make C _ []) (hb _ _ I2.kIn rfl) r2 ⟨_,i,rfl,Qu,i0,i1,λdx hn ne=>⟨rfl,dx,?_,ne,?_⟩⟩) λr s' dG=>?_;.rw[QY ne]at hn;exact hn
 .funext b;by_cases z:b=hh.objs.size+1;.rw[z,Qu,Qu]
  .rw[QY z,QY z];by_cases z2:b=dx;.rw[z2,Qu,Qu]
   .rw[QY z2,QY z2,QY z]
 .cases r with
  |error e=>exact dG.elim|ok fl=>cases fl with|ret u=>obtain⟨v,H',I3,rv,ev,dx,hn,ne,hH⟩:=I2.after dG;subst ev;exact⟨rv,hq _ dx H' s' (le_succ _) nO hn ne hH I3⟩|next=>exact False.elim dG|brk=>exact False.elim dG|cont=>exact False.elim dG
end
def AE{c:Nat}{d:D}{fl:Fl}(h:D.blkO c d=some fl):∃i,d=.int i/\0<=i/\i<10^60/\fl=.rz c (.int i):=by cases d with
 |int i=>
  have h:(if 0<=i/\i<10^60 then some<|Fl.rz c<|.int i else none)=some fl:=h;split at h;.rename_i q;obtain rfl:=Q5 h;exact⟨i,rfl,q.1,q.2,rfl⟩
  .simp at h|_=>cases h
section
variable{X:Cx}{O O' OL:List Nat}{w:Bool}{e:Expr}{ev:Q6}{x:Str}{c k:Nat}{np ax pos:Pos}
def FL(m:Rv X.prog X.w X.K X.mg X.ae k x c)(hr:Room (k+1) X.A)(hg:Gl X x)(ha:PE X e<|tD X O ev)(aY:XV x:=by decide)(he:starEach [e] X.env=(false,eval e X.env)::starEach [] X.env:=by rfl)(aQ:(backTo ax<|starEach [] X.env).any (·.1)=false:=by rfl):PS X (.Raise (some<|.Call (.Name x np) [e] [] ax) none pos)<|tS X O O' OL w<|Ur c ev:=by
 intro aa s σ H Dn I⟨F0,F,en,fl,rs,z,kk⟩;obtain⟨d,e1,z1⟩:=Qg z;obtain⟨i,rfl,i0,i1,rfl⟩:=AE z1;obtain⟨C,CB,f,fd,cl,fN,hb,Fk,hm,mO⟩:=m;obtain⟨nm,q',N,bs,sn,sub,ab,col,dd,k0,k1,k2,k3,k5,hC,_⟩:=cl.obj;rw[arm_exec_Raise];refine wpAny_bind<|wpAny_standAt<|Qhu (C:=C) (nm:=nm) (q:=q') (N:=N) (bs:=bs) (bm:=.ref CB::Yd) (hdct:=true) (sn:=sn) (sub:=sub) (ab:=ab) (col:=col) (dd:=dd) (k0:=k0) (k1:=k1) (k2:=k2) (k3:=k3) (k5:=k5) (newId:="ValueError.__new__") rfl hr.hd ?_;refine wpAny_bind<|Qd (wpAny_Call_Name_kw<|Se I hg hm ?_ aY) λv s3 h3=>wpAny_bind<|wpAny_standAt<|wpAny_pure h3;refine W.callWith_K (h₀:=X.ae) I.ok.mod.kin cl.kp (Qd ((J5 ha JL he) ax aa s σ H (λvs H1=>∃F1,vs=[.int i]/\Gr F H F1 H1) I ⟨F0,F,en,.int i,rs,e1,λv F1 H1 g1 r1=>?_⟩) λus s1⟨vs,H1,I1,r,F1,ev,g1⟩=>⟨I1.kIn,?_⟩) he aQ
 .cases r1;exact⟨F1,rfl,g1⟩
 .subst ev;cases r with|cons r1 r2=>
   cases r2;obtain⟨ti,rfl⟩:=r1;refine Qga cl fN hb Fk hr I1 i0 i1 λea dx H' s' le hn jr ne hH I3=>?_;subst hH;obtain⟨⟨vs,t0,q1,q2,q3,q4⟩,_,_⟩:=show ObjOk X.prog X.w _ s'.heap ea<|.ext<|ExcNew ea C<|some dx from I3.hok ea _ Qu;refine⟨ea,some dx,vs,rfl,I3.kIn _ _ hC,q1,q4,?_⟩;have I4:=I3.write (x:=ea) (e:=ea) (o:=.ext<|Vq ea C<|some dx) (h':=s'.heap) (t':=s'.toks) (by rw[Qu];exact trivial) (.inl rfl) (λb u _ q=>q) ⟨_,q1⟩<|ExcNew.at ⟨vs,t0,q1,q2,q3,q4⟩;rw[Qhb]at I4;have fe:F1 ea=none:=g1.fh.none hn;have nW:F1 dx=none:=g1.fh.none jr;have G:Gr F1 H1 (upd (upd F1 dx<|.xd [("row",.int i)]) ea<|.ext<|Vq ea C<|some dx)<|upd (upd H1 dx<|.xd [("row",.int i)]) ea<|.ext<|Vq ea C<|some dx:=by
    refine⟨?_,?_,(g1.fh.upd2 _ _).upd2 _ _,λa o h=>?_⟩;.exact((Sm.refl F1).upd _ nW).upd _ fe
    .exact((Sm.refl H1).upd _ jr).upd _ hn
    .by_cases z1:a=ea;.rw[z1];exact .inr hn
     .rw[QY z1]at h;by_cases z2:a=dx;.rw[z2];exact .inr jr
      .rw[QY z2]at h;exact .inl h
   refine kk aa σ _ _ s' ea I4 (rs.exg<|g1.trans G) (.exc (dx:=dx) (by rw[mO];exact Qu)<|by rw[QY ne];exact Qu) ⟨ZU I1.sz le,_,vs,q1,rfl,q2,.inl q4⟩
end
end Wd
namespace PySem
open Sem(wp)
section
variable{prog:Program}{w:World}{A:Around}{E:Value->Shared->Prop}{h:Heap}{g:Array GenState}{d:Drawn}{t:Nat}{os:OsState}{K:W.Frag}{C e:Addr}{ox:Obj}{od:Option Obj}{v:Value}{ms:List Value}
def Qho{tk:Tok}{R:Result->Shared->Prop}(X:K.In h)(I:W.InstAt h e ox C od)(hm:W.mroIn K C (.type "BaseException")=some true)(jc:W.mroIn K C (.type "object")=some true)(hf:W.findObj K C od "__class__"=some (.bind (.builtin "getset_descriptor.__get__")<|.builtin "object.__class__"))(hq:R (.ok<|.ret<|.ref C) ⟨h,g,d,t,os⟩):codeAny (model prog w) A (.call (.builtin "BaseException.__getattribute__") ⟨[.ref e,.str "__class__" tk],[]⟩) R ⟨h,g,d,t,os⟩:=by
 have L0:=I.type (M:=model prog w);have L1:=W.looks_find (M:=model prog w) X I hf;refine codeAny_call_builtin (by decide+kernel) F.entry_bexc_ga ?_;have hk:builtinKind "BaseException.__getattribute__"=some .slot:=by decide+kernel
 have de:splitId "BaseException.__getattribute__"=some ("BaseException","__getattribute__"):=by decide+kernel
 have ha:=F.args_bexc_ga (.ref e)<|.str "__class__" tk;have LI:W.Looks (model prog w) h (isInstance (.ref e)<|.type "BaseException") true:=L0.andThen<|W.looks_mroIn X hm;simp only[checkBuiltinCall,hk,de];refine wpAny_bind<|LI.at ?_;refine wpAny_of_eq ha ?_;refine wpAny_bind<|wpAny_pure<|wpAny_bind<|wpAny_pure<|wpAny_bind<|L0.at<|wpAny_bind<|L1.at ?_;show wpAny _ _ (Builtin.ObjectAttr.bindTo _ _ _ _) _ _ _;unfold Builtin.ObjectAttr.bindTo;dsimp only;refine wpAny_bind<|wpAny_holding<|wpAny_call<|W.class_get (s:=⟨h,g,d,t,os⟩) (ox:=ox) (od:=od) X I jc ?_;exact wpAny_pure hq
def Qhn{Q:Option Value->Shared->Prop}(X:K.In h)(I:W.InstAt h e ox C od)(hm:W.mroIn K C (.type "BaseException")=some true)(jc:W.mroIn K C (.type "object")=some true)(jm:W.findIn K (.ref C) "__getattribute__"=some (some<|.builtin "BaseException.__getattribute__"))(dP:W.findIn K (.ref C) "__getattr__"=some none)(hf:W.findObj K C od "__class__"=some (.bind (.builtin "getset_descriptor.__get__")<|.builtin "object.__class__"))(hq:Q (some<|.ref C) ⟨h,g,d,t+1,os⟩):wpAny (model prog w) A (getAttr? (.ref e) "__class__") Q E ⟨h,g,d,t,os⟩:=by have L0:=I.type (M:=model prog w);have L1:=W.looks_findIn (M:=model prog w) X jm;have L2:=W.looks_findIn (M:=model prog w) X dP;unfold getAttr? getAttrBy?;refine wpAny_bind<|wpAny_mkText<|wpAny_bind<|wpAny_attempt ?_;unfold getAttrBy;refine wpAny_holding<|wpAny_bind<|L0.at<|wpAny_bind<|L1.at ?_;show wpAny _ _ (getAttrByItsOwn _ _ _ _ _ _) _ _ _;refine wpAny_bind<|L2.at<|wpAny_bind ?_;refine wpAny_attempt<|wpAny_holding ?_;show wpAny _ _ (boundAndCalled _ _ _) _ _ _;refine wpAny_bind<|wpAny_of_eq (F.attrBase_ValueError.ga.bind _) ?_;refine wpAny_call<|Qho X I hm jc hf ?_;exact W.handed_on rfl<|wpAny_pure hq
end
end PySem
namespace Wd
open PySem PySem.Spec PyProof.Rows L2
noncomputable def nonV:V->Bool|.non=>true|_=>false
noncomputable def nonD:D->Bool|.non=>true|_=>false
def Ee{v:V}{u:Value}(h:RelV v u):plainIs u .none=true/\(u==Value.none)=nonV v:=by cases v with|non=>cases show u=Value.none from h;exact⟨rfl,rfl⟩|bl b=>cases show u=Value.bool b from h;exact⟨rfl,rfl⟩|int i=>obtain⟨t,rfl⟩:=show∃t,u=Value.int i t from h;exact⟨rfl,rfl⟩|str i=>obtain⟨t,rfl⟩:=show∃t,u=Value.str i t from h;exact⟨rfl,rfl⟩|byt i=>obtain⟨t,rfl⟩:=show∃t,u=Value.bytes i t from h;exact⟨rfl,rfl⟩|flt i=>obtain⟨t,rfl⟩:=show∃t,u=Value.float i t from h;exact⟨rfl,rfl⟩|ref a=>cases show u=Value.ref a from h;exact⟨rfl,rfl⟩|ty n=>cases show u=Value.type n from h;exact⟨rfl,rfl⟩
def RdD.nonE{K:Fg}{F H:Hp}{v:V}{d:D}(r:RdD K F H v d):nonV v=nonD d:=by
 rcases r with r|⟨p,k,xs,ds,rfl,_,_,rfl,_⟩;.cases r<;>rfl
 .cases k<;>rfl
section
variable{X:Cx}{O:List Nat}{a b tg:Expr}{p pos:Pos}
def Et:OpR X (compareOp .Is) λx y H Q=>y=.non/\Q (.bl<|nonV x) H:=by rintro aa s σ H x y v u Q I rx ry⟨rfl,q⟩;cases show u=Value.none from ry;obtain⟨h1,h2⟩:=Ee rx;exact PySem.wpAny_is_plain h1<|by rw[h2];exact Mt I q rfl
def QeO:OpR X (compareOp .IsNot) λx y H Q=>y=.non/\Q (.bl<|!nonV x) H:=by rintro aa s σ H x y v u Q I rx ry⟨rfl,q⟩;cases show u=Value.none from ry;obtain⟨h1,h2⟩:=Ee rx;exact PySem.wpAny_isNot_plain h1<|by rw[h2];exact Mt I q rfl
def Qce{ea:Q6}{σ:L2.St}{H:Hp}{Q:VK}(h:tD X O (QD D.isN ea) σ H Q):XQ (λx y H Q=>y=.non/\Q (.bl<|nonV x) H) (tR X O ea) (tC .non) σ H Q:=by
 obtain⟨F0,F,en,d,rs,w,k⟩:=h;obtain⟨dx,e1,e3⟩:=Qg w;refine⟨F0,F,en,dx,rs,e1,λx F1 H1 g1 r1=>⟨rfl,?_⟩⟩;have:d=.bl (nonD dx):=by cases dx<;>(obtain rfl:=Q5 e3;rfl)
 rw[r1.nonE];subst this;exact k _ F1 H1 g1<|.bl _
def Qcd{ea:Q6}{σ:L2.St}{H:Hp}{Q:VK}(h:tD X O (QD D.isNN ea) σ H Q):XQ (λx y H Q=>y=.non/\Q (.bl<|!nonV x) H) (tR X O ea) (tC .non) σ H Q:=by
 obtain⟨F0,F,en,d,rs,w,k⟩:=h;obtain⟨dx,e1,e3⟩:=Qg w;refine⟨F0,F,en,dx,rs,e1,λx F1 H1 g1 r1=>⟨rfl,?_⟩⟩;have:d=.bl (!nonD dx):=by cases dx<;>(obtain rfl:=Q5 e3;rfl)
 rw[r1.nonE];subst this;exact k _ F1 H1 g1<|.bl _
def Qbt{ea:Q6}{j p}(ha:PE X a<|tR X O ea):PT X (.Compare a [.Is] [.Constant .none j p] pos)<|tDT X O<|QD D.isN ea:=PT.imp (Ll Et ha RD<|JU _) λσ H Q h=>Qce<|Kc h
def Qbu{ea:Q6}{j p}(ha:PE X a<|tR X O ea):PT X (.Compare a [.IsNot] [.Constant .none j p] pos)<|tDT X O<|QD D.isNN ea:=PT.imp (Ll QeO ha RD<|JU _) λσ H Q h=>Qcd<|Kc h
end
structure XRd(K:Fg)(C:Addr):Prop where
 ga:W.findIn K (.ref C) "__getattribute__"=some (some<|.builtin "BaseException.__getattribute__")gn:W.findIn K (.ref C) "__getattr__"=some none
 no:W.findIn K (.ref C) "row"=some none
 ca:W.findIn K (.ref C) "__class__"=some (some<|.builtin "object.__class__")hn:W.specialIn K (.builtin "object.__class__") "__get__"=some (some<|.builtin "getset_descriptor.__get__")tk:W.takesIn K (.builtin "object.__class__")=some true
 mb:W.mroIn K C (.type "BaseException")=some true
 mo:W.mroIn K C (.type "object")=some true
 hd:W.hasDictIn K C=true
structure XR(K:Fg):Prop where
 rd:∀c,c<=6->XRd K (Jn K c)is:∀c c',c<=6->c'<=6->W.kitOne K (.ref<|Jn K c) (.ref<|Jn K c')=some (decide<|c=c')va:∀c,c<=6->W.kitOne K (.ref<|Jn K c) (.type "ValueError")=some true
 nn:∀c,c<=6->W.kitOne K (.type "NoneType") (.ref<|Jn K c)=some false
 nv:W.kitOne K (.type "NoneType") (.type "ValueError")=some false
def QbG{K:Fg}{C:Addr}{od:Option Obj}{name:Str}{a g:Value}(hh:W.hasDictIn K C=true)(ha:W.findIn K (.ref C) name=some (some a))(hg:W.specialIn K a "__get__"=some (some g))(ht:W.takesIn K a=some true):W.findObj K C od name=some (.bind g a):=by obtain⟨cd,hc,_⟩:=W.any_some hh;unfold W.findObj;rw[hc,bind_some,ha,bind_some];simp[hg,ht]
def Ig(e C:Addr)(h:Heap):Prop:=∃ox od,W.InstAt h e ox C od
def QcM{K:Fg}{e C:Addr}(R:XRd K C):W.KitX K (.ref e) (.ref C)<|Ig e C where
 ty:=by rintro _ _ _⟨_,_,I⟩;exact I.type
 it:=λ_ _ X _=>by
  obtain⟨oj,eG,_⟩:=W.any_some R.hd;unfold W.clsIn at eG;split at eG
  .rename_i c' d' om fF ho;intro A' Q' E' s' k q;unfold isType loadHead;exact wpAny_bind<|wpAny_loadPart (k _ _<|X _ _ ho)<|wpAny_pure q
  .simp at eG
 ne:=λh tp dd its n sl X mT=>by
  obtain⟨oj,eG,_⟩:=W.any_some R.hd;refine Bool.eq_false_iff.mpr λq=>?_;have e:C=tp:=Value.ref.inj<|beq_iff_eq.mp q;subst e;unfold W.clsIn at eG;split at eG
  .rename_i c' d' om fF ho;have z:=(X _ _ ho).symm.trans mT;simp at z
  .simp at eG
 ca:=λ{_ _ _ _ _ s}X⟨ox,od,I⟩k=>by obtain⟨h,g,d,t,os⟩:=s;exact Qhn X I R.mb R.mo R.ga R.gn (QbG R.hd R.ca R.hn R.tk) k
section
variable{X:Cx}{O:List Nat}{a:Expr}{p p2 pos:Pos}{ev:Q6}{x y:Str}{c:Nat}{aa:List<|Addr×Obj}{σ:L2.St}{H F:Hp}{s:Shared}
def FW{e:Addr}{n:D}(I:Inv X aa σ H s)(sm:Sm F H)(r:Rep X.K F (.ref e)<|.exc c n):Ig e (Jn X.K c) s.heap:=by cases r with|exc0 h=>obtain⟨⟨vs,t,e1,_⟩,_,_⟩:=show ObjOk X.prog X.w H s.heap e<|.ext<|Vq e (Jn X.K 0) none from I.hok e _<|sm _ _ h;exact⟨_,none,e1,rfl,rfl,trivial⟩|@exc _ dx _ _ h hx=>obtain⟨⟨vs,t,e1,_⟩,_,_⟩:=show ObjOk X.prog X.w H s.heap e<|.ext<|Vq e (Jn X.K c)<|some dx from I.hok e _<|sm _ _ h;obtain⟨mA,⟨o,es,ep,ho,_⟩,_⟩:=show ObjOk X.prog X.w H s.heap dx<|.xd _ from I.hok dx _<|sm _ _ hx;exact⟨_,some o,e1,rfl,rfl,ho⟩
noncomputable def DM(X:Cx)(y:V)(bx:Nat->Bool):List V->Hp->VK->Prop:=λxs H Q=>∃x,xs=[x,y]/\(x=.non/\Q (.bl false) H\/∃e F c n,x=.ref e/\Sm F H/\Rep X.K F (.ref e) (.exc c n)/\c<=6/\Q (.bl<|bx c) H)
def GZ{yv:V}{yu:Value}{bx:Nat->Bool}(R:XR X.K)(hy:RelV yv yu)(mM:∀u,RelV yv u->u=yu)(h1:∀c,c<=6->W.kitOne X.K (.ref<|Jn X.K c) yu=some (bx c))(h2:W.kitOne X.K (.type "NoneType") yu=some false):CallR X (.builtin "isinstance")<|DM X yv bx:=by
 intro aa s σ H xs us Q I r⟨x,hx,h⟩;subst hx;obtain⟨u,w,rfl,rx,ej⟩:=Rl r;obtain rfl:=mM w ej;rcases h with⟨rfl,q⟩|⟨e,F,c,n,rfl,sm,rp,hc,q⟩
 .cases show u=Value.none from rx;exact W.kia_one W.kitx_none I.kIn True.intro h2 (λz=>nomatch z) λtk=>⟨.bl false,H,I.tok tk,rfl,q⟩
 .cases show u=Value.ref e from rx;exact W.kia_one (QcM<|R.rd c hc) I.kIn (FW I sm rp) (h1 c hc) (λz=>nomatch z) λtk=>⟨.bl<|bx c,H,I.tok tk,rfl,q⟩
def Qfg{v:Addr}(hg:Gl X y)(hm:X.mg y=some (.ref v))(aY:XV y:=by decide):PE X (.Name y pos)<|tC<|.ref v:=λ_ _ _ H _ I h=>Se I hg hm ⟨.ref v,H,I,rfl,h⟩ aY
def Fj{g:D->Option D}{yv:V}{bx:Nat->Bool}(hn:g .non=some (.bl false))(hg:∀c n d,g (.exc c n)=some d->c<=6/\d=.bl (bx c))(ho:∀dx d,g dx=some d->dx=.non\/∃c n,dx=.exc c n){σ:L2.St}{H:Hp}{Q:VK}(h:tD X O (QD g ev) σ H Q):Kb (DM X yv bx) (Jc (tR X O ev)<|Jc (tC yv) Jm) σ H Q:=by
 obtain⟨F0,F,en,d,rs,w,k⟩:=h;obtain⟨dx,e1,e2⟩:=Qg w;refine⟨F0,F,en,dx,rs,e1,λv F1 H1 g1 r1=>⟨v,rfl,?_⟩⟩;rcases ho dx d e2 with rfl|⟨c,n,rfl⟩
 .rw[hn]at e2;obtain rfl:=Q5 e2;exact .inl ⟨r1.non,k _ F1 H1 g1<|.bl _⟩
 .obtain⟨h1,rfl⟩:=hg c n d e2;rcases r1 with r1|⟨p,kk,xs,ds,_,_,_,hd,_⟩;.cases r1 with
   |exc0 h=>exact .inr ⟨_,F1,0,.non,rfl,g1.fh,.exc0 h,h1,k _ F1 H1 g1<|.bl _⟩|exc h hx=>exact .inr ⟨_,F1,c,_,rfl,g1.fh,.exc h hx,h1,k _ F1 H1 g1<|.bl _⟩
  .cases kk<;>cases hd
def Qb8{dx d:D}(h:D.instX c dx=some d):dx=.non\/∃c n,dx=.exc c n:=by cases dx with|non=>exact .inl rfl|exc c n=>exact .inr ⟨c,n,rfl⟩|_=>cases h
def Qb7{dx d:D}(h:D.instV dx=some d):dx=.non\/∃c n,dx=.exc c n:=by cases dx with|non=>exact .inl rfl|exc c n=>exact .inr ⟨c,n,rfl⟩|_=>cases h
def Ft{q:Prop}[Decidable q]{a d:D}(h:(if q then some a else none)=some d):q/\d=a:=by
 split at h;.rename_i z;obtain rfl:=Q5 h;exact⟨z,rfl⟩
 .simp at h
def UK(R:XR X.K)(hc:c<=6)(hy:X.mg y=some (.ref<|Jn X.K c))(hg:Gl X x)(hm:X.mg x=none)(hv:bootBuiltins x=some (.builtin "isinstance"))(gJ:Gl X y)(ha:PE X a<|tR X O ev)(hn:x≠"__name__":=by decide)(aY:XV x:=by decide)(f7:XV y:=by decide)(he:starEach [a,.Name y p2] X.env=[(false,eval a X.env),(false,eval (.Name y p2) X.env)]:=by rfl)(cg:starEach [.Name y p2] X.env=[(false,eval (.Name y p2) X.env)]:=by rfl):PE X (.Call (.Name x p) [a,.Name y p2] [] pos)<|tD X O<|QD (D.instX c) ev:=PE.imp (RB (GZ (yv:=.ref<|Jn X.K c) (yu:=.ref<|Jn X.K c) (bx:=λc'=>decide<|c'=c) R rfl (λu h=>h) (λc' h=>R.is c' c h hc)<|R.nn c hc) hg hm hv (J5 ha (J5 (Qfg gJ hy f7) JL cg)<|by show _=_;rw[he,cg]) hn aY (by show _=_;rw[he,cg])<|by show _=_;rw[cg];rfl) λσ H Q h=>Fj rfl (λc' n d h=>Ft h) (λdx d h=>Qb8 h) h
def Qa7(R:XR X.K)(hg:Gl X x)(hm:X.mg x=none)(hv:bootBuiltins x=some (.builtin "isinstance"))(gJ:Gl X "ValueError")(jd:X.mg "ValueError"=none)(ha:PE X a<|tR X O ev)(hn:x≠"__name__":=by decide)(aY:XV x:=by decide)(he:starEach [a,.Name "ValueError" p2] X.env=[(false,eval a X.env),(false,eval (.Name "ValueError" p2) X.env)]:=by rfl)(cg:starEach [.Name "ValueError" p2] X.env=[(false,eval (.Name "ValueError" p2) X.env)]:=by rfl):PE X (.Call (.Name x p) [a,.Name "ValueError" p2] [] pos)<|tD X O<|QD D.instV ev:=PE.imp (RB (GZ (yv:=.ty "ValueError") (yu:=.type "ValueError") (bx:=λ_=>true) R rfl (λu h=>h) (λc' h=>R.va c' h) R.nv) hg hm hv (J5 ha (J5 (D7 gJ jd PyProof.Rows.Boot.«ValueError»<|show RelV (.ty "ValueError")<|.type "ValueError"from rfl) JL cg)<|by show _=_;rw[he,cg]) hn aY (by show _=_;rw[he,cg])<|by show _=_;rw[cg];rfl) λσ H Q h=>Fj rfl (λc' n d h=>Ft h) (λdx d h=>Qb7 h) h
end
section
variable{X:Cx}{O:List Nat}{a:Expr}{p p2 pos:Pos}{ev:Q6}
def Qa6(R:XR X.K)(ha:PE X a<|tR X O ev)(hb:attributeBase a "row" X.env (eval a X.env)=eval a X.env:=by rfl):PE X (.Attribute a "row" pos)<|tD X O<|QD D.blk ev:=by
 intro aa s σ H Q I⟨F0,F,en,d,rs,w,k⟩;obtain⟨dx,e1,e2⟩:=Qg w;obtain⟨c,hc,rfl⟩:∃c,¬(c=0\/6<c)/\dx=.exc c d:=by cases dx with
  |exc c n=>
   have e2:(if c=0\/6<c then none else some n)=some d:=e2;split at e2;.simp at e2
   .rename_i z;obtain rfl:=Q5 e2;exact⟨c,z,rfl⟩|_=>cases e2
 refine A7 hb<|Qd (ha aa s σ H (λv H1=>∃F1,Gr F H F1 H1/\Rep X.K F1 v (.exc c d)) I ⟨F0,F,en,_,rs,e1,λv F1 H1 g1 r1=>?_⟩) λu s1⟨v,H1,I1,rv,F1,g1,r1⟩=>?_
 .rcases r1 with r1|⟨p,kk,xs,ds,_,_,_,hd,_⟩;.exact⟨F1,g1,r1⟩
  .cases kk<;>cases hd
 .cases r1 with|exc0 h=>exact absurd (.inl rfl) hc|@exc e dx _ i h hx=>
   cases show u=Value.ref e from rv;have R':=R.rd c (by omega);obtain⟨⟨vs,t,q1,_⟩,_,_⟩:=show ObjOk X.prog X.w H1 s1.heap e<|.ext<|Vq e (Jn X.K c)<|some dx from I1.hok e _<|g1.fh _ _ h;obtain⟨mA,dH,hl⟩:=show ObjOk X.prog X.w H1 s1.heap dx<|.xd [("row",.int i)]from I1.hok dx _<|g1.fh _ _ hx;obtain⟨od,ho,nh⟩:=EH dH;obtain⟨u,hu,ru⟩:=RelO.some_of (v:=.int i) (o:=mA "row")<|hl "row";obtain⟨hh,g,d',tk,os⟩:=s1;exact Qhq (od:=some od) I1.kIn ⟨q1,rfl,rfl,ho⟩ R'.mb R'.ga R'.gn (W.findObj_own R'.hd R'.no rfl<|by rw[nh,hu]) (QbQ ru) ⟨.int i,H1,I1.tok _,ru,k _ F1 H1 g1<|.int i⟩
end
section
variable{M:Model}{A:Around}{E:Value->Shared->Prop}{s:Shared}
def Qc9{oT:Obj}{ts:Array Value}(hd:oT.data=.fields ts)(h3:ts[3]?=some .none):Obj.mapFields (·.setIfInBounds 3 Value.none) oT=oT:=by
 rw[EN hd];obtain⟨c,d,dt,sl⟩:=oT;dsimp only at hd;subst hd;congr 2;apply Array.ext_getElem?;intro i;rw[Ln];split
 .rename_i z;subst z;obtain⟨d7,h⟩:=q_71.mp h3;rw[if_pos d7,h3]
 .rfl
def BF{h:Heap}{T:Addr}{oT:Obj}{ts:Array Value}(hT:h.get? T=some oT)(hd:oT.data=.fields ts)(h3:ts[3]?=some .none)(b:Addr):(h.update T (Obj.mapFields (·.setIfInBounds 3 Value.none))).get? b=h.get? b:=by
 by_cases z:b=T;.subst z;rw[Heap.get?_update_self (Obj.mapFields (·.setIfInBounds 3 Value.none)) hT<|Obj.isFreed_of_fields<|Obj.data_mapFields hd _,hT,Qc9 hd h3]
 .exact Heap.get?_update_other _ _<|Ne.symm z
def Qe9{ae:Heap}{env:Env}{af:List Env}{L ea:Addr}{s₀:Heap}{H:Hp}{Q:Unit->Shared->Prop}(dQ:A.frames=some (env::af))(hl:s.heap.FunFrames ae<|env::af)(hf:env.frame=some L)(hs:s₀.objs.size<=s.heap.objs.size)(hH:∀a,s.heap.objs.size<=a->H a=none)(fly:Fly s₀ H ea s.heap)(h:∀h',Passed s₀ H (ZG<|env::af) [] ea s.heap h'->Q () {s with heap:=h'}):wpAny M A (noteFrame (.ref ea) env) (λ_ s'=>wpAny M A (setFlight (.ref ea) none) Q E s') E s:=by
 obtain⟨h0,oe,vs,he,hd,cW,h1|⟨T,oT,ts,h1,jw,jx,eJ,hT,dI,h3⟩⟩:=fly;.unfold noteFrame;simp only[hf];refine wpAny_bind<|wpAny_field he hd h1 ?_;rw[if_neg<|by decide];exact Ot dQ hl hf he hd cW h0 hs hH λh' p=>h h' p
 .unfold noteFrame;simp only[hf];refine wpAny_bind<|wpAny_field he hd h1 ?_;rw[if_pos<|show(Value.ref T !=Value.none)=true from by simp];refine wpAny_bind<|wpAny_field hT dI h3 ?_;rw[if_neg<|show¬(Value.none==rawInt L)=true from by simp[rawInt]];refine wpAny_bind<|wpAny_setField hT dI (q_71.mp h3).1 ?_;have all:∀b,(s.heap.update T (Obj.mapFields (·.setIfInBounds 3 Value.none))).get? b=s.heap.get? b:=λb=>BF hT dI h3 b;have eO:(s.heap.update T (Obj.mapFields (·.setIfInBounds 3 Value.none))).objs.size=s.heap.objs.size:=Heap.size_update ..;refine Ot (ae:=ae) dQ (hl.of_keeps λb o hb cP=>⟨o,(all b).trans hb,rfl⟩) hf ((all ea).trans he) hd cW h0 (by show s₀.objs.size<=(s.heap.update T _).objs.size;rw[eO];exact hs) (λa ha=>hH a (by have:(s.heap.update T (Obj.mapFields (·.setIfInBounds 3 Value.none))).objs.size<=a:=ha;omega)) λh' p=>h h' ?_;exact⟨λb o hb cZ cO hc=>p.keep b o ((all b).trans hb) cZ cO hc,λb o hb cZ=>p.slot b o ((all b).trans hb) cZ,λiu bZ eX cY=>p.ex iu bZ ((all ea).trans eX) cY,(λ_ z=>nomatch z),(λ_ z=>nomatch z),p.fly⟩
def QbJ{ea:Addr}{s₀:Heap}{H:Hp}{Q:Unit->Shared->Prop}(fly:Fly s₀ H ea s.heap)(h:∀h',(∀b,h'.get? b=s.heap.get? b)->Q () {s with heap:=h'}):wpAny M A (setFlight (.ref ea) none) Q E s:=by
 obtain⟨h0,oe,vs,he,hd,cW,h1|⟨T,oT,ts,h1,jw,jx,eJ,hT,dI,h3⟩⟩:=fly
 .unfold setFlight;refine wpAny_bind<|wpAny_field he hd h1 ?_;rw[if_neg<|by decide];exact wpAny_pure<|h s.heap λ_=>rfl
 .unfold setFlight;refine wpAny_bind<|wpAny_field he hd h1 ?_;rw[if_pos<|show(Value.ref T !=Value.none)=true from by simp];exact wpAny_setField hT dI (q_71.mp h3).1<|h _ λb=>BF hT dI h3 b
end
def PX(X:Cx)(st:Stmt)(O:List Nat)(b:QJ):Prop:=∀(aa:List<|Addr×Obj)(s:Shared)(σ:L2.St)(H:Hp)(F0:Fz)(F:Hp)(en:Q8)(fl:Fl),Inv X aa σ H s->RS X.K X.H₀ F0 F H σ en O->b en=some fl->wpAny (model X.prog X.w) X.A (exec st X.env) (λf s'=>f=.next/\fl=.nx en/\∃F' H',Sm F F'/\Inv X aa σ H' s'/\RS X.K X.H₀ F0 F' H' σ en O) (λv s'=>∃c n ea F' H',fl=.rz c n/\v=.ref ea/\Sm F F'/\Inv X aa σ H' s'/\RS X.K X.H₀ F0 F' H' σ en O/\Rep X.K F' (.ref ea) (.exc c n)/\Fly X.s₀.heap H' ea s'.heap) s
section
variable{X:Cx}{O OL:List Nat}{w:Bool}{e a:Expr}{es:List Expr}{p pos ax:Pos}{x y:Str}{ps:List Str}{k:Nat}
def QfI{f:List D->Option Rs}{l:ZK}(c:NU X.prog X.w X.K X.mg X.ae k x ps<|N8 X.K f)(hr:Room k X.A)(hg:Gl X x)(ha:∀E,PA (X.wish E) (e::es)<|tL (X.wish E) O l)(aY:XV x:=by decide)(he:Wp X e es:=by rfl)(aQ:WF X ax es:=by rfl)(dO:swapsWith (.Call (.Name x p) (e::es) [] ax) none pos.line X.env=pure false:=by rfl):PX X (.Expr (.Call (.Name x p) (e::es) [] ax) pos) O<|RU f l:=by
 intro aa s σ H F0 F en fl I rs z;obtain⟨ds,e1,z1⟩:=Qg z;obtain⟨r,e2,rfl⟩:=Z0 z1;obtain⟨fa,fd,Fk,hb,hk,hm⟩:=c;refine wpAny_Expr_any (wpAny_Call_Name_kw<|Se I hg hm ?_ aY) I.quiet dO;refine W.callWith_K (h₀:=X.ae) I.ok.mod.kin hk (wpAny_mono (ha (λ_ _=>False) ax aa s σ H (λvs H1=>∃F1,Gr F H F1 H1/\Reps X.K F1 vs ds) (I.wish _) ⟨F0,F,en,ds,rs,e1,λvs F1 H1 g1 r1=>⟨F1,g1,r1⟩⟩) (λus s1⟨vs,H1,I1,rv,F1,g1,r1⟩=>⟨I1.unwish.kIn,?_⟩) λ_ _ z=>z.elim) he aQ;have I2:=I1.unwish;have r2:Vals (vs++[])<|us++[]:=rv.append .nil;have spec:N8 X.K f (vs++[]) H1 (λv H'=>∃d F',r=.inl d/\Gr F1 H1 F' H') λv _ H'=>∃ea c n F',v=.ref ea/\r=.inr (c,n)/\Gr F1 H1 F' H'/\Rep X.K F' (.ref ea) (.exc c n):=by refine⟨F1,ds,r,g1.fh,(Yv vs).symm▸r1,e2,?_⟩;cases r with|inl d=>exact λv F' H' g _=>⟨d,F',rfl,g⟩|inr cn=>exact λea F' H' g rx=>⟨ea,cn.1,cn.2,F',rfl,rfl,g,rx⟩
 have hl:(us++[]).length=ps.length:=by rw[<-r2.length];exact Fk.len _ _ _ _ spec
 refine wpAny_call<|codeAny_mono (Fk.run X.A X.stack s1 H1 ⟨us,[]⟩ (us++[]) (vs++[]) _ _ hr I2.env0 (hb s1 us I2.kIn hl) r2 spec) λrr s' hq=>?_;cases rr with
 |error v=>obtain⟨ea,H',he,fK,nG,un,hok,fly,lj,c,n,F',hv,rfl,g,rx⟩:=hq;cases hv;exact⟨c,n,ea,F',H',rfl,he,g1.ff.trans g.ff,I2.call' fK un hok nG λb z=>absurd z<|by simp,rs.grow<|g1.trans g,rx,fly.mono I2.sz⟩|ok fl=>cases fl with|ret u=>obtain⟨v,H',I3,rv',d,F',rfl,g⟩:=I2.after hq;exact⟨rfl,rfl,F',H',g1.ff.trans g.ff,I3,rs.grow<|g1.trans g⟩|next=>exact False.elim hq|brk=>exact False.elim hq|cont=>exact False.elim hq
end
end Wd
namespace PySem
open Sem(wp)
section
variable{M:Model}{A:Around}{E:Value->Shared->Prop}
def Qhs{h:Heap}{g:Array GenState}{d:Drawn}{t:Nat}{os:OsState}{e:Addr}{oe:Obj}{Q:Bool->Shared->Prop}{nm q mz q':Str}{C N CB NB:Addr}{bs bm bs' jG:List Value}{hdct hZ:Bool}{sn lT:List Str}{sub jK:List Value}{ab oy:Bool}{col kc:Option Bool}{dd oi:Option Addr}{k0 k1 k2 k3 k5 mH mG iZ mF mE:Option Value}{newId gb:String}(hC:h.get? C=some (excClassObj nm q C N bs bm hdct sn sub ab col dd k0 k1 k2 k3 k5 newId))(hB:h.get? CB=some (excClassObj mz q' CB NB bs' jG hZ lT jK oy kc oi mH mG iZ mF mE gb))(he:h.get? e=some oe)(dW:oe.cls=.ref C)(az:jG.contains (.type "BaseException")=true)(ef:bm.contains (.ref CB)=true)(hq:Q true ⟨h,g,d,t,os⟩):wpAny M A (excMatches (.ref e)<|.ref CB) Q E ⟨h,g,d,t,os⟩:=by
 have ju:(Value.ref CB::jG).contains (.type "BaseException")=true:=by rw[List.contains_cons,az,Bool.or_true]
 have jt:(Value.ref C::bm).contains (.ref CB)=true:=by rw[List.contains_cons,ef,Bool.or_true]
 have f:=tc_notTuple;unfold excMatches;repeat(first|(with_reducible refine wpAny_loadPart_at he ?_;rw[dW])|with_reducible refine wpAny_loadPart_at hB ?_|with_reducible refine wpAny_loadPart_at hC ?_|(with_reducible refine wpAny_isSubtype_exc hB ?_;rw[ju])|(with_reducible refine wpAny_isSubtype_exc hC ?_;rw[jt])|wp_step)
 exact hq
end
end PySem
namespace Wd
open PySem PySem.Spec PyProof.Rows L2
def RS.del{K:Fg}{H₀:Hp}{F0:Fz}{F H:Hp}{σ:L2.St}{en:Q8}{O:List Nat}{i:Nat}(r:RS K H₀ F0 F H σ en O)(hi:i<en.length)(hq:J1 i∉O):RS K H₀ F0 F H (σ.set i none) (en.set i none)<|dl i O where
 fh:=r.fh
 hh:=r.hh
 ff:=r.ff
 fr:=r.fr
 slot:=λj d' e1 hj=>by
  rw[ZD hi]at e1;rw[ZD<|by rw[r.len];exact hi];split at e1;.simp at e1
  .rename_i z;rw[if_neg z];exact r.slot j d' e1 λq=>hj<|mem_dl.mpr ⟨q,λw=>z w.symm⟩
 own:=λj d' e1 hj=>by
  obtain⟨h1,h2⟩:=mem_dl.mp hj;rw[ZD hi,if_neg<|Ne.symm h2]at e1;rw[ZD<|by rw[r.len];exact hi,if_neg<|Ne.symm h2];exact r.own j d' e1 h1
 dis:=λj k p d1 d2 hj hk f1 f2 e1 e2=>by
  obtain⟨h1,h2⟩:=mem_dl.mp hj;obtain⟨h3,h4⟩:=mem_dl.mp hk;rw[ZD<|by rw[r.len];exact hi,if_neg<|Ne.symm h2]at e1;rw[ZD<|by rw[r.len];exact hi,if_neg<|Ne.symm h4]at e2;rw[ZD hi,if_neg<|Ne.symm h2]at f1;rw[ZD hi,if_neg<|Ne.symm h4]at f2;exact r.dis j k p d1 d2 h1 h3 f1 f2 e1 e2
 pin:=λj hj=>by
  obtain⟨h1,_⟩:=mem_dl.mp hj;obtain⟨p,e1,e2⟩:=r.pin j h1;refine⟨p,e1,?_⟩;rw[Wb λz:i=j=>hq<|by rw[z];exact h1];exact e2
 len:=by rw[Z2,Z2];exact r.len
section
variable{X:Cx}{aa:List<|Addr×Obj}{σ:L2.St}{H:Hp}{s:Shared}
def Qg9{M:Model}{A:Around}{E:Value->Shared->Prop}{i:Nat}{x:Str}{v:V}{Q:Unit->Shared->Prop}(I:Inv X aa σ H s)(hN:X.N.Nodup)(hi:X.N[i]?=some x)(hk:X.env.scope.names.lookup x=some .local)(hv:σ[i]?=some (some v))(h:∀s',Inv X aa (σ.set i none) H s'->Q () s'):wpAny M A (unbindName X.env x) Q E s:=by
 obtain⟨m,hn,hl⟩:=id I.loc;have dW:(X.env.scope.kind==.class||X.env.scope.kind==.module&&X.env.locals !=X.env.globals)=false:=by rw[I.ok.kind];rfl
 have eQ:i<σ.length:=by rw[I.len];exact(q_33.mp hi).1
 have cne:=I.cne;have jh:X.env.kindOf x=some .local:=hk;obtain⟨u,_,lk⟩:=hl i x v hi hv<|.inl hk;have jb:m x=some u:=by
  rcases lk with⟨_,z⟩|⟨z|z,_⟩;.exact z
  .rw[jh]at z;simp at z
  .rw[jh]at z;simp at z
 have tracked:∀{a:Addr}{h':Heap},(∃o,s.heap.get? a=some o/\H a=none)->Heap.SameBut a s.heap h'->HOk X.prog X.w H h':=λ{a h'}ha hs b ob e=>by
  obtain⟨_,_,cQ⟩:=ha;refine(I.hok b ob e).stay (λc w' hc q=>(hs.2 c ?_).trans q) (λ_ q=>q) λ_ _ q=>q;rintro rfl;rcases hc with rfl|hc;.rw[cQ]at e;simp at e
  .rw[cQ]at hc;simp at hc
 refine wpAny_unbindName_local jh hn jb dW λh' u' eF hs=>?_;obtain⟨oL,_,_,i8,_⟩:=id hn;refine h _ ⟨I.ok,I.os,I.bare,⟨λb o e n hb hx=>?_,λb o e n hb hx=>?_,I.ae.free,λb o e hx=>?_,I.ae.tups,I.ae.frzs,I.ae.tbls⟩,⟨_,eF,λj y v' e1 e2 e3=>?_⟩,λy c e=>?_,I.free,I.freeC,λp hp=>?_,tracked ⟨oL,i8,I.free⟩ hs,by rw[Z2];exact I.len⟩;.exact(hs.2 b<|Z5<|ZW (Heap.lt_size e) I.ok.above).trans<|I.ae.keep b o e n hb hx
 .obtain⟨sl,e1⟩:=I.ae.slot b o e n hb hx;exact⟨sl,(hs.2 b<|Z5<|ZW (Heap.lt_size e) I.ok.above).trans e1⟩
 .obtain⟨o',e1⟩:=I.ae.there b o e hx;exact⟨o',(hs.2 b<|Z5<|ZW (Heap.lt_size e) I.ok.above).trans e1⟩
 .by_cases hj:j=i
  .subst hj;rw[RG eQ]at e2;simp at e2
  .rw[Wb<|Ne.symm hj]at e2;obtain⟨u',r',q⟩:=hl j y v' e1 e2 e3;refine⟨u',r',?_⟩;rcases q with⟨k,e⟩|⟨k,c,e,z⟩
   .refine .inl ⟨k,?_⟩;have:y≠x:=λe=>hj<|LS hN e1<|e▸hi;simp[this,e]
   .exact .inr ⟨k,c,e,z.sameBut hs<|cne y c e⟩
 .obtain⟨w',z⟩:=I.cell y c e;exact⟨w',z.sameBut hs<|cne y c e⟩
 .obtain⟨e,n,ne,nf,d⟩:=I.pin p hp;exact⟨(hs.2 p.1 ne).trans e,n,ne,nf,d⟩
end
structure XT(K:Fg)(mg:Str->Option Value)(xB:Str):Prop where ex:∃CB,mg xB=some (.ref CB)/\(∃nm q N bs sn sub ab col dd k0 k1 k2 k3 k5,K.lookup CB=some (excClassObj nm q CB N bs Yd true sn sub ab col dd k0 k1 k2 k3 k5 "ValueError.__new__"))/\∀c,c<=6->∃cD,XCl K (Jn K c) CB cD
section
variable{X:Cx}{O OL:List Nat}{w:Bool}{st:Stmt}{b:QJ}{xB y n:Str}{np p1 p2 p3 hp pos:Pos}
def Qbq(i j:Nat)(hN:X.N.Nodup)(T:XT X.K X.mg xB)(hg:Gl X xB)(hb:PX X st O b)(hi:X.N[i]?=some y:=by rfl)(hj:X.N[j]?=some n:=by rfl)(fM:i≠j:=by decide)(hy:X.env.scope.names.lookup y=some .local:=by rfl)(hn:X.env.scope.names.lookup n=some .local:=by rfl)(nA:dl i O=O:=by rfl)(nu:dl j O=O:=by rfl)(gj:J1 i∉O:=by decide)(nj:J1 j∉O:=by decide)(bG:X.stack=X.env::X.af:=by rfl)(dQ:X.env.frame=some X.env.locals:=by rfl)(aY:XV xB:=by decide)(hd:XV n:=by decide)(bE:(n==("__classdict__":Str))=false:=by decide)(hs:swapsWith (.Name n p2) (some<|.Name y p1) p3.line X.env=pure false:=by rfl):PS X (.Try [st] [.ExceptHandler (some<|.Name xB np) (some n) [.Assign [.Name y p1] (.Name n p2) p3] hp] [] [] pos)<|tS X O O OL w<|Oz i j b:=by
 intro aa s σ H Dn I⟨F0,F,en,fl,rs,z,k⟩;have z':BB i j en (b en)=some fl:=z;cases q:b en with
 |none=>rw[q]at z';cases z'|some f1=>
  rw[q]at z';refine wpAny_Try_except<|wpAny_execs_cons<|wpAny_mono (hb aa s σ H F0 F en f1 I rs q) (λf s1 zz=>?_) λv s1 zz=>?_
  .obtain⟨h1,h2,F',H',sm,I1,r1⟩:=zz;subst h1;subst h2;obtain rfl:=Q5 z';exact wpAny_execs_nil<|wpAny_execs_nil ⟨σ,H',I1,k σ F' H' sm r1⟩
  .obtain⟨c,nn,ea,F',H',hf,hv,sm,I1,bq,rp,fly⟩:=zz;subst hf;subst hv;obtain⟨hc,nB⟩:c<=6/\fl=.nx ((en.set i<|some<|.exc c nn).set j none):=by
    have z':(if c<=6 then some<|Fl.nx<|(en.set i<|some<|.exc c nn).set j none else none)=some fl:=z';split at z';.rename_i hc;obtain rfl:=Q5 z';exact⟨hc,rfl⟩
    .simp at z'
   subst nB;obtain⟨C,dx,nN⟩:=rp.exF;have nL:=bq.fh _ _ nN;refine Qe9 (ae:=X.ae) (af:=X.af) (s₀:=X.s₀.heap) (H:=H') (by rw[I1.ok.frames,bG]) (by rw[<-bG];exact I1.stack) dQ I1.sz (λa ha=>I1.hok.fresh ha) fly λh' p=>?_;rw[<-bG]at p;have I2:Inv X aa σ H' {s1 with heap:=h'}:=I1.call' (s':={s1 with heap:=h'}) (ch:=[]) rfl ⟨λb o q n hb _=>p.keep b o q hb (λz=>by rw[z,nL]at n;simp at n) (λz=>nomatch z),λb o q n hb _=>p.slot b o q hb,λb o q n _=>n,λb o q _=>?_,λ_ _ q=>q,λ_ _ _ q=>q,λ_ ps q=>⟨#[],by rw[q];simp⟩⟩ (p.hok I1 bq.fh rp) I1.bare λb z=>nomatch z
   .obtain⟨CB,ng,⟨nm,q',N,bs,sn,sub,ab,col,dd,k0,k1,k2,k3,k5,hB⟩,cT⟩:=T.ex;obtain⟨cD,cl⟩:=cT c hc;obtain⟨nm2,q2,N2,lF,sn2,oE,ab2,oJ,jF,k02,gA,k22,k32,k52,hC,_⟩:=cl.obj;have hE:∃ox,h'.get? ea=some ox/\ox.cls=.ref (Jn X.K c):=by obtain⟨ox,od,J⟩:=FW I2 bq.fh rp;exact⟨ox,J.at_,J.cls⟩
    obtain⟨ox,mV,iE⟩:=hE;refine wpAny_handleBy_cons (codeAny_handlers_test<|Calls.Name_function_global I2.ok.kind hg (Calls.loadGlobal_global (by rw[I2.ok.glob];exact I2.mod.glob.keeps I2.bk) ng ?_) aY) (by intro q;cases q);refine Qhs (I2.kIn _ _ hC) (I2.kIn _ _ hB) mV iE rfl (by simp)<|codeAny_handlers_suite_as ?_;refine QbJ p.fly λh2 f9=>?_;have I3:Inv X aa σ H' {s1 with heap:=h2}:=I2.kept (t':=s1.toks) λb u q=>(f9 b).trans q;refine Ri (u:=.ref ea) (v:=.ref ea) I3 hN hj (.inl hn) rfl (λs3 I4=>?_)<|.inr hn;have jj:j<σ.length:=by rw[I.len];exact(q_33.mp hj).1
    have gH:i<σ.length:=by rw[I.len];exact(q_33.mp hi).1
    refine wpAny_execs_cons<|wpAny_Assign_Name ?_ hs;obtain⟨m,dH,hl⟩:=id I4.loc;obtain⟨u,ru,lk⟩:=hl j n (.ref ea) hj (RG jj)<|.inl hn;cases show u=Value.ref ea from ru;have jg:X.env.kindOf n=some .local:=hn;have jb:m n=some (.ref ea):=by
     rcases lk with⟨_,z⟩|⟨z|z,_⟩;.exact z
     .rw[jg]at z;simp at z
     .rw[jg]at z;simp at z
    refine wpAny_Name (wpAny_loadName_local I4.ok.kind jg dH jb ?_) hd;refine Ri (u:=.ref ea) (v:=.ref ea) I4 hN hi (.inl hy) rfl (λs4 I5=>?_)<|.inr hy;refine wpAny_execs_nil ?_;refine wpAny_bind<|wpAny_bindName<|Ri (u:=.none) (v:=.non) I5 hN hj (.inl hn) rfl (λs5 I6=>?_)<|.inr hn;unfold unbindBehindTheSuite;refine wpAny_onRaise<|Qg9 I6 hN hj hn (v:=.non) (RG<|by rw[Z2,Z2];exact jj) λs6 I7=>?_;have hσ:(((σ.set j<|some<|.ref ea).set i<|some<|.ref ea).set j<|some V.non).set j none=(σ.set i<|some<|.ref ea).set j none:=by rw[set_set,List.set_comm _ _<|Ne.symm fM,set_set]
    rw[hσ]at I7;have kO:en.length=σ.length:=rs.len.symm;have R1:=bq.put (i:=i) rp (by rw[kO];exact gH) gj;rw[nA]at R1;have R2:=R1.del (i:=j) (by rw[Z2,kO];exact jj) nj;rw[nu]at R2;exact⟨_,H',I7,k _ F' H' sm R2⟩
   .by_cases cO:b=ea
    .subst cO;obtain⟨_,oe,vs,e1,e2,_⟩:=fly;obtain⟨bZ,e3,_⟩:=p.ex oe vs e1 e2;exact⟨_,e3⟩
    .by_cases cZ:b∈ZG X.stack
     .obtain⟨sl,e3⟩:=p.slot b o q cZ;exact⟨_,e3⟩
     .exact⟨o,p.keep b o q cZ cO λz=>nomatch z⟩
end
def Ag{dx dy d:D}(h:D.cat dx dy=some d):∃xs ys,dx=.lst xs/\dy=.lst ys/\xs.length+ys.length<=Qz/\d=.lst (xs++ys):=by cases dx with
 |lst xs=>cases dy with
  |lst ys=>
   replace h:(if xs.length+ys.length<=Qz then some<|D.lst<|xs++ys else none)=some d:=h;split at h;.exact⟨xs,ys,rfl,rfl,‹_›,(Q5 h).symm⟩
   .contradiction|_=>contradiction
 |_=>contradiction
section
variable{X:Cx}{O:List Nat}{a b:Expr}{pos:Pos}{ea eb:Q6}
def Gs(ha:PE X a<|tR X O ea)(hb:PE X b<|tR X O eb):PE X (.BinOp a .Add b pos)<|tO X O<|Q4 D.cat ea eb:=PE.imp (D9 Er ha hb)<|by rintro σ H Q⟨F0,F,en,d,rs,w,k⟩;obtain⟨dx,dy,e1,e2,e3⟩:=Wq w;refine⟨F0,F,en,dx,rs,e1,λx F1 H1 g1 r1=>?_⟩;refine⟨F0,F1,en,dy,rs.grow g1,e2,λy F2 H2 g2 r2=>?_⟩;have s:=g2.fh;have me:=r1.gr g2;obtain⟨xs,ys,rfl,rfl,hz,rfl⟩:=Ag e3;obtain⟨p,us,rfl,h1,q1⟩:=me.lst s;obtain⟨q,ws,rfl,h2,q2⟩:=r2.lst s;refine⟨p,q,us,ws,rfl,rfl,h1,h2,by rw[YL,q1.length,q2.length];exact hz,λl hl=>?_⟩;exact k l none (us++ws) (xs++ys) F2 _ ((g1.trans g2).trans<|Gr.newO s hl<|.lst<|us++ws) ((g1.trans g2).hh.none hl) (s.none hl) Qu (q1.append q2) rfl trivial
end
structure XDf(K:Fg)(mg:Str->Option Value)(x qual:Str)(c:Nat)(st:Stmt)(C CB f:Addr)(fd:FuncData):Prop where
 cl:XCl K C CB<|some (.ref f)xb:XB K CB
 fn:W.isFn K (.ref f)=true
 bd:Binds K fd ["self","row"] []fu:Fun K "__init__" qual st f fd
 mx:mg x=some (.ref C)mb:mg "BookError"=some (.ref CB)xc:Jn K c=C
def XDf.mk'{P:Program}{w:World}{K:Fg}{mg:Str->Option Value}{ae:Heap}{x qual:Str}{c:Nat}{st s1 s2:Stmt}(h:∃C CB f fd,XDf K mg x qual c st C CB f fd)(S:FnScope ["self","row"] ["self","row"]<|QN st)(hd:Ju st=[s1,s2])(hb:∀(C CB f:Addr)(fd:FuncData),XDf K mg x qual c st C CB f fd->∀(ah:Value)(A:Around)(af:List Env)(s:Shared)(H:Hp)(E:XK),PS (JK J9 P w K mg ae ["self","row"] qual (QN st) f ah A af s H E).nox s1 (B1 C)/\PS (JK J9 P w K mg ae ["self","row"] qual (QN st) f ah A af s H E).nox s2 (B2 C)):Rv P w K mg ae 1 x c:=by obtain⟨C,CB,f,fd,z⟩:=h;exact⟨C,CB,f,fd,z.cl,z.fn,z.bd,LZ (k:=0) z.fu S hd<|hb C CB f fd z,z.mx,z.xc⟩
noncomputable def M5:Data->Option ClassData|.cls c=>some c|_=>none
def NL(K:Fg)(C:Addr)(bm:List Value)(cD:Option Value):Bool:=match K.lookup C with|some o=>(match M5 o.data with|some cd=>o.cls==.type "type"&&cd.mro==.ref C::bm&&o.slots==#[o.slots.getD 0 none,o.slots.getD 1 none,o.slots.getD 2 none,o.slots.getD 3 none,some<|.builtin "ValueError.__new__",o.slots.getD 5 none]&&!cd.hasDel&&cd.hasDict&&W.nsOkIn K cd.ns&&W.nsIn K cd.ns "__init__"==some cD|none=>false)|none=>false
def Ao{d:Data}{c:ClassData}(h:M5 d=some c):d=.cls c:=by cases d with|cls x=>obtain rfl:=Q5 h;rfl|_=>contradiction
def BO{K:Fg}{C:Addr}{bm:List Value}{cD:Option Value}(q:NL K C bm cD=true):∃nm q N bs sn sub ab col dd k0 k1 k2 k3 k5,K.lookup C=some (excClassObj nm q C N bs bm true sn sub ab col dd k0 k1 k2 k3 k5 "ValueError.__new__")/\W.nsOkIn K N=true/\W.nsIn K N "__init__"=some cD:=by unfold NL at q;cases ho:K.lookup C with|none=>rw[ho]at q;cases q|some o=>rw[ho]at q;obtain⟨cls,dd,data,sl⟩:=o;cases hc:M5 data with|some cd=>obtain rfl:=Ao hc;replace q:(cls==.type "type"&&cd.mro==.ref C::bm&&sl==#[sl.getD 0 none,sl.getD 1 none,sl.getD 2 none,sl.getD 3 none,some<|.builtin "ValueError.__new__",sl.getD 5 none]&&!cd.hasDel&&cd.hasDict&&W.nsOkIn K cd.ns&&W.nsIn K cd.ns "__init__"==some cD)=true:=q;simp only[Ja,beq_iff_eq,Bool.not_eq_true']at q;obtain⟨⟨⟨⟨⟨⟨h1,h2⟩,h3⟩,h5⟩,h6⟩,h7⟩,h8⟩:=q;obtain⟨nm,bs,mro,ns,qn,cY,sn,sub,ab,col,del⟩:=cd;dsimp only at h1 h2 h5 h6 h7 h8;subst h1 h2 h5 h6;exact⟨nm,qn,ns,bs,sn,sub,ab,col,dd,_,_,_,_,_,congrArg (λs=>some (⟨_,dd,_,s⟩:Obj)) h3,h7,h8⟩|none=>simp[hc]at q
def NK(K:Fg)(C CB:Addr)(cD:Option Value):Bool:=NL K C (.ref CB::Yd) cD&&W.tailIn K Yd (.ref CB::Yd)&&W.findIn K (.ref C) "__setattr__"==some (some<|.builtin "object.__setattr__")&&W.takerIn K C "row"==some none&&W.findIn K (.ref C) "__getattribute__"==some (some<|.builtin "BaseException.__getattribute__")&&W.findIn K (.ref C) "__getattr__"==some none&&W.findIn K (.ref C) "row"==some none&&W.keepIn K (.ref C)
def BN{K:Fg}{C CB:Addr}{cD:Option Value}(h:NK K C CB cD=true):XCl K C CB cD:=by unfold NK at h;simp only[Ja,beq_iff_eq]at h;obtain⟨⟨⟨⟨⟨⟨⟨a,b⟩,c⟩,d⟩,e⟩,f⟩,g⟩,i⟩:=h;exact⟨BO a,b,c,d,e,f,g,i⟩
noncomputable def Kk(K:Fg)(CB:Addr):Bool:=W.readsIn K CB (.type "type")&&W.specialIn K (.ref CB) "__getattribute__"==some (some<|.builtin "type.__getattribute__")&&match W.findCls K (.ref CB) (.type "type") "__init__"with|some (.val (.builtin n))=>n=="ValueError.__init__"|_=>false
def Qhx{K:Fg}{CB:Addr}(h:Kk K CB=true):XB K CB:=by
 unfold Kk at h;simp only[Ja,beq_iff_eq]at h;obtain⟨⟨a,b⟩,c⟩:=h;refine⟨a,b,?_⟩;split at c;.rename_i n q;rw[q,beq_iff_eq.mp c]
 .simp at c
noncomputable def Kl(K:Fg)(C:Addr):Bool:=W.findIn K (.ref C) "__getattribute__"==some (some<|.builtin "BaseException.__getattribute__")&&W.findIn K (.ref C) "__getattr__"==some none&&W.findIn K (.ref C) "row"==some none&&W.findIn K (.ref C) "__class__"==some (some<|.builtin "object.__class__")&&W.specialIn K (.builtin "object.__class__") "__get__"==some (some<|.builtin "getset_descriptor.__get__")&&W.takesIn K (.builtin "object.__class__")==some true&&W.mroIn K C (.type "BaseException")==some true&&W.mroIn K C (.type "object")==some true&&W.hasDictIn K C
def Qhz{K:Fg}{C:Addr}(h:Kl K C=true):XRd K C:=by unfold Kl at h;simp only[Ja,beq_iff_eq]at h;obtain⟨⟨⟨⟨⟨⟨⟨⟨a,b⟩,c⟩,d⟩,e⟩,f⟩,g⟩,i⟩,j⟩:=h;exact⟨a,b,c,d,e,f,g,i,j⟩
def BP(K:Fg):Bool:=W.kitOne K (.type "NoneType") (.type "ValueError")==some false&&(List.range 7).all λc=>Kl K (Jn K c)&&W.kitOne K (.ref<|Jn K c) (.type "ValueError")==some true&&W.kitOne K (.type "NoneType") (.ref<|Jn K c)==some false&&(List.range 7).all λc'=>W.kitOne K (.ref<|Jn K c) (.ref<|Jn K c')==some (decide<|c=c')
def xr_of{K:Fg}(h:BP K=true):XR K:=by unfold BP at h;rw[Ja,q_24]at h;obtain⟨h0,h⟩:=h;have g:∀c,c<=6->_:=λc hc=>h c<|List.mem_range.mpr (by omega);simp only[Ja,beq_iff_eq,q_24]at g;exact⟨λc hc=>Qhz (g c hc).1.1.1,λc c' hc fP=>(g c hc).2 c'<|List.mem_range.mpr<|by omega,λc hc=>(g c hc).1.1.2,λc hc=>(g c hc).1.2,beq_iff_eq.mp h0⟩
noncomputable def Qb4(K:Fg)(C:Addr):Option Value:=((W.clsIn K C).bind λcd=>W.nsIn K cd.ns "__init__").join
def BQ(K:Fg)(CB:Addr):Bool:=NL K CB Yd none&&(List.range 7).all λc=>NK K (Jn K c) CB<|Qb4 K<|Jn K c
def xt_of{K:Fg}{mg:Str->Option Value}{CB:Addr}{xB:Str}(hm:mg xB=some (.ref CB))(h:BQ K CB=true):XT K mg xB:=by unfold BQ at h;rw[Ja,q_24]at h;obtain⟨h0,h⟩:=h;obtain⟨nm,q,N,bs,sn,sub,ab,col,dd,k0,k1,k2,k3,k5,hC,_⟩:=BO h0;exact⟨CB,hm,⟨nm,q,N,bs,sn,sub,ab,col,dd,k0,k1,k2,k3,k5,hC⟩,λc hc=>⟨_,BN<|h c<|List.mem_range.mpr<|by omega⟩⟩
def XDf.of{K:Fg}{mg:Str->Option Value}{h:Heap}{x qual:Str}{c:Nat}{st:Stmt}{C CB f:Addr}{oc kV dc pm cd ct:Value}{od an:Option Addr}{osl:Array<|Option Value}(X:K.In h)(G:h.Ns mainGlobals mg)(hb:∀us:List Value,us.length=2->bindArgs (W.fnOf "__init__" qual (YS st) (Ju st) (QN st) .none kV dc pm an cd ct) ⟨us,[]⟩=pure ((["self","row"]:List Str).zip us))(e:(NK K C CB<|some<|.ref f,Kk K CB,W.isFn K<|.ref f,W.codeIn K cd qual,W.keepIn K<|.ref f)=(true,true,true,true,true))(l:K.lookup f=some ⟨oc,od,.func<|W.fnOf "__init__" qual (YS st) (Ju st) (QN st) .none kV dc pm an cd ct,osl⟩)(m:(W.nsIn K mainGlobals x,W.nsIn K mainGlobals "BookError",Jn K c)=(some<|some<|.ref C,some<|some<|.ref CB,C)):∃C CB f fd,XDf K mg x qual c st C CB f fd:=by simp only[Prod.mk.injEq]at e m;obtain⟨e1,e2,e3,e4,e5⟩:=e;obtain⟨m1,m2,m3⟩:=m;exact⟨C,CB,f,_,BN e1,Qhx e2,e3,Binds.all λus hl=>hb us hl,⟨⟨oc,od,kV,dc,pm,an,cd,ct,osl,rfl,l,e4⟩,e5⟩,W.mg_of X G m1,W.mg_of X G m2,m3⟩
section
variable{X:Cx}{O O' OL:List Nat}{w:Bool}{e a b:Expr}{es:List Expr}{p pos ax:Pos}{x y:Str}{ps:List Str}{k:Nat}{f:List D->Option Rs}{l:ZK}
def XW.ex{F0:Fz}{F H:Hp}{c:Nat}{n:D}(k:XW X F0 c n)(x:Ex X.H₀ F0 F H){ea:Addr}(r:Rep X.K F (.ref ea)<|.exc c n):EX X (.ref ea) none H:=λlj aa σ s' e I fly=>by cases e;exact k aa σ F H s' ea I x r fly
end
def two{α:Type}{l:List α}(h:l.length=2):∃a b,l=[a,b]:=by cases l with|nil=>simp at h|cons a l=>obtain⟨b,rfl⟩:=List.length_eq_one_iff.mp<|Nat.succ.inj h;exact⟨a,b,rfl⟩
inductive Nw(H:Hp):V->D->Hp->Prop|bl(b:Bool):Nw H (.bl b) (.bl b) H|int(i:Int):Nw H (.int i) (.int i) H|str(x:Str):Nw H (.str x) (.str x) H|lst{p:Addr}(N:List Str)(h:H p=none):Nw H (.ref p) (.lst<|N.map .str)<|upd H p<|.lst<|N.map V.str|tup{p:Addr}(N:List Str)(h:H p=none):Nw H (.ref p) (.tup<|N.map .str)<|upd H p<|.tup<|N.map V.str
theorem Reps.strs{K:Fg}{F:Hp}:∀(L:List Str),Reps K F (L.map V.str)<|L.map .str|[]=>.nil|x::L=>.cons (.str x)<|Reps.strs L
def Nw.gr{K:Fg}{F H H':Hp}{v:V}{d:D}(n:Nw H v d H')(s:Sm F H):∃F',Gr F H F' H'/\Rep K F' v d:=by cases n with|bl b=>exact⟨F,.refl s,.bl b⟩|int b=>exact⟨F,.refl s,.int b⟩|str b=>exact⟨F,.refl s,.str b⟩|lst N h=>exact⟨_,.new s h _,.lst Qu<|Reps.strs N⟩|tup N h=>exact⟨_,.new s h _,.tup Qu<|Reps.strs N⟩
noncomputable def rS(f:Str->Str->Option D):V->List V->Hp->VK->Prop:=λu vs H Q=>∃x y d,u=.str x/\vs=[.str y]/\f x y=some d/\∀v H',Nw H v d H'->Q v H'
noncomputable def DX(k:Nat)(f:Str->Str->Option D):V->List V->Hp->VK->Prop:=λu vs H Q=>∃x y d,u=.str x/\vs=[.str y,.int k]/\f x y=some d/\∀v H',Nw H v d H'->Q v H'
noncomputable def DW(f:Str->Option D):V->List V->Hp->VK->Prop:=λu vs H Q=>∃x d,u=.str x/\vs=[]/\f x=some d/\∀v H',Nw H v d H'->Q v H'
def Co{f:Str->Str->Option D}{dx dy d:D}(h:QX f dx dy=some d):∃x y,dx=.str x/\dy=.str y/\f x y=some d:=by
 unfold QX at h;split at h;.exact⟨_,_,rfl,rfl,h⟩
 .simp at h
def QgE{f:Str->Option D}{dx d:D}(h:XH f dx=some d):∃x,dx=.str x/\f x=some d:=by
 unfold XH at h;split at h;.exact⟨_,rfl,h⟩
 .simp at h
section
variable{X:Cx}{O:List Nat}{a b c:Expr}{pos apos:Pos}{name:Str}{id:String}
def ZL{f:Str->Str->Option D}{ea eb:Q6}(hm:MtR X id<|rS f)(slot:Slot "str" name id)(eE:typeOf (.builtin id)=pure (.type "method_descriptor"))(ha:PE X a<|tR X O ea)(hb:PE X b<|tR X O eb)(az:attributeBase a name X.env (eval a X.env)=eval a X.env:=by rfl)(cj:((backTo pos<|starEach [b] X.env).all (λx=>!x.1)&&(backToKw pos<|keywordEach [] X.env).all (λx=>x.1.isSome)&&decide (([b]:List Expr).length+([]:List Keyword).length+(if([]:List Keyword).isEmpty then 0 else 1)<30))=true:=by rfl)(aF:(apos.endLine==pos.line)=true:=by rfl)(hs:starEach [b] X.env=(false,eval b X.env)::starEach [] X.env:=by rfl):PE X (.Call (.Attribute a name apos) [b] [] pos)<|tD X O<|Q4 (QX f) ea eb:=PE.imp (YJ PySem.F.plainAttrs_str slot eE hm ha (Xq hb hs) az cj aF hs)<|by rintro σ H Q⟨F0,F,en,d,rs,w,k⟩;obtain⟨dx,dy,e1,e2,e3⟩:=Wq w;obtain⟨x,y,rfl,rfl,e4⟩:=Co e3;refine⟨F0,F,en,_,rs,e1,λu F1 H1 g1 r1=>?_⟩;rw[r1.str];refine⟨rfl,F0,F1,en,_,rs.grow g1,e2,λv F2 H2 g2 r2=>?_⟩;rw[r2.str];refine⟨x,y,d,rfl,rfl,e4,λv H' n=>?_⟩;obtain⟨F',g3,r3⟩:=n.gr (K:=X.K) g2.fh;exact k v F' H' ((g1.trans g2).trans g3) r3
def FD{n:Nat}{f:Str->Str->Option D}{ea eb:Q6}(hm:MtR X id<|DX n f)(slot:Slot "str" name id)(eE:typeOf (.builtin id)=pure (.type "method_descriptor"))(ha:PE X a<|tR X O ea)(hb:PE X b<|tR X O eb)(hc:PE X c<|tD X O<|eC<|.int n)(az:attributeBase a name X.env (eval a X.env)=eval a X.env:=by rfl)(cj:((backTo pos<|starEach [b,c] X.env).all (λx=>!x.1)&&(backToKw pos<|keywordEach [] X.env).all (λx=>x.1.isSome)&&decide (([b,c]:List Expr).length+([]:List Keyword).length+(if([]:List Keyword).isEmpty then 0 else 1)<30))=true:=by rfl)(aF:(apos.endLine==pos.line)=true:=by rfl)(hs:starEach [b,c] X.env=(false,eval b X.env)::starEach [c] X.env:=by rfl)(eU:starEach [c] X.env=[(false,eval c X.env)]:=by rfl)(aQ:(backTo pos<|starEach [c] X.env).any (·.1)=false:=by rfl):PE X (.Call (.Attribute a name apos) [b,c] [] pos)<|tD X O<|Q4 (QX f) ea eb:=PE.imp (YJ PySem.F.plainAttrs_str slot eE hm ha (J5 hb (J5 hc JL eU) hs) az cj aF hs aQ)<|by rintro σ H Q⟨F0,F,en,d,rs,w,k⟩;obtain⟨dx,dy,e1,e2,e3⟩:=Wq w;obtain⟨x,y,rfl,rfl,e4⟩:=Co e3;refine⟨F0,F,en,_,rs,e1,λu F1 H1 g1 r1=>?_⟩;rw[r1.str];refine⟨rfl,F0,F1,en,_,rs.grow g1,e2,λv F2 H2 g2 r2=>?_⟩;rw[r2.str];refine⟨F0,F2,en,_,(rs.grow g1).grow g2,rfl,λv F3 H3 g3 r3=>?_⟩;rw[r3.iI];refine⟨x,y,d,rfl,rfl,e4,λv H' n=>?_⟩;obtain⟨F',g4,r4⟩:=n.gr (K:=X.K) g3.fh;exact k v F' H' (((g1.trans g2).trans g3).trans g4) r4
def Qbb{f:Str->Option D}{ea:Q6}(hm:MtR X id<|DW f)(slot:Slot "str" name id)(eE:typeOf (.builtin id)=pure (.type "method_descriptor"))(ha:PE X a<|tR X O ea)(az:attributeBase a name X.env (eval a X.env)=eval a X.env:=by rfl)(aF:(apos.endLine==pos.line)=true:=by rfl):PE X (.Call (.Attribute a name apos) [] [] pos)<|tD X O<|QD (XH f) ea:=PE.imp (Qfc PySem.F.plainAttrs_str slot eE hm ha az aF)<|by rintro σ H Q⟨F0,F,en,d,rs,w,k⟩;obtain⟨dx,e1,e3⟩:=Qg w;obtain⟨x,rfl,e4⟩:=QgE e3;refine⟨F0,F,en,_,rs,e1,λu F1 H1 g1 r1=>?_⟩;rw[r1.str];refine⟨rfl,x,d,rfl,rfl,e4,λv H' n=>?_⟩;obtain⟨F',g4,r4⟩:=n.gr (K:=X.K) g1.fh;exact k v F' H' (g1.trans g4) r4
def Kj{y:Str}{us:List Value}(h:Vals [.str y] us):∃u,us=[.str y u]:=by obtain⟨u,rfl,t,rfl⟩:=Wn h;exact⟨t,rfl⟩
def Qhg{y:Str}{n:Int}{us:List Value}(h:Vals [.str y,.int n] us):∃u v,us=[.str y u,.int n v]:=by obtain⟨_,_,rfl,⟨t,rfl⟩,u,rfl⟩:=Rl h;exact⟨t,u,rfl⟩
def Sq{f:Str->Str->Option D}(h:∀(aa:List<|Addr×Obj)(s:Shared)(σ:L2.St)(H:Hp)(x y:Str)(d:D)(t u:Tok)(Q:VK),Inv X aa σ H s->f x y=some d->(∀v H',Nw H v d H'->Q v H')->wpAny (model X.prog X.w) X.A (call (.builtin id) [.str x t,.str y u]) (EP X aa σ Q) X.xe s):MtR X id<|rS f:=by rintro aa s σ H x xs v us Q I rx rs⟨z,y,d,rfl,rfl,e,q⟩;obtain⟨t,rfl⟩:=show∃t,v=Value.str z t from rx;obtain⟨u,rfl⟩:=Kj rs;exact h aa s σ H z y d t u Q I e q
def Vh:MtR X "str.startswith"<|rS Jl:=Sq λaa s σ H x y d t u Q I e q=>by obtain rfl:=Q5 e;exact SC.startswith ⟨.bl _,H,I,rfl,q _ _<|.bl _⟩
def LQ:MtR X "str.count"<|rS YE:=Sq λaa s σ H x y d t u Q I e q=>by obtain rfl:=Q5 e;exact SC.count ⟨.int _,H,I.tok _,⟨_,rfl⟩,q _ _<|.int _⟩
def EW:MtR X "str.strip"<|rS XI:=Sq λaa s σ H x y d t u Q I e q=>by
 unfold XI at e;split at e
 .rename_i h;obtain rfl:=Q5 e;exact SC.stripChars (λt' k=>⟨.str _,H,I.tok _,⟨_,rfl⟩,q _ _<|.str _⟩)<|by rw[YL];exact h
 .simp at e
def Qde:MtR X "str.isdigit"<|DW LB:=by rintro aa s σ H x xs v us Q I rx rs⟨z,d,rfl,rfl,e,q⟩;obtain⟨t,rfl⟩:=show∃t,v=Value.str z t from rx;cases Vals.zero rs;obtain rfl:=Q5 e;exact SC.isdigit ⟨.bl _,H,I,rfl,q _ _<|.bl _⟩
def QgJ{N:List Str}:∀{l:List<|Str×Tok},l.map (·.1)=N->Vals (N.map V.str) (strValues l):=by intro l;induction l generalizing N with|nil=>intro h;cases h;exact .nil|cons p l ih=>intro h;cases h;exact .cons ⟨_,rfl⟩<|ih rfl
def TZ{aa:List<|Addr×Obj}{s:Shared}{σ:L2.St}{H:Hp}{Q:VK}(I:Inv X aa σ H s){N:List Str}{l:List<|Str×Tok}(e:l.map (·.1)=N)(hl:N.length<=200000){tk:Nat}(q:∀v H',Nw H v (.lst<|N.map .str) H'->Q v H'):EP X aa σ Q (.ref s.heap.objs.size) {s with heap:=s.heap.push {cls:=.type "list",data:=.seq (strValues l).toArray},toks:=tk}:=by have hz:=sizeLine_eq;have hv:=QgJ e;refine⟨.ref s.heap.objs.size,upd H s.heap.objs.size<|.lst<|N.map V.str,I.laid (λb o h=>Heap.get?_push_of_some _ h) (Qm _) ⟨by rw[Qr];omega,strValues l,0,hv,?_⟩,rfl,q _ _<|.lst N<|I.hok.fresh<|Qm _⟩;exact Heap.get?_push_size _ rfl
def QgC{x y:Str}:(Txt.split x y).length<=x.length+2:=by
 unfold Txt.split;split;.simp
 .split;.simp
  .rw[length_partsBetween];have:=StrLaws.occ_length_le x y 0 x.length<|x.length+1;omega
def QgA{x y:Str}{k:Int}:(Txt.splitMax x y k).length<=x.length+2:=by
 unfold Txt.splitMax;split;.simp
 .split;.simp
  .rw[length_partsBetween];have:=StrLaws.occ_length_le_len x y 0 x.length<|limitOf x k;omega
def Ue:MtR X "str.split"<|rS ZE:=Sq λaa s σ H x y d t u Q I e q=>by
 unfold ZE at e;split at e
 .rename_i h;obtain rfl:=Q5 e;obtain⟨hy,hx⟩:=h;have hz:=sizeLine_eq;have hn:(Builtin.Str.partsBetween x (Builtin.Str.occurrences x y 0 x.length<|x.length+1) y.length).length<=sizeLine:=by
   have e1:=StrLaws.occ_length_le x y 0 x.length<|x.length+1;rw[length_partsBetween];omega
  have hl:(Txt.split x y).length<=200000:=by have:=QgC (x:=x) (y:=y);omega
  cases h1:decide (x.length<y.length)||decide (Builtin.Str.strKind x<Builtin.Str.strKind y)
  .cases hf:(Builtin.Str.occurrences x y 0 x.length<|x.length+1).isEmpty
   .refine call_meets F.slot_str_split (typeIs_str _ _ _) F.entry_str_split (F.args_str_split_2 _ _) (meets_str_split_sep x y t u h1 hy hf (by omega) hn) ?_;show wants (EP X aa σ Q) X.xe _ {s with toks:=_,heap:=s.heap.push {cls:=.type "list",data:=.seq (strsFrom s.toks<|Builtin.Str.partsBetween x (Builtin.Str.occurrences x y 0 x.length<|x.length+1) y.length).toArray}};rw[strsFrom_eq];exact TZ I ((numbered_texts _ _).trans ((if_neg<|ne_true_of_eq_false h1).trans<|if_neg<|ne_true_of_eq_false hf).symm) hl q
   .exact call_meets F.slot_str_split (typeIs_str _ _ _) F.entry_str_split (F.args_str_split_2 _ _) (meets_str_split_not_found x y t u h1 hy hf)<|TZ I (l:=[(x,t)]) ((if_neg<|ne_true_of_eq_false h1).trans<|if_pos hf).symm hl q
  .exact call_meets F.slot_str_split (typeIs_str _ _ _) F.entry_str_split (F.args_str_split_2 _ _) (meets_str_split_cannot_occur x y t u h1)<|TZ I (l:=[(x,t)]) (if_pos h1).symm hl q
 .simp at e
def EV{n:Nat}:MtR X "str.split"<|DX n<|XG n:=by
 rintro aa s σ H x xs v us Q I rx rs⟨z,y,d,rfl,rfl,e,q⟩;obtain⟨t,rfl⟩:=show∃t,v=Value.str z t from rx;obtain⟨u,w,rfl⟩:=Qhg rs;unfold XG at e;split at e
 .rename_i h;obtain rfl:=Q5 e;obtain⟨hy,hx,hk⟩:=h;have hz:=sizeLine_eq;have hn:(Builtin.Str.partsBetween z (Builtin.Str.occurrences z y 0 z.length<|limitOf z n) y.length).length<=sizeLine:=by
   have e1:=StrLaws.occ_length_le_len z y 0 z.length<|limitOf z n;rw[length_partsBetween];omega
  have hl:(Txt.splitMax z y n).length<=200000:=by have:=QgA (x:=z) (y:=y) (k:=n);omega
  have gG:(decide ((n:Int)< -(2^63:Int))||decide ((n:Int)≥2^63))=false:=by simp;omega
  cases h1:decide (z.length<y.length)||decide (Builtin.Str.strKind z<Builtin.Str.strKind y)
  .cases hf:(Builtin.Str.occurrences z y 0 z.length<|limitOf z n).isEmpty
   .refine call_meets F.slot_str_split (typeIs_str _ _ _) F.entry_str_split (F.args_str_split_3 _ _ _) (meets_str_split_sep_max z y n t u w gG h1 hy hf (by omega) hn) ?_;show wants (EP X aa σ Q) X.xe _ {s with toks:=_,heap:=s.heap.push {cls:=.type "list",data:=.seq (strsFrom s.toks<|Builtin.Str.partsBetween z (Builtin.Str.occurrences z y 0 z.length<|limitOf z n) y.length).toArray}};rw[strsFrom_eq];exact TZ I ((numbered_texts _ _).trans ((if_neg<|ne_true_of_eq_false h1).trans<|if_neg<|ne_true_of_eq_false hf).symm) hl q
   .exact call_meets F.slot_str_split (typeIs_str _ _ _) F.entry_str_split (F.args_str_split_3 _ _ _) (meets_str_split_max_not_found z y n t u w gG h1 hy hf)<|TZ I (l:=[(z,t)]) ((if_neg<|ne_true_of_eq_false h1).trans<|if_pos hf).symm hl q
  .exact call_meets F.slot_str_split (typeIs_str _ _ _) F.entry_str_split (F.args_str_split_3 _ _ _) (meets_str_split_max_cannot_occur z y n t u w gG h1)<|TZ I (l:=[(z,t)]) (if_pos h1).symm hl q
 .simp at e
def EU:MtR X "str.partition"<|rS Vj:=Sq λaa s σ H x y d t u Q I e q=>by
 unfold Vj at e;split at e
 .rename_i h;obtain rfl:=Q5 e;obtain⟨hy,hx⟩:=h;have hz:=sizeLine_eq;refine call_meets F.slot_str_partition (typeIs_str _ _ _) F.entry_str_partition (F.args_str_partition_2 _ _) (meets_str_partition x y t u hy<|by omega) ?_;have fin:∀(p q' r:Str)(ta tb tc:Tok)(tk:Nat),Txt.partition x y=(p,q',r)->EP X aa σ Q (.ref s.heap.objs.size) {s with heap:=s.heap.push {cls:=.type "tuple",data:=.seq [.str p ta,.str q' tb,.str r tc].toArray},toks:=tk}:=λp q' r ta tb tc tk he=>by rw[he]at q;refine⟨.ref s.heap.objs.size,upd H s.heap.objs.size<|.tup<|[p,q',r].map V.str,I.laid (λb o h=>Heap.get?_push_of_some _ h) (Qm _) ⟨by simp;omega,_,.cons ⟨ta,rfl⟩<|.cons ⟨tb,rfl⟩<|.cons ⟨tc,rfl⟩ .nil,?_⟩,rfl,q _ _<|.tup [p,q',r]<|I.hok.fresh<|Qm _⟩;exact⟨_,Heap.get?_push_size _ rfl,rfl,_,rfl⟩
  revert fin;unfold Txt.partition;cases Builtin.Str.occurrences x y 0 x.length 1 with
  |nil=>intro fin;exact fin _ _ _ _ _ _ _ rfl|cons i r=>intro fin;exact fin _ _ _ _ _ _ _ rfl
 .simp at e
end
def Qca(i:Int)(h0:0<=i)(h1:i<10^250):(Str.ofString<|toString i).length<=250/\i.natAbs.log2<1920:=by
 obtain⟨n,rfl⟩:=Tj h0;have hn:n<10^250:=by
  have:(n:Int)<((10^250:Nat):Int):=h1;exact Int.ofNat_lt.mp this
 refine⟨?_,?_⟩
 .have e1:(Str.ofString<|toString (n:Int)).length=(Nat.toDigits 10 n).length:=by
   show(cpsOfBytes 0 0 (Nat.repr n).toByteArray.data.toList).toArray.size=_;rw[cpsOfBytes_string,Nat.toList_repr];simp
  rw[e1];exact(RN (by decide)<|by decide).mpr hn
 .show n.log2<1920;rcases Nat.eq_zero_or_pos n with rfl|hp;.decide
  .exact(Nat.log2_lt<|ne_of_gt hp).mpr<|lt_trans hn<|by decide+kernel
section
variable{X:Cx}{O:List Nat}{a b c:Expr}{pos apos:Pos}
noncomputable def DV:List V->Hp->VK->Prop:=λxs H Q=>∃c:Nat,xs=[.str ⟨#[c]⟩]/\Q (.int c) H
def Ae:CallR X (.builtin "ord") DV/\C1 X DV D.ord:=by
 refine⟨λaa s σ H xs us Q I r⟨c,hx,q⟩=>?_,λF H x dx d Q s rx e k=>?_⟩
 .subst hx;obtain⟨u,rfl⟩:=Kj r;exact PySem.P.ord_of_char ⟨.int c,H,I.tok _,⟨_,rfl⟩,q⟩
 .cases dx with
  |str z=>
   simp only[D.ord,Ez]at e;split at e
   .rename_i c hc;obtain rfl:=Q5 e;have:z=⟨#[c]⟩:=Str.ext' (by rw[<-toArray_toList (xs:=z.cps),hc]);exact⟨c,by rw[rx.str,this],k _ F H (.refl s)<|.int _⟩
   .simp at e|_=>cases e
noncomputable def DN:List V->Hp->VK->Prop:=λxs H Q=>∃z n,xs=[.str z]/\z.length<=640/\intText? z=some n/\Q (.int n) H
def P7:CallR X (.type "int") DN/\C1 X DN D.intS:=by
 refine⟨λaa s σ H xs us Q I r⟨z,n,hx,hl,hn,q⟩=>?_,λF H x dx d Q s rx e k=>?_⟩
 .subst hx;obtain⟨u,rfl⟩:=Kj r;exact W.KIN.call_text hn hl ⟨.int n,H,I.tok _,⟨_,rfl⟩,q⟩
 .cases dx with
  |str z=>
   simp only[D.intS]at e;split at e
   .rename_i hl;obtain⟨n,hn,rfl⟩:=Z0 e;exact⟨z,n,by rw[rx.str],hl,hn,k _ F H (.refl s)<|.int _⟩
   .simp at e|_=>cases e
def Lo(K:Fg):List V->Hp->VK->Prop:=λxs H Q=>∃(l:Addr)(bs:List Bool),xs=[.ref l]/\SqL K H l (bs.map V.bl)/\Q (.bl<|bs.all id) H
theorem HF(bs:List Bool):∀k,k<=bs.length->(List.range k).all (λi=>bs.getD i false)=(bs.take k).all id|0,_=>by simp|k+1,h=>by rw[List.range_succ,XC,HF bs k<|by omega,List.take_succ,ZQ<|by omega,XC];simp[ZQ<|show k<bs.length by omega]
def AS(hc:X.calm=true):CallR X (.builtin "all")<|Lo X.K:=by
 intro aa s σ H xs us Q I r⟨l,bs,hx,hq,q⟩;subst hx;obtain⟨u,rfl,rx⟩:=Wn r;cases rx;obtain⟨its,rv,pl,hz⟩:=I.list hq;refine call_all_walk<|Qhi I (I.ok.hd hc) pl λs₂ W st jn back=>?_;have jS:∀i v,its.toArray[i]?=some v->v=Value.bool (bs.getD i false):=λi v h=>by obtain⟨w,h1,h2⟩:=Qhe rv (by simpa using h);rw[WG]at h1;cases q:bs[i]?with|none=>rw[q]at h1;simp at h1|some n=>
   rw[q]at h1;obtain rfl:=Q5 h1;rw[show v=Value.bool n from h2,List.getD_eq_getElem?_getD,q];rfl
 have hl:=rv.length;rw[Qr]at hl;refine⟨_,_,_,_,_,_,λi=>bs.getD i false,rfl,W,st,λi v s3 Q3 E3 hP hQ=>?_,λh' tk hk=>?_⟩;.rw[jS i v hP];exact wpAny_truthy_bool hQ
 .have e:(List.range its.toArray.size).all (λi=>bs.getD i false)=bs.all id:=by rw[Jh,<-hl,HF bs bs.length<|Qm _,take_length]
  rw[e];exact⟨.bl<|bs.all id,H,back h' tk hk,rfl,q⟩
def GY(hc:X.calm=true):CallR X (.builtin "all") (Lo X.K)/\C1 X (Lo X.K) D.allL:=by refine⟨AS hc,λF H x dx d Q s rx e k=>?_⟩;cases dx with|lst ds=>obtain⟨bs,q,rfl⟩:=Z0 e;obtain⟨l,xs,rfl,h,r⟩:=rx.lst s;have:=AR r q;subst this;exact⟨l,bs,rfl,SqL.of h,k _ F H (.refl s)<|.bl _⟩|_=>cases e
noncomputable def DR:R2:=λx y H Q=>∃i j:Str,x=.str i/\y=.str j/\Q (.bl<|! decide (j.cps.toList<i.cps.toList)) H
def OF:OpR X (compareOp .LtE) DR/\Jr X DR D.leS:=by
 refine⟨λaa s σ H x y v u Q I rx ry⟨i,j,hx,hy,q⟩=>?_,λF H x y dx dy d Q sm rx ry e k=>?_⟩
 .subst hx hy;obtain⟨t,rfl⟩:=rx;obtain⟨t',rfl⟩:=ry;exact PySem.P.le_str ⟨.bl _,H,I,rfl,q⟩
 .cases dx<;>cases dy<;>try(simp[D.leS]at e;done)
  case str.str i j=>obtain rfl:=Q5 e;exact⟨i,j,rx.str,ry.str,k _ F H (.refl sm)<|.bl _⟩
def Rep.sI{K:Fg}{F:Hp}{v:V}{i:Str}(h:Rep K F v<|.str i):v=.str i:=by cases h;rfl
def QgK{K:Fg}{F:Hp}{zs:List V}{ds:List D}{L:List Str}(h:Reps K F zs ds)(e:Wi ds=some L):zs=L.map V.str:=by refine h.ind (M:=λv d=>∀L,Wi d=some L->v=L.map V.str) (λns e=>by obtain rfl:=Q5 e;rfl) (λ{x d xs ds}h r ih ns e=>?_) L e;cases d with|str i=>obtain⟨M,e1,rfl⟩:=Z0 e;rw[ih _ e1,h.sI];rfl|_=>simp[Wi]at e
theorem Ct:∀{N:List Str}{its:List Value},Vals (N.map V.str) its->StrsAre its N|[],_,.nil=>.nil|x::N,_,.cons ⟨t,e⟩ r=>by rw[e];exact .cons x t<|Ct r
theorem Cv{B:Nat}:∀(N:List Str),(∀y∈N,y.length<=B)->(N.map (·.length)).sum<=N.length*B|[],_=>by simp|x::N,h=>by have h1:=h x JY;have h2:=Cv N λy hy=>h y<|Qy _ hy;rw[YK,List.sum_cons,Jb,add_mul];omega
def QfM(K:Fg):V->List V->Hp->VK->Prop:=λu vs H Q=>∃sep l N,u=.str sep/\sep.length<=16/\vs=[.ref l]/\SqL K H l (N.map V.str)/\N.length<=500/\(∀y∈N,y.length<=2000)/\Q (.str<|Str.join sep N) H
def Qdf:MtR X "str.join"<|QfM X.K:=by rintro aa s σ H x vs v us Q I rx rv⟨sep,l,N,rfl,jT,rfl,hH,hl,hN,q⟩;obtain⟨t,rfl⟩:=show∃t,v=Value.str sep t from rx;obtain⟨u,rfl,ru⟩:=Wn rv;cases ru;obtain⟨its,r,pl,_⟩:=I.list hH;have hs:=Cv N hN;have:N.length*2000<=500*2000:=Nat.mul_le_mul_right _ hl;refine join_listW (ys:=N) pl.isList (by simpa using Ct r) jT (by omega) λt' k=>⟨.str<|Str.join sep N,H,I.tok k,⟨t',?_⟩,q⟩;rw[eq_of_beq<|join_plain_closes sep N]
def ME{sep:Str}{j}{p:Pos}{ev:Q6}(hl:sep.length<=16)(ha:PE X a<|tR X O ev)(az:attributeBase (.Constant (.str sep) j p) "join" X.env (eval (.Constant (.str sep) j p) X.env)=eval (.Constant (.str sep) j p) X.env:=by rfl)(cj:((backTo pos<|starEach [a] X.env).all (λx=>!x.1)&&(backToKw pos<|keywordEach [] X.env).all (λx=>x.1.isSome)&&decide (([a]:List Expr).length+([]:List Keyword).length+(if([]:List Keyword).isEmpty then 0 else 1)<30))=true:=by rfl)(aF:(apos.endLine==pos.line)=true:=by rfl)(hs:starEach [a] X.env=(false,eval a X.env)::starEach [] X.env:=by rfl):PE X (.Call (.Attribute (.Constant (.str sep) j p) "join" apos) [a] [] pos)<|tD X O<|QD (D.joinS sep) ev:=PE.imp (YJ PySem.F.plainAttrs_str PySem.F.slot_str_join PySem.F.type_str_join Qdf Ou (Xq ha hs) az cj aF hs)<|by
  rintro σ H Q⟨F0,F,en,d,rs,w,k⟩;obtain⟨dx,e1,e2⟩:=Qg w;refine⟨rfl,F0,F,en,dx,rs,e1,λv F1 H1 g1 r1=>?_⟩;cases dx with
  |lst ds=>
   obtain⟨N,h1,h2⟩:=Qg<|show((Wi ds).bind λN=>if N.length<=500/\∀y∈N,y.length<=2000 then some<|D.str<|Str.join sep N else none)=some d from e2;split at h2
   .rename_i hh;obtain rfl:=Q5 h2;obtain⟨l,xs,rfl,h,r⟩:=r1.lst g1.fh;have:=QgK r h1;subst this;exact⟨sep,l,N,rfl,hl,rfl,SqL.of h,hh.1,hh.2,k _ F1 H1 g1<|.str _⟩
   .simp at h2|_=>cases e2
inductive PFs(X:Cx)(O:List Nat):List Expr->List WM->Prop|nil:PFs X O [] []|lit{x:Str}{j}{p:Pos}{r:List Expr}{ps:List WM}(h:x.length<=100000)(t:PFs X O r ps):PFs X O (.Constant (.str x) j p::r)<|.inl x::ps|val{e:Expr}{p:Pos}{ev:Q6}{r:List Expr}{ps:List WM}(h:PE X e<|tD X O ev)(t:PFs X O r ps):PFs X O (.FormattedValue e (-1) none p::r)<|.inr ev::ps
def QbL{es:List Expr}{ps:List WM}(h:PFs X O es ps):∀(aa:List<|Addr×Obj)(s:Shared)(σ:L2.St)(F0:Fz)(F H:Hp)(en:Q8)(Q:VK)(acc out:Str),Inv X aa σ H s->RS X.K X.H₀ F0 F H σ en O->Vz ps en acc=some out->acc.length+ps.length*100000<=10000000->(∀F' H',Gr F H F' H'->Q (.str out) H')->wpAny (model X.prog X.w) X.A (joinParts acc<|evalEach es X.env) (EP X aa σ Q) X.xe s:=by
 have hz:=sizeLine_eq;induction h with
 |nil=>intro aa s σ F0 F H en Q acc out I rs e hl k;obtain rfl:=Q5 e;exact joinParts_nilE<|joinParts_nil ⟨.str _,H,I.tok _,⟨_,rfl⟩,k F H<|.refl rs.fh⟩<|by omega|@lit x j p r ps hx t ih=>
  intro aa s σ F0 F H en Q acc out I rs e hl k;rw[Jb,add_mul]at hl;refine joinParts_consE<|joinParts_cons<|Calls.Constant_str ⟨by rw[Str.length_append];omega,?_⟩;exact ih aa _ σ F0 F H en Q (acc++x) out (I.tok _) rs e (by rw[Str.length_append];omega) k|@val ex p ev r ps he t ih=>
  intro aa s σ F0 F H en Q acc out I rs e hl k;rw[Jb,add_mul]at hl;obtain⟨d,e1,e2⟩:=Qg<|show((ev en).bind λd=>(WW d).bind λx=>Vz ps en<|acc++x)=some out from e;obtain⟨x,e3,e4⟩:=Qg e2;refine joinParts_consE<|joinParts_cons<|FormattedValue_plain<|Qd (he aa s σ H (λv H1=>∃F1,Gr F H F1 H1/\Rep X.K F1 v d) I ⟨F0,F,en,d,rs,e1,λv F1 H1 g1 r1=>⟨F1,g1,r1⟩⟩) λu s1⟨v,H1,I1,ru,F1,g1,r1⟩=>?_;have fin:∀s',(∃tk,s'={s1 with toks:=tk})->x.length<=100000->(acc++x).length<=sizeLine/\wpAny (model X.prog X.w) X.A (joinParts (acc++x)<|evalEach r X.env) (EP X aa σ Q) X.xe s':=λs'⟨tk,hs⟩lx=>by
   rw[hs];refine⟨by rw[Str.length_append];omega,ih aa _ σ F0 F1 H1 en Q (acc++x) out (I1.tok _) (rs.grow g1) e4 (by rw[Str.length_append];omega) λF' H' g'=>k F' H'<|g1.trans g'⟩
  cases d with
  |str y=>
   simp only[WW]at e3;split at e3;.rename_i hy;obtain rfl:=Q5 e3;cases r1;obtain⟨t,rfl⟩:=ru;exact formatField_str (λt' tk=>fin _ ⟨tk,rfl⟩ hy)<|by omega
   .simp at e3|int i=>
   simp only[WW]at e3;split at e3
   .rename_i hi;obtain rfl:=Q5 e3;cases r1;obtain⟨t,rfl⟩:=ru;obtain⟨l1,l2⟩:=Qca i hi.1 hi.2;exact formatField_int_small l2<|fin _ ⟨_,rfl⟩<|by have:(Str.ofString<|toString i).length<=250:=l1;omega
   .simp at e3|_=>cases e3
def PH{e1 e2:Expr}{es:List Expr}{ps:List WM}(hl:ps.length<=20)(h:PFs X O (e1::e2::es) ps):PE X (.JoinedStr (e1::e2::es) pos)<|tD X O<|UO ps:=by rintro aa s σ H Q I⟨F0,F,en,d,rs,w,k⟩;obtain⟨out,e1,rfl⟩:=Z0 w;refine JoinedStr_many<|QbL h aa s σ F0 F H en Q Str.empty out I rs e1 ?_ λF' H' g=>k _ F' H' g<|.str _;have:ps.length*100000<=20*100000:=Nat.mul_le_mul_right _ hl;have:Str.empty.length=0:=rfl;omega
end
section
variable{X:Cx}{O:List Nat}{a b:Expr}{pos:Pos}
def DL(X:Cx):R2:=λx y H Q=>RQ X id x y H Q\/x=.non/\∃p ys,y=.ref p/\SqL X.K H p ys/\Q (.bl false) H
def QeK(hu:X.A.units+64<cLine):OpR X (compareOp .Eq) (DL X)/\Jr X (DL X) D.eqN:=by
 refine⟨λaa s σ H x y v u Q I rx ry z=>?_,λF H x y dx dy d Q sm rx ry e k=>?_⟩
 .rcases z with z|⟨rfl,p,ys,rfl,hq,q⟩;.exact(Yr hu).1 aa s σ H x y v u Q I rx ry z
  .obtain rfl:=show v=Value.none from rx;obtain rfl:=show u=Value.ref p from ry;obtain⟨its,_,pl,_⟩:=I.list hq;exact SeqAt.RcAt.none_list pl.isList (by omega) X.prog X.w X.xe _ ⟨.bl false,H,I,rfl,q⟩
 .unfold D.eqN at e;split at e
  .obtain rfl:=Q5 e;obtain⟨p,xs,rfl,h,r⟩:=ry.lst sm;have hx:x=.non:=by
    rcases rx with r|⟨_,kk,_,_,_,_,_,h4,_⟩;.cases r;rfl
    .cases kk<;>cases h4
   exact .inr ⟨hx,p,xs,rfl,SqL.of h,k _ F H (.refl sm)<|.bl _⟩
  .exact .inl<|(Yr hu).2 F H x y _ _ d Q sm rx ry e k
noncomputable def DT:R2:=λx y H Q=>∃i j:Str,x=.str i/\y=.str j/\Q (.bl<|!Txt.contains j i) H
def Lc:OpR X (compareOp .NotIn) DT/\Jr X DT D.notInS:=by
 refine⟨λaa s σ H x y v u Q I rx ry⟨i,j,hx,hy,q⟩=>?_,λF H x y dx dy d Q sm rx ry e k=>?_⟩
 .subst hx hy;obtain⟨t,rfl⟩:=rx;obtain⟨t',rfl⟩:=ry;exact SB.notContains ⟨.bl _,H,I,rfl,q⟩
 .cases dx<;>cases dy<;>try(simp[D.notInS]at e;done)
  case str.str i j=>obtain rfl:=Q5 e;exact⟨i,j,rx.str,ry.str,k _ F H (.refl sm)<|.bl _⟩
noncomputable def BR(x:Str):It:=⟨λi _=>i<x.cps.size,λi H v H'=>H'=H/\∃c,x.cps[i]?=some c/\v=.str ⟨#[c]⟩,λi _=>x.cps.size<=i⟩
def Qg7{P:Program}{w:World}{K:Fg}{tg:Expr}(x:Str)(t:Tok)(it:Addr):Turn P w K tg (BR x) [it] it λi h=>h.IsStrIter it "str_ascii_iterator" x t i where
 mem:=by simp
 obj:=λi h st b hb=>by
  have e:b=it:=by simpa using hb
  subst e;obtain⟨o,e,c,d⟩:=st;exact⟨o,e,λv z=>by rw[d]at z;cases z⟩
 keep:=λi h h' st k=>by
  obtain⟨o,e,r⟩:=st;exact⟨o,k it (by simp) o e,r⟩
 item:=by
  intro X hP hw hK hc i aa s σ H E I hf st hg;subst hP hw hK;obtain⟨f0,f1,f2,f3,f4,f5⟩:=hf it (by simp);obtain⟨c0,hx⟩:∃c,x.cps[i]?=some c:=⟨_,Lm<|show i<x.cps.size from hg⟩;refine wpAny_pyNext_ascii_item st hx λh' eS sb=>?_;have I1:Inv X aa σ H {s with heap:=h',toks:=s.toks+1}:=I.turned (λb o hb e=>(sb.2 b hb).trans e) f0 f1 f3 f4 f5;obtain⟨o,e,c,d⟩:=id eS;exact⟨_,rfl,Mz (s:={s with heap:=h',toks:=s.toks+1}) e c d (by decide) ⟨.str ⟨#[c0]⟩,H,I1,⟨_,rfl⟩,⟨rfl,_,hx,rfl⟩,eS,λb hb=>(hf b hb).1⟩⟩
 done:=by
  intro X hP hw hK hc i aa s σ H E I hf st hg;subst hP hw hK;obtain⟨f0,f1,f2,f3,f4,f5⟩:=hf it (by simp);exact wpAny_pyNext_ascii_end (I.ok.hd hc) st (by have:x.cps.size<=i:=hg;simp[this]) λh' eb=>⟨rfl,I.turned (t':=s.toks) (λb o hb e=>eb b o hb e) f0 f1 f3 f4 f5⟩
 self:=λ_ _ _ _ _ st h=>wpAny_pyIter_striter_ascii st h
variable{tg iter:Expr}
def PL{ev:Q6}(h:PE X iter<|tD X O ev):PI X tg iter<|tI X O<|Zs ev:=by
 rintro aa s σ H R I⟨F0,F,en,ds,rs,z,k⟩;obtain⟨d,e1,e2⟩:=Qg z;refine Qd (h aa s σ H (λv H1=>∃F1,Gr F H F1 H1/\Rep X.K F1 v d) I ⟨F0,F,en,d,rs,e1,λv F1 H1 g1 r1=>⟨F1,g1,r1⟩⟩) ?_;rintro v s1⟨x,H1,I1,rx,F1,g1,r1⟩;cases d with
 |str y=>
  cases r1;obtain⟨t,rfl⟩:=rx;simp only[D.itsS]at e2;split at e2
  .rename_i ha;obtain rfl:=(Q5 e2).symm;refine wpAny_pyIter_ascii ha ?_;refine⟨s1.heap.objs.size,[s1.heap.objs.size],_,_,H1,rfl,I1.kept (t':=s1.toks) λb o e=>Heap.get?_push_of_some _ e,Qg7 y t _,⟨_,Heap.get?_push_size _ rfl,rfl,rfl⟩,λb hb=>?_,k F1 H1 _ g1 ⟨λi F' H' _ _ hi=>?_,λi F' H' x H2 _ s' hi⟨hH,c,hc,hx⟩=>?_,λi F' H' _ _ hi=>?_⟩⟩
   .have e:b=s1.heap.objs.size:=by simpa using hb
    subst e;exact I1.fpOk (Qm _)<|I1.hok.fresh<|Qm _
   .show i<y.cps.size;simpa using hi
   .subst hH hx;exact⟨F',.str ⟨#[c]⟩,.refl s',by rw[WG,getElem?_toList,hc];rfl,.str _⟩
   .show y.cps.size<=i;simpa using hi
  .simp at e2|_=>cases e2
end
section
variable{X:Cx}{O:List Nat}{pos apos:Pos}
def Qc0{i:Nat}{x:Str}{p:Pos}{aa:List<|Addr×Obj}{s:Shared}{σ:L2.St}{H:Hp}{v:V}{Q:Value->Shared->Prop}{E:Value->Shared->Prop}(I:Inv X aa σ H s)(hN:X.N[i]?=some x)(hv:Yy X.env.scope x)(e:σ[i]?=some (some v))(h:∀u,RelV v u->Q u s)(hd:XV x:=by decide)(bE:(x==("__classdict__":Str))=false:=by decide):wpAny (model X.prog X.w) X.A (eval (.Name x p) X.env) Q E s:=by
 obtain⟨m,hn,hl⟩:=I.loc;obtain⟨u,r,l⟩:=hl i x v hN e hv;have fin:=h u r;rcases l with⟨hk,hm⟩|⟨hk,c,hc,cm⟩;.exact wpAny_Name (wpAny_loadName_local I.ok.kind hk hn hm fin) hd
 .rcases hk with hk|hk;.exact wpAny_Name (wpAny_loadName_cell I.ok.kind hk hc cm fin) hd
  .exact wpAny_Name (wpAny_loadName_free I.ok.kind hk hc cm fin bE) hd
end
section
variable{μ:Type}
abbrev WO(μ:Type):=μ->Fz->Hp->Hp->Prop
inductive tSR(X:Cx)(O:List Nat)(Res:WO μ)(b:Z7 μ)(Dn:Ends)(σ:L2.St)(H:Hp):Prop|mk(F0:Fz)(F:Hp)(e:Q8)(m:μ)(r:Q8×μ)(h1:RS X.K X.H₀ F0 F H σ e O)(h2:Res m F0 F H)(h3:b e m=some r)(h4:∀σ' F' H',Sm F F'->RS X.K X.H₀ F0 F' H' σ' r.1 O->Res r.2 F0 F' H'->Dn.nx σ' H'):tSR X O Res b Dn σ H
variable{X:Cx}{O:List Nat}{Res:WO μ}{tg iter:Expr}{body:List Stmt}{pos:Pos}
def Qbj{it:Za}{g:JW}{b:Z7 μ}(gr:∀m F0 F H F' H',Res m F0 F H->Gr F H F' H'->Res m F0 F' H')(hc:X.calm=true)(hp:PassesOwn (model X.prog X.w) X.A X.env X.xe)(hi:PI X tg iter<|tI X O it)(hg:PG X tg<|tG X O O g)(hb:PSs X body<|tSR X O Res b)(hs:∀x,foldedSetIterable iter X.env x=pure x:=by intro _;rfl):PS X (.For tg iter body [] pos)<|tSR X O Res<|Tp it g b:=PS.imp (Lk hp hc hi hg hb hs)<|by
  rintro Dn σ H⟨F0,F,en,m,rr,rs,res,z,k⟩;obtain⟨ds,e1,e2⟩:=Qg z;refine⟨F0,F,en,ds,rs,e1,λF1 H1 J g1 io=>?_⟩;refine⟨λi n σ' H'=>n=ds.length-i/\i<=ds.length/\∃F' br m',Sm F1 F'/\RS X.K X.H₀ F0 F' H' σ' br O/\Res m' F0 F' H'/\loopR g b (ds.drop i) br m'=some rr,⟨ds.length,by omega,by omega,F1,en,m,.refl F1,rs.grow g1,gr _ _ _ _ _ _ res g1,by rw[We];exact e2⟩,?_⟩;rintro i n σ' H'⟨rfl,hle,F',br,m',s',aR,bY,e3⟩;rcases VJ i ds.length with hi|hi
  .refine .inr ⟨io.go i F' H' s' aR.fh hi,λσ2 H2=>∃n',n'<ds.length-i/\n'=ds.length-(i+1)/\i+1<=ds.length/\∃F' br m',Sm F1 F'/\RS X.K X.H₀ F0 F' H2 σ2 br O/\Res m' F0 F' H2/\loopR g b (ds.drop<|i+1) br m'=some rr,λσ2 H2⟨n',h1,h2⟩=>⟨n',h1,h2⟩,λx H2 hy=>?_⟩;obtain⟨F2,d,g2,hd,r2⟩:=io.yld i F' H' x H2 s' aR.fh hi hy;have fO:ds.drop i=d::ds.drop (i+1):=by
    rw[XA hi];rw[ZQ hi]at hd;obtain rfl:=Q5 hd;rfl
   rw[fO]at e3;obtain⟨e9,e4,e5⟩:=Qg<|show((g d br).bind λe1=>(b e1 m').bind λr=>loopR g b (ds.drop<|i+1) r.1 r.2)=some rr from e3;obtain⟨gh,e6,e7⟩:=Qg e5;refine⟨F0,F2,br,d,e9,aR.grow g2,r2,e4,λσ3 H3 F3 s3 rs3=>?_⟩;have sA:Sm F1 F3:=(s'.trans g2.ff).trans s3.ff;exact⟨F0,F3,e9,m',gh,rs3,gr _ _ _ _ _ _ (gr _ _ _ _ _ _ bY g2) s3,e6,λσ4 F4 H4 s4 eA fU=>⟨_,by omega,rfl,hi,F4,gh.1,gh.2,sA.trans s4,eA,fU,e7⟩⟩
  .have hz:ds.drop i=[]:=Wf hi;rw[hz]at e3;obtain rfl:=Q5 e3;exact .inl ⟨io.stop i F' H' s' aR.fh hi,k σ' F' H' (g1.ff.trans s') aR bY⟩
def T9{st:Stmt}{b:Z7 μ}(h:PS X st<|tSR X O Res b):PSs X [st]<|tSR X O Res b:=ZT h
def MS:PSs X []<|tSR X O Res λe m=>some (e,m):=PSs.imp Yu<|by rintro Dn σ H⟨F0,F,en,m,r,rs,res,z,k⟩;obtain rfl:=Q5 z;exact k σ F H (.refl F) rs res
def T8{st:Stmt}{rest:List Stmt}{ba bb:Z7 μ}(h1:PS X st<|tSR X O Res ba)(h2:PSs X rest<|tSR X O Res bb):PSs X (st::rest)<|tSR X O Res<|Zn ba bb:=PSs.imp (Z1 h1 h2)<|by rintro Dn σ H⟨F0,F,en,m,r,rs,res,z,k⟩;obtain⟨q,e1,e2⟩:=Qg z;exact⟨F0,F,en,m,q,rs,res,e1,λσ' F' H' s aR bY=>⟨F0,F',q.1,q.2,r,aR,bY,e2,λσ2 F2 H2 s2=>k σ2 F2 H2<|s.trans s2⟩⟩
end
def Gr.keepN{F H F' H':Hp}(g:Gr F H F' H'){a:Addr}{o:HO}(h:H a=some o)(f:F a=none):F' a=none:=by cases e:F' a with|none=>rfl|some z=>
  rcases g.fr a z e with y|y;.rw[f]at y;simp at y
  .rw[h]at y;simp at y
section
variable{K:Fg}{H₀:Hp}{F0:Fz}{F H F' H':Hp}{σ:L2.St}{e:Q8}{O:List Nat}
def PinO(O:List Nat):Prop:=∀i∈O,1000<=i
def PinO.no(h:PinO O)(hl:e.length<=1000){j:Nat}{d:D}(he:e[j]?=some (some d))(hj:j∈O):False:=by have:=(q_33.mp he).1;have:=h j hj;omega
def PinO.nin(h:PinO O)(hl:e.length<=1000){j:Nat}{d:D}(he:e[j]?=some (some d)):j∉O:=λhj=>h.no hl he hj
def RS.nest(r:RS K H₀ F0 F H σ e O)(hO:PinO O)(hl:e.length<=1000)(s:Sm F F')(s2:Sm F' H')(s3:Sm F0.h H')(fr:∀a o,F' a=some o->F a=some o\/F0.h a=none):RS K H₀ F0 F' H' σ e O:=by
 refine⟨s2,s3,r.ff.trans s,λa o h=>?_,λj d h hj=>?_,λj d h hj=>(hO.no hl h hj).elim,λj _ _ _ _ hj _ h1=>(hO.no hl h1 hj).elim,r.pin,r.len⟩
 .rcases fr a o h with z|z;.exact r.fr a o z
  .exact .inr z
 .obtain⟨v,h1,h2⟩:=r.slot j d h hj;exact⟨v,h1,h2.mono s⟩
def RS.wr(rs:RS K H₀ F0 F H σ e O)(hO:PinO O)(hl:e.length<=1000){q:Addr}(hf:F q=none)(hh:F0.h q=none)(o:HO):RS K H₀ F0 F (upd H q o) σ e O:=rs.nest hO hl (.refl F) (rs.fh.upd _ hf) (rs.hh.upd _ hh) λa o h=>.inl h
def RS.view{F1:Hp}(r:RS K H₀ F0 F H σ e O)(hO:PinO O)(hl:e.length<=1000)(s1:Sm F F1)(s2:Sm F1 H):RS K H₀ ⟨F1,H,np⟩ F1 H σ e []:=by refine⟨s2,.refl H,.refl F1,λa o h=>.inl h,λj d h _=>?_,λj d _ hj=>(nomatch hj),λj _ _ _ _ hj=>(nomatch hj),λj hj=>(nomatch hj),r.len⟩;obtain⟨v,h1,h2⟩:=r.slot j d h<|hO.nin hl h;exact⟨v,h1,h2.mono s1⟩
def RS.see{F1:Hp}{i:Nat}{v:V}{d:D}(r:RS K H₀ F0 F1 H σ e [])(hs:σ[i]?=some (some v))(hr:Rep K F1 v d):RS K H₀ F0 F1 H σ (e.set i<|some d) []:=by
 refine⟨r.fh,r.hh,r.ff,r.fr,λj d' h hj=>?_,λj d _ hj=>(nomatch hj),λj _ _ _ _ hj=>(nomatch hj),λj hj=>(nomatch hj),by rw[Z2];exact r.len⟩;rw[Wc]at h;split at h
 .rename_i z;subst z;split at h
  .obtain rfl:=Q5<|Q5 h;exact⟨v,hs,hr⟩
  .simp at h
 .exact r.slot j d' h hj
end
section
variable{μ:Type}{X:Cx}{O:List Nat}{Res:WO μ}
def Vw(X:Cx)(O:List Nat)(Res:WO μ)(vw:Q8->μ->Q8):Prop:=∀F0 F H σ e m,RS X.K X.H₀ F0 F H σ e O->Res m F0 F H->e.length<=1000->∃F1,Sm F F1/\RS X.K X.H₀ ⟨F1,H,np⟩ F1 H σ (vw e m) []
def UB(Res:WO μ):Prop:=∀m F0 F H F' H',Res m F0 F H->Gr F H F' H'->Res m F0 F' H'
def go{F H H':Hp}(s0:Sm F H)(s:Sm H H'):Gr F H F H':=⟨.refl F,s,s0.trans s,λ_ _ h=>.inl h⟩
def PM{vw:Q8->μ->Q8}(hv:Vw X O Res vw)(gr:UB Res){c:Expr}{a b:List Stmt}{cv:Q6}{ba bb:Z7 μ}{pos:Pos}(hc:PT X c<|tDT X [] cv)(ha:PSs X a<|tSR X O Res ba)(hb:PSs X b<|tSR X O Res bb):PS X (.If c a b pos)<|tSR X O Res<|Y6 vw cv ba bb:=PS.imp (Yt hc ha hb)<|by
  rintro Dn σ H⟨F0,F,en,m,r,rs,res,z,k⟩;unfold Y6 at z;split at z
  .rename_i hl;obtain⟨F1,s1,bq⟩:=hv F0 F H σ en m rs res hl;split at z
   .rename_i e1;exact⟨_,F1,_,true,bq,e1,λF' H' g=>ZP ⟨_,F,en,m,r,rs.grow<|go rs.fh g.hh,gr _ _ _ _ _ _ res<|go rs.fh g.hh,z,k⟩⟩
   .rename_i e1;exact⟨_,F1,_,false,bq,e1,λF' H' g=>ZI ⟨_,F,en,m,r,rs.grow<|go rs.fh g.hh,gr _ _ _ _ _ _ res<|go rs.fh g.hh,z,k⟩⟩
   .simp at z
  .simp at z
def Rep.pl{K:Fg}{F F':Hp}{v:V}{d:D}(r:Rep K F v d)(h:DC d=true):Rep K F' v d:=by cases r<;>first|exact .bl _|exact .int _|exact .str _|exact .non|cases h
def Qbp{vw:Q8->μ->Q8}(hv:Vw X O Res vw)(gr:UB Res){j:Nat}{st:Stmt}{ev:Q6}(fM:J1 j∉O)(hj:j∉O)(h:PS X st<|Vm (tD X [] ev)<|W2 j):PS X st<|tSR X O Res<|Uy vw j ev:=PS.imp h<|by
  rintro Dn σ H⟨F0,F,en,m,r,rs,res,z,k⟩;unfold Uy at z;split at z
  .rename_i hl;obtain⟨F1,s1,bq⟩:=hv F0 F H σ en m rs res hl;obtain⟨d,e1,e2⟩:=Qg z;split at e2
   .rename_i hp;obtain rfl:=Q5 e2;refine⟨_,F1,_,d,bq,e1,λv F' H' g r1=>?_⟩;have cS:=(rs.grow<|go rs.fh g.hh).put' j (r1.pl hp) fM;rw[show dl j O=O by unfold dl;rw[List.filter_eq_self];intro a ha;simp;rintro rfl;exact hj ha]at cS;exact k _ F H' (.refl F) cS<|gr _ _ _ _ _ _ res<|go rs.fh g.hh
   .simp at e2
  .simp at z
def MR{st:Stmt}{OL:List Nat}{w:Bool}{b:QJ}(hO:PinO O)(gr:UB Res)(h:PS X st<|tS X O O OL w b):PS X st<|tSR X O Res<|V3 b:=PS.imp h<|by
  rintro Dn σ H⟨F0,F,en,m,r,rs,res,z,k⟩;obtain⟨e',z1,hl,ee,rfl⟩:∃e',b en=some (.nx e')/\en.length<=1000/\e'.length<=1000/\r=(e',m):=by
   unfold V3 at z;split at z
   .rename_i e' h1;split at z;.rename_i h2;obtain rfl:=Q5 z;exact⟨e',h1,h2.1,h2.2,rfl⟩
    .simp at z
   .simp at z
  refine⟨⟨F,H,F0.p⟩,F,en,_,⟨rs.fh,.refl H,.refl F,λa o h=>.inl h,rs.slot,λj d h hj=>(hO.no hl h hj).elim,λj _ _ _ _ hj _ h1=>(hO.no hl h1 hj).elim,rs.pin,rs.len⟩,z1,λσ' F' H' s q=>?_⟩;refine k σ' F' H' s ⟨q.fh,rs.hh.trans q.hh,rs.ff.trans q.ff,λa o h=>?_,q.slot,λj d h hj=>(hO.no ee h hj).elim,λj _ _ _ _ hj _ h1=>(hO.no ee h1 hj).elim,q.pin,q.len⟩<|gr _ _ _ _ _ _ res q.ex.gr;rcases q.fr a o h with z|z;.exact rs.fr a o z
  .exact .inr<|rs.hh.none z
end
section
variable(K:Fg)(F H:Hp)
inductive ImH:V->Im->List Addr->Prop|pl{v:V}{d:D}(r:Rep K F v d):ImH v (.pl d) []|wd{t n:Addr}{x:Str}{ns:List Str}(ht:F t=some (.tup [.str "word",.str x,.ref n]))(hn:H n=some (.lst<|ns.map V.str))(fn:F n=none):ImH (.ref t) (.wd x ns) [n]
inductive ImsH:List V->List Im->List Addr->Prop|nil:ImsH [] [] []|cons{v:V}{i:Im}{fp:List Addr}{vs:List V}{is:List Im}{fq:List Addr}(h:ImH K F H v i fp)(r:ImsH vs is fq):ImsH (v::vs) (i::is)<|fp++fq
inductive BkH:V->Bk->List Addr->Prop|pl{v:V}{d:D}(r:Rep K F v d):BkH v (.pl d) []|tb{t l:Addr}{u:V}{rows:List Str}{lab:D}(ht:F t=some (.tup [.str "table",.ref l,u]))(hu:Rep K F u lab)(hl:H l=some (.lst<|rows.map V.str))(fl:F l=none):BkH (.ref t) (.tb rows lab) [l]|pa{t l:Addr}{vs:List V}{is:List Im}{fp:List Addr}(ht:F t=some (.tup [.str "para",.ref l]))(hl:H l=some (.lst vs))(fl:F l=none)(r:ImsH K F H vs is fp):BkH (.ref t) (.pa is)<|l::fp
inductive BksH:List V->List Bk->List Addr->Prop|nil:BksH [] [] []|cons{v:V}{i:Bk}{fp:List Addr}{vs:List V}{is:List Bk}{fq:List Addr}(h:BkH K F H v i fp)(r:BksH vs is fq):BksH (v::vs) (i::is)<|fp++fq
inductive BH(m:BM)(p:Addr)(fp:List Addr):Prop|mk(vs:List V)(hp:H p=some (.lst vs))(fn:F p=none)(b:BksH K F H vs m fp)(nd:(p::fp).Nodup):BH m p fp
end
section
variable{K:Fg}{F H F' H':Hp}
def Uu(fp:List Addr)(H H':Hp):Prop:=∀a∈fp,∀o,H a=some o->H' a=some o
theorem ImH.mono{v:V}{i:Im}{fp:List Addr}(h:ImH K F H v i fp)(s:Sm F F')(k:Uu fp H H')(n:∀a∈fp,F' a=none):ImH K F' H' v i fp:=by cases h with|pl r=>exact .pl<|r.mono s|wd ht hn fn=>exact .wd (s _ _ ht) (k _ (by simp) _ hn)<|n _<|by simp
theorem ImsH.mono{vs:List V}{is:List Im}{fp:List Addr}(h:ImsH K F H vs is fp)(s:Sm F F')(k:Uu fp H H')(n:∀a∈fp,F' a=none):ImsH K F' H' vs is fp:=by induction h with|nil=>exact .nil|cons h r ih=>exact .cons (h.mono s (λa ha=>k a<|Y2 _ ha) λa ha=>n a<|Y2 _ ha)<|ih (λa ha=>k a<|Ze _ ha) λa ha=>n a<|Ze _ ha
theorem BkH.mono{v:V}{i:Bk}{fp:List Addr}(h:BkH K F H v i fp)(s:Sm F F')(k:Uu fp H H')(n:∀a∈fp,F' a=none):BkH K F' H' v i fp:=by cases h with|pl r=>exact .pl<|r.mono s|tb ht hu hl fl=>exact .tb (s _ _ ht) (hu.mono s) (k _ (by simp) _ hl)<|n _<|by simp|pa ht hl fl r=>exact .pa (s _ _ ht) (k _ (by simp) _ hl) (n _<|by simp)<|r.mono s (λa ha=>k a<|Qy _ ha) λa ha=>n a<|Qy _ ha
theorem BksH.mono{vs:List V}{is:List Bk}{fp:List Addr}(h:BksH K F H vs is fp)(s:Sm F F')(k:Uu fp H H')(n:∀a∈fp,F' a=none):BksH K F' H' vs is fp:=by induction h with|nil=>exact .nil|cons h r ih=>exact .cons (h.mono s (λa ha=>k a<|Y2 _ ha) λa ha=>n a<|Y2 _ ha)<|ih (λa ha=>k a<|Ze _ ha) λa ha=>n a<|Ze _ ha
def ImsH.at{vs:List V}{is:List Im}{fp:List Addr}(h:ImsH K F H vs is fp):∀a∈fp,(∃us,H a=some (.lst us))/\F a=none:=by induction h with|nil=>exact λa ha=>nomatch ha|cons h r ih=>
  intro a ha;rcases q_8.mp ha with z|z;.cases h with|pl r=>cases z|wd ht hn fn=>rw[q_1.mp z];exact⟨⟨_,hn⟩,fn⟩
  .exact ih a z
theorem BksH.at{vs:List V}{is:List Bk}{fp:List Addr}(h:BksH K F H vs is fp):∀a∈fp,(∃us,H a=some (.lst us))/\F a=none:=by induction h with
 |nil=>exact λa ha=>nomatch ha|cons h r ih=>
  intro a ha;rcases q_8.mp ha with z|z;.cases h with|pl r=>cases z|tb ht hu hl fl=>rw[q_1.mp z];exact⟨⟨_,hl⟩,fl⟩|pa ht hl fl r=>
    rcases q_7.mp z with y|y;.rw[y];exact⟨⟨_,hl⟩,fl⟩
    .exact r.at a y
  .exact ih a z
theorem BH.at{m:BM}{p:Addr}{fp:List Addr}(h:BH K F H m p fp):∀a∈p::fp,(∃us,H a=some (.lst us))/\F a=none:=by
 obtain⟨vs,hp,fn,b,nd⟩:=h;intro a ha;rcases q_7.mp ha with z|z;.rw[z];exact⟨⟨_,hp⟩,fn⟩
 .exact b.at a z
def BH.gr{m:BM}{p:Addr}{fp:List Addr}(h:BH K F H m p fp)(g:Gr F H F' H'):BH K F' H' m p fp:=by have ha:=h.at;obtain⟨vs,hp,fn,b,nd⟩:=h;refine⟨vs,g.hh _ _ hp,g.keepN hp fn,b.mono g.ff (λa _ o e=>g.hh a o e) λa h=>?_,nd⟩;obtain⟨⟨us,e⟩,f⟩:=ha a<|Qy _ h;exact g.keepN e f
def ImsH.snoc{vs:List V}{is:List Im}{fp:List Addr}(h:ImsH K F H vs is fp){v:V}{i:Im}{fq:List Addr}(q:ImH K F H v i fq):ImsH K F H (vs++[v]) (is++[i])<|fp++fq:=by induction h with|nil=>have:=ImsH.cons q .nil;simpa using this|cons h r ih=>rw[Zw];exact .cons h ih
def BksH.snoc{vs:List V}{is:List Bk}{fp:List Addr}(h:BksH K F H vs is fp){v:V}{i:Bk}{fq:List Addr}(q:BkH K F H v i fq):BksH K F H (vs++[v]) (is++[i])<|fp++fq:=by induction h with|nil=>have:=BksH.cons q .nil;simpa using this|cons h r ih=>rw[Zw];exact .cons h ih
def ImsH.last{is:List Im}{i:Im}:∀{vs:List V}{fp:List Addr},ImsH K F H vs (is++[i]) fp->∃ws v fq fr,vs=ws++[v]/\fp=fq++fr/\ImsH K F H ws is fq/\ImH K F H v i fr:=by induction is with
 |nil=>intro vs fp h;cases h with|cons h r=>cases r with|nil=>exact⟨[],_,[],_,rfl,by simp,.nil,h⟩
 |cons j is ih=>intro vs fp h;cases h with|cons h r=>obtain⟨ws,v,fq,fr,rfl,rfl,a,b⟩:=ih r;exact⟨_::ws,v,_++fq,fr,rfl,by rw[Zw],.cons h a,b⟩
def BksH.last{is:List Bk}{i:Bk}:∀{vs:List V}{fp:List Addr},BksH K F H vs (is++[i]) fp->∃ws v fq fr,vs=ws++[v]/\fp=fq++fr/\BksH K F H ws is fq/\BkH K F H v i fr:=by induction is with
 |nil=>intro vs fp h;cases h with|cons h r=>cases r with|nil=>exact⟨[],_,[],_,rfl,by simp,.nil,h⟩
 |cons j is ih=>intro vs fp h;cases h with|cons h r=>obtain⟨ws,v,fq,fr,rfl,rfl,a,b⟩:=ih r;exact⟨_::ws,v,_++fq,fr,rfl,by rw[Zw],.cons h a,b⟩
def ImsH.len{vs:List V}{is:List Im}{fp:List Addr}(h:ImsH K F H vs is fp):vs.length=is.length:=by induction h with|nil=>rfl|cons h r ih=>simp[ih]
def BksH.len{vs:List V}{is:List Bk}{fp:List Addr}(h:BksH K F H vs is fp):vs.length=is.length:=by induction h with|nil=>rfl|cons h r ih=>simp[ih]
def ImH.rep{v:V}{i:Im}{fp:List Addr}(h:ImH K F H v i fp)(s:Sm F F')(k:∀a∈fp,F' a=H a):Rep K F' v<|YA i:=by cases h with|pl r=>exact r.mono s|wd ht hn fn=>exact .tup (s _ _ ht)<|.cons (.str _)<|.cons (.str _)<|.cons (.lst ((k _<|by simp).trans hn)<|Reps.strs _) .nil
theorem ImsH.rep{vs:List V}{is:List Im}{fp:List Addr}(h:ImsH K F H vs is fp)(s:Sm F F')(k:∀a∈fp,F' a=H a):Reps K F' vs<|is.map YA:=by induction h with|nil=>exact .nil|cons h r ih=>exact .cons (h.rep s λa ha=>k a<|Y2 _ ha)<|ih λa ha=>k a<|Ze _ ha
theorem BkH.rep{v:V}{i:Bk}{fp:List Addr}(h:BkH K F H v i fp)(s:Sm F F')(k:∀a∈fp,F' a=H a):Rep K F' v<|Jx i:=by cases h with|pl r=>exact r.mono s|tb ht hu hl fl=>exact .tup (s _ _ ht)<|.cons (.str _)<|.cons (.lst ((k _<|by simp).trans hl)<|Reps.strs _)<|.cons (hu.mono s) .nil|pa ht hl fl r=>exact .tup (s _ _ ht)<|.cons (.str _)<|.cons (.lst ((k _<|by simp).trans hl)<|r.rep s λa ha=>k a<|Qy _ ha) .nil
theorem BksH.rep{vs:List V}{is:List Bk}{fp:List Addr}(h:BksH K F H vs is fp)(s:Sm F F')(k:∀a∈fp,F' a=H a):Reps K F' vs<|is.map Jx:=by induction h with|nil=>exact .nil|cons h r ih=>exact .cons (h.rep s λa ha=>k a<|Y2 _ ha)<|ih λa ha=>k a<|Ze _ ha
noncomputable def fz(F H:Hp)(fp:List Addr):Hp:=λa=>if a∈fp then H a else F a
def TR{fp:List Addr}{a:Addr}(h:a∈fp):fz F H fp a=H a:=if_pos h
def Mx{fp:List Addr}{a:Addr}{o:HO}(h:fz F H fp a=some o):a∈fp/\H a=some o\/F a=some o:=by
 unfold fz at h;split at h;.rename_i z;exact .inl ⟨z,h⟩
 .exact .inr h
def Mw{fp:List Addr}(n:∀a∈fp,F a=none):Sm F<|fz F H fp:=λa o h=>by unfold fz;rw[if_neg λz=>by rw[n a z]at h;simp at h];exact h
def QbM{fp:List Addr}(s:Sm F H):Sm (fz F H fp) H:=λa o h=>by
 rcases Mx h with⟨_,z⟩|z;.exact z
 .exact s a o z
def BH.frz{m:BM}{p:Addr}{fp:List Addr}(h:BH K F H m p fp)(s:Sm F H):Sm F (fz F H<|p::fp)/\Sm (fz F H<|p::fp) H/\Rep K (fz F H<|p::fp) (.ref p) (Qh m):=by have ha:=h.at;have s1:Sm F<|fz F H<|p::fp:=Mw λa h=>(ha a h).2;obtain⟨vs,hp,fn,b,nd⟩:=h;exact⟨s1,QbM s,.lst ((TR JY).trans hp)<|b.rep s1 λa ha=>TR<|Qy _ ha⟩
def Ua{fp:List Addr}{l:Addr}{o:HO}(h:l∉fp):Uu fp H<|upd H l o:=λa ha x e=>by have:a≠l:=λz=>h<|z▸ha;rw[QY this];exact e
def BH.app{m:BM}{p:Addr}{fp:List Addr}(h:BH K F H m p fp){b:Bk}{v:V}{fq:List Addr}(q:BkH K F H v b fq)(nd:(p::(fp++fq)).Nodup){vs:List V}(hv:H p=some (.lst vs)):BH K F (upd H p<|.lst<|vs++[v]) (m++[b]) p<|fp++fq:=by
 have ha:=h.at;obtain⟨ws,hp,fn,b',nd'⟩:=h;rw[hp]at hv;obtain rfl:ws=vs:=by cases hv;rfl
 have nn:=q_25.mp nd;have hm:=b'.snoc q;refine⟨_,Qu,fn,hm.mono (.refl F) (Ua nn.1) λa dw=>?_,nd⟩;exact(hm.at a dw).2
def BH.row{m:BM}{rows:List Str}{lab:D}{p:Addr}{fp:List Addr}(h:BH K F H (m++[.tb rows lab]) p fp):∃vs t l u,l∈fp/\H p=some (.lst<|vs++[.ref t])/\F t=some (.tup [.str "table",.ref l,u])/\H l=some (.lst<|rows.map V.str)/\∀y,BH K F (upd H l<|.lst<|rows.map V.str++[.str y]) (m++[.tb (rows++[y]) lab]) p fp:=by obtain⟨vs,hp,fn,b,nd⟩:=h;obtain⟨ws,v,fq,fr,rfl,rfl,a,c⟩:=b.last;cases c with|tb ht hu hl fl=>rename_i t l u;have nn:=q_25.mp nd;have n2:=q_55.mp nn.2;have lq:l∉fq:=λz=>n2.2.2 l z l (by simp) rfl;have lp:p≠l:=λz=>nn.1<|Ze _ (by simp[z]);refine⟨ws,t,l,u,by simp,hp,ht,hl,λy=>⟨_,by rw[QY lp];exact hp,fn,(a.mono (.refl F) (Ua lq) λa' dw=>(a.at a' dw).2).snoc<|.tb ht hu (by rw[Qu,Jj];rfl) fl,nd⟩⟩
def BH.item{m:BM}{is:List Im}{p:Addr}{fp:List Addr}(h:BH K F H (m++[.pa is]) p fp):∃vs t l us,l∈fp/\H p=some (.lst<|vs++[.ref t])/\F t=some (.tup [.str "para",.ref l])/\H l=some (.lst us)/\us.length=is.length/\Reps K (fz F H<|p::fp) us (is.map YA)/\∀v i fq,ImH K F H v i fq->(p::(fp++fq)).Nodup->BH K F (upd H l<|.lst<|us++[v]) (m++[.pa<|is++[i]]) p (fp++fq):=by
 have s1:Sm F<|fz F H<|p::fp:=Mw λa ha=>(h.at a ha).2;obtain⟨vs,hp,fn,b,nd⟩:=h;obtain⟨ws,v,fq,fr,rfl,rfl,a,c⟩:=b.last;cases c with|pa ht hl fl r=>
 rename_i t l us cU;have nn:=q_25.mp nd;have n2:=q_55.mp nn.2;have lq:l∉fq:=λz=>n2.2.2 l z l (by simp) rfl;have lp:p≠l:=λz=>nn.1<|Ze _ (by simp[z]);have lf:l∉cU:=(q_25.mp n2.2.1).1;refine⟨ws,t,l,us,by simp,hp,ht,hl,r.len,r.rep s1 λa ha=>TR<|by simp[ha],λv i fg q iz=>⟨_,by rw[QY lp];exact hp,fn,?_,iz⟩⟩;have mw:=q_55.mp (q_25.mp iz).2;have lg:l∉cU++fg:=λz=>by
  rcases q_8.mp z with z|z;.exact lf z
  .exact mw.2.2 l (by simp) l z rfl
 have hs:=r.snoc q;have:=(a.mono (.refl F) (Ua (o:=.lst<|us++[v]) lq) λa' dw=>(a.at a' dw).2).snoc<|.pa ht Qu fl<|hs.mono (.refl F) (Ua lg) λa' dw=>(hs.at a' dw).2;rw[Zw];exact this
def BH.note{m:BM}{is:List Im}{x:Str}{ns:List Str}{p:Addr}{fp:List Addr}(h:BH K F H (m++[.pa<|is++[.wd x ns]]) p fp):∃vs t l us t2 n,(n∈fp/\l∈fp)/\H p=some (.lst<|vs++[.ref t])/\F t=some (.tup [.str "para",.ref l])/\H l=some (.lst<|us++[.ref t2])/\F t2=some (.tup [.str "word",.str x,.ref n])/\H n=some (.lst<|ns.map V.str)/\Reps K (fz F H<|p::fp) (us++[.ref t2]) ((is++[Im.wd x ns]).map YA)/\∀y,BH K F (upd H n<|.lst<|ns.map V.str++[.str y]) (m++[.pa<|is++[.wd x<|ns++[y]]]) p fp:=by have s1:Sm F<|fz F H<|p::fp:=Mw λa ha=>(h.at a ha).2;obtain⟨vs,hp,fn,b,nd⟩:=h;obtain⟨ws,v,fq,fr,rfl,rfl,a,c⟩:=b.last;cases c with|pa ht hl fl r=>rename_i t l us cU;have rr:=r.rep s1 λa ha=>TR (by simp[ha]);obtain⟨ic,v',nU,fr',rfl,rfl,a2,c2⟩:=r.last;cases c2 with|wd iD hn nV=>rename_i t2 n;have nn:=q_25.mp nd;have n2:=q_55.mp nn.2;have n3:=q_25.mp n2.2.1;have n4:=q_55.mp n3.2;have nq:n∉fq:=λz=>n2.2.2 n z n (by simp) rfl;have np:p≠n:=λz=>nn.1<|Ze _ (by simp[z]);have nl:l≠n:=λz=>n3.1 (by simp[z]);have mq:n∉nU:=λz=>n4.2.2 n z n (by simp) rfl;refine⟨ws,t,l,ic,t2,n,⟨by simp,by simp⟩,hp,ht,hl,iD,hn,rr,λy=>⟨_,by rw[QY np];exact hp,fn,?_,nd⟩⟩;exact(a.mono (.refl F) (Ua nq) λa' dw=>(a.at a' dw).2).snoc<|.pa ht (by rw[QY nl];exact hl) fl<|(a2.mono (.refl F) (Ua mq) λa' dw=>(a2.at a' dw).2).snoc<|.wd iD (by rw[Qu,Jj];rfl) nV
end
noncomputable def un(G G':Hp):Hp:=λa=>match G a with|some o=>some o|none=>G' a
def WL(G G':Hp):Sm G<|un G G':=λa o h=>by unfold un;rw[h]
def Wl{F G G':Hp}(s:Sm G F)(s':Sm G' F):Sm G'<|un G G':=λa o h=>by unfold un;cases e:G a with|none=>exact h|some x=>have:=s a x e;rw[s' a o h]at this;exact this.symm
def Wm{F G G':Hp}(s:Sm G F)(s':Sm G' F):Sm (un G G') F:=λa o h=>by unfold un at h;cases e:G a with|none=>rw[e]at h;exact s' a o h|some x=>rw[e]at h;obtain rfl:=Q5 h;exact s a _ e
def Rk{G G':Hp}{a:Addr}{o:HO}(h:un G G' a=some o):G a=some o\/G' a=some o:=by unfold un at h;cases e:G a with|none=>rw[e]at h;exact .inr h|some x=>rw[e]at h;exact .inl h
noncomputable def RZ(p:Addr)(o:HO):Hp:=λa=>if a=p then some o else none
def KR(p:Addr)(o:HO):RZ p o p=some o:=if_pos rfl
def Ra{F:Hp}{p:Addr}{o:HO}(h:F p=some o):Sm (RZ p o) F:=λa x e=>by
 unfold RZ at e;split at e;.rename_i z;subst z;obtain rfl:=Q5 e;exact h
 .simp at e
def Kept(fp:List Addr)(H H':Hp):Prop:=∀a o,a∉fp->H a=some o->H' a=some o
def HK{α:Type}(xs:List α)(x:α):V0 (xs++[x]) (-1)=some x:=by unfold V0 WX;rw[if_neg<|by omega,if_pos<|by simp;omega];simp[show(-1+((xs.length:Int)+1)).toNat=xs.length by omega]
section
variable{X:Cx}{pos:Pos}
def Xr{j}{p:Pos}:PE X (.UnaryOp .USub (.Constant (.int 1) j p) pos)<|tC<|.int<|-1:=PE.imp (DA BE WD) λσ H Q h=>⟨1,rfl,h⟩
def Zx(K:Fg)(t:TE):TE:=XQ (Tn K) t<|tC<|.int<|-1
def Yc(K:Fg)(t:TE)(i:Int):TE:=XQ (Tn K) t<|tC<|.int i
def XN{K:Fg}{σ:L2.St}{H:Hp}{Q:VK}{t:TE}{p:Addr}{vs:List V}{v:V}(h:H p=some (.lst<|vs++[v]))(q:Q v H)(ht:∀Q:VK,Q (.ref p) H->t σ H Q):Zx K t σ H Q:=ht _<|.inl ⟨p,_,-1,v,rfl,rfl,SqL.of h,HK vs v,q⟩
def XJ{K:Fg}{σ:L2.St}{H:Hp}{Q:VK}{t:TE}{p:Addr}{vs:List V}{v:V}{i:Int}(h:H p=some (.tup vs))(hi:V0 vs i=some v)(q:Q v H)(ht:∀Q:VK,Q (.ref p) H->t σ H Q):Yc K t i σ H Q:=ht _<|.inr<|.inl ⟨p,_,i,v,rfl,rfl,SqT.of h,hi,q⟩
end
def Mc(i:Nat):Q6:=Q4 D.ix (eV i)<|QD D.neg<|eC<|.int 1
def Qcx(ds:List D)(d:D):D.ix (.lst<|ds++[d]) (.int<|-1)=some d:=by unfold D.ix JD;simp only;rw[if_neg<|by omega,if_pos<|by simp;omega];simp[show(-1+((ds.length:Int)+1)).toNat=ds.length by omega]
def YZ{k:Str}{d:D}{b:Bool}(h:Tb k d=some b):b=false/\∃x r,d=.tup (.str x::r)/\x≠k:=by
 unfold Tb at h;obtain⟨x,h1,h2⟩:=Qg h;split at h2;.simp at h2
 .rename_i hk;obtain rfl:=(Q5 h2).symm;unfold Pt at h1;split at h1;.obtain rfl:=Q5 h1;exact⟨rfl,_,_,rfl,hk⟩
  .simp at h1
def Yw{α:Type}(m:List α):m=[]\/∃m0 b,m=m0++[b]:=by
 rcases Xv m with h|⟨m0,b,h⟩;.exact .inl h
 .exact .inr ⟨m0,b,by rw[h,Xw]⟩
def W7(f:Bk->Option Bool)(m:BM)(b:Bk):Z9 f (m++[b])=f b:=by unfold Z9;simp
def Uc(f:Bk->Bk)(m:BM)(b:Bk):ZJ f (m++[b])=m++[f b]:=by unfold ZJ;simp
def P5(m:BM)(b:Bk):Qh (m++[b])=.lst (m.map Jx++[Jx b]):=by unfold Qh;simp
def S8:Bk->Option Str|.tb _ _=>some "table"|.pa _=>some "para"|.pl d=>Pt d
def Nz{b:Bk}{k:Str}(h:S8 b=some k):D.ix (Jx b) (.int 0)=some (.str k):=by cases b with|tb r l=>obtain rfl:=Q5 h;rfl|pa is=>obtain rfl:=Q5 h;rfl|pl d=>
  simp only[S8,Pt]at h;split at h
  .obtain rfl:=Q5 h;show((JD (_+1) 0).bind λk=>_)=_;unfold JD;simp
  .simp at h
def QgW{b:Bk}{c:Bool}(h:Vp b=some c):∃k,S8 b=some k/\c=decide (k="table"):=by cases b with|tb r l=>obtain rfl:=Q5 h;exact⟨_,rfl,rfl⟩|pa is=>obtain rfl:=Q5 h;exact⟨_,rfl,by decide⟩|pl d=>obtain⟨rfl,x,r,rfl,hx⟩:=YZ h;exact⟨x,rfl,by simp[hx]⟩
def Qe3{b:Bk}{c:Bool}(h:WB b=some c):∃k,S8 b=some k/\c=decide (k="para"):=by cases b with|tb r l=>obtain rfl:=Q5 h;exact⟨_,rfl,by decide⟩|pa is=>obtain rfl:=Q5 h;exact⟨_,rfl,rfl⟩|pl d=>obtain⟨rfl,x,r,rfl,hx⟩:=YZ h;exact⟨x,rfl,by simp[hx]⟩
def MZ(x y:Str):D.eqO (.str x) (.str y)=some (.bl<|decide<|x=y):=by unfold D.eqO;rw[UM,if_pos<|by decide,Xc];rfl
def Qdn(x y:Str):D.neO (.str x) (.str y)=some (.bl<|!decide (x=y)):=by unfold D.neO;rw[UM,if_pos<|by decide,Xc];rfl
def UR(i:Nat):Q6:=QD D.len<|eV i
def TB(i:Nat):Q6:=Q4 D.ix (Mc i)<|eC<|.int 0
def PF:Q6:=QH (Q4 D.gt (UR 0)<|eC<|.int 0)<|Q4 D.eqO (TB 0)<|eC<|.str "table"
def UI:Q6:=QH (Q4 D.gt (UR 1)<|eC<|.int 0)<|Q4 D.eqO (TB 1)<|eC<|.str "word"
def MC(i:Nat)(c:Q6):Q6:=Jf c<|Jf (Q4 D.eqO (UR i)<|eC<|.int 0)<|Q4 D.neO (TB i)<|eC<|.str "para"
def QbC{i:Nat}{e:Q8}{ds:List D}{d:D}(h:eV i e=some (.lst<|ds++[d])):Mc i e=some d:=by unfold Mc Q4;rw[h];exact Qcx ds d
def Mb{i:Nat}{e:Q8}{ds:List D}{d:D}{k:Str}(h:eV i e=some (.lst<|ds++[d]))(hk:D.ix d (.int 0)=some (.str k)):TB i e=some (.str k):=by unfold TB Q4;rw[QbC h];exact hk
def US{i:Nat}{e:Q8}{ds:List D}(h:eV i e=some (.lst ds)):UR i e=some (.int ds.length):=by unfold UR QD;rw[h];rfl
def Qaa{e:Q8}{m:BM}{b:Bool}(he:eV 0 e=some (Qh m))(h:Z9 Vp m=some b):PF e=some (.bl b):=by
 rcases Yw m with rfl|⟨m0,k,rfl⟩
 .obtain rfl:=Q5 h;unfold PF QH Q4;rw[US he];rfl
 .rw[W7]at h;obtain⟨x,hx,rfl⟩:=QgW h;rw[P5]at he;unfold PF QH Q4;rw[US he,Mb he<|Nz hx];show Zt (some<|.bl<|decide<|(0:Int)<((m0.map Jx++[Jx k]).length:Nat)) (D.eqO (.str x)<|.str "table") _=_;rw[show decide ((0:Int)<((m0.map Jx++[Jx k]).length:Nat))=true by simp,MZ];rfl
def Qb1{i:Im}{c:Bool}(h:UA i=some c):∃k,D.ix (YA i) (.int 0)=some (.str k)/\c=decide (k="word"):=by cases i with|wd x ns=>obtain rfl:=Q5 h;exact⟨_,rfl,rfl⟩|pl d=>obtain⟨rfl,x,r,rfl,hx⟩:=YZ h;refine⟨x,?_,by simp[hx]⟩;show((JD (_+1) 0).bind λk=>_)=_;unfold JD;simp
def Qab{e:Q8}{is:List Im}{b:Bool}(he:eV 1 e=some (.lst<|is.map YA))(h:YD (.pa is)=some b):UI e=some (.bl b):=by
 rcases Yw is with rfl|⟨m0,k,rfl⟩;.obtain rfl:=Q5 h;unfold UI QH Q4;rw[US he];rfl
 .have h':UA k=some b:=by unfold YD at h;simpa using h
  obtain⟨x,hx,rfl⟩:=Qb1 h';rw[Jj]at he;unfold UI QH Q4;rw[US he,Mb he hx];show Zt (some<|.bl<|decide<|(0:Int)<((m0.map YA++[k].map YA).length:Nat)) (D.eqO (.str x)<|.str "word") _=_;rw[show decide ((0:Int)<((m0.map YA++[k].map YA).length:Nat))=true by simp,MZ];rfl
def Az{i:Nat}{c:Q6}{e:Q8}{m:BM}{b:Bool}(hc:c e=some (.bl false))(he:eV i e=some (Qh m))(h:Z9 WB m=some b):MC i c e=some (.bl<|!b):=by
 unfold MC Jf;rw[hc];show Zt (Q4 D.eqO (UR i) (eC<|.int 0) e) (some<|.bl true) (Q4 D.neO (TB i) (eC<|.str "para") e)=_;unfold Q4;rcases Yw m with rfl|⟨m0,k,rfl⟩;.obtain rfl:=Q5 h;rw[US he];rfl
 .rw[W7]at h;obtain⟨x,hx,rfl⟩:=Qe3 h;rw[P5]at he;rw[US he,Mb he<|Nz hx];show Zt (D.eqO (.int ((m0.map Jx++[Jx k]).length:Nat))<|.int 0) (some<|.bl true) (D.neO (.str x)<|.str "para")=_;rw[show D.eqO (.int ((m0.map Jx++[Jx k]).length:Nat)) (.int 0)=some (.bl false)by unfold D.eqO;rw[Xa,if_pos<|by decide,UQ];rw[J0<|by simp;omega];rfl,Qdn];rfl
def Rp(F H:Hp)(p:Addr)(u:V):Prop:=∃vs t l w,H p=some (.lst<|vs++[.ref t])/\F t=some (.tup [.str "table",.ref l,w])/\u=.ref l
def Ro(F H:Hp)(p:Addr)(u:V):Prop:=∃vs t l us t2 n x,H p=some (.lst<|vs++[.ref t])/\F t=some (.tup [.str "para",.ref l])/\H l=some (.lst<|us++[.ref t2])/\F t2=some (.tup [.str "word",.str x,.ref n])/\u=.ref n
inductive spAl(K:Fg)(q:Bk->Option Bool)(A:Hp->Hp->Addr->V->Prop)(vs:List V)(H:Hp)(Q:VK)(dm:XK):Prop|mk(F:Hp)(m:BM)(p:Addr)(fp:List Addr)(b:Bool)(h1:Sm F H)(h2:vs=[.ref p])(h3:BH K F H m p fp)(h4:Z9 q m=some b)(h5:∀u H',Sm H H'->(b=false->u=.non)->(b=true->A F H p u)->Q u H'):spAl K q A vs H Q dm
def Xy{K:Fg}{H₀ F H:Hp}{σ:L2.St}{e:Q8}(s:Sm F H)(hs:∀(i:Nat)(d:D),e[i]?=some (some d)->∃v,σ[i]?=some (some v)/\Rep K F v d)(hl:σ.length=e.length):RS K H₀ ⟨F,H,np⟩ F H σ e []:=⟨s,.refl H,.refl F,λa o h=>.inl h,λj d h _=>hs j d h,λj d _ hj=>(nomatch hj),λj _ _ _ _ hj=>(nomatch hj),λj hj=>(nomatch hj),hl⟩
section
variable{P:Program}{w:World}{K:Fg}{mg:Str->Option Value}{ae:Heap}{x y z:Str}{st:Stmt}{k:Nat}
def QdI(h:Df K mg x st [y])(S:FnScope [y] [y]<|QN st)(hb:∀(f:Addr)(ah:Value)(A:Around)(af:List Env)(s:Shared)(H:Hp)(E:XK),Room k (A.deeper<|envOfC x (QN st) s.heap.objs.size f ah)->PSs (JK J9 P w K mg ae [y] x (QN st) f ah A af s H E).nox (Ju st) (ZX<|U5 (tDT (JK J9 P w K mg ae [y] x (QN st) f ah A af s H E).nox [] PF) (Yc K (Zx K<|J7 0) 1)<|tC .non)):Qb P w K mg ae (k+1) x [y]<|spAl K Vp Rp:=by
 obtain⟨f,fd,F,cz,hm⟩:=h;refine⟨f,fd,F.ok S (λvs H Q E q=>by obtain⟨_,_,_,_,_,_,hv,_⟩:=q;rw[hv];rfl) λah A af s H vs Q E hr q=>?_,cz,F.kp,hm⟩;obtain⟨Fz,m,p,fp,b,sm,hv,bh,hq,k⟩:=q;refine⟨_,hb f ah A af s H E hr,?_⟩;have bG:ZV [y] vs=[some<|V.ref p]:=by rw[hv];rfl
 rw[bG];obtain⟨s1,s2,r1⟩:=bh.frz sm;refine⟨⟨_,H,np⟩,_,[some<|Qh m],b,Xy s2 (λi d h=>?_) rfl,Qaa rfl hq,λF' H' g=>?_⟩;.cases i with
  |zero=>cases h;exact⟨_,rfl,r1⟩|succ i=>simp at h
 .cases b with
  |false=>exact ZI<|k .non H' g.hh (λ_=>rfl) λh=>nomatch h|true=>
   refine ZP ?_;rcases Yw m with rfl|⟨m0,bl,rfl⟩;.cases hq
   .rw[W7]at hq;cases bl with|tb rows lab=>obtain⟨us,t,l,u,_,a1,a2,a3,_⟩:=bh.row;refine XJ (g.hh _ _<|sm _ _ a2) rfl (k (.ref l) H' g.hh (λh=>nomatch h) λ_=>⟨us,t,l,u,a1,a2,rfl⟩) λQ q=>XN (g.hh _ _ a1) q λQ q=>⟨_,rfl,q⟩|pa is=>cases hq|pl d=>obtain⟨h,_⟩:=YZ hq;cases h
end
inductive spIo(K:Fg)(vs:List V)(H:Hp)(Q:VK)(dm:XK):Prop|mk(F:Hp)(u:V)(d:D)(k:Str)(h1:Sm F H)(h2:vs=[u])(h3:Rep K F u d)(h4:D.ix d (.int 0)=some (.str k))(h5:k="para"->∃t l,u=.ref t/\H t=some (.tup [.str "para",.ref l])/\∀H',Sm H H'->Q (.ref l) H')(h6:k≠"para"->∀H' q,Sm H H'->H q=none->H' q=some (.lst [])->Q (.ref q) H'):spIo K vs H Q dm
def Ay:Q6:=Q4 D.eqO (Q4 D.ix (eV 0)<|eC<|.int 0)<|eC<|.str "para"
def Gq:Q6:=Q4 D.gt (UR 0)<|eC<|.int 0
theorem Reps.lastR{K:Fg}{F:Hp}{d:D}:∀{ds:List D}{xs:List V},Reps K F xs (ds++[d])->∃ys v,xs=ys++[v]/\Rep K F v d|[],_,.cons h .nil=>⟨[],_,rfl,h⟩|_::_,_,.cons _ r=>by obtain⟨ys,v,rfl,h⟩:=Reps.lastR r;exact⟨_::ys,v,rfl,h⟩
def Ci{H H':Hp}{q:Addr}{o:HO}(s:Sm H H')(hq:H' q=none):Sm H<|upd H' q o:=s.upd _<|s.none hq
section
variable{P:Program}{w:World}{K:Fg}{mg:Str->Option Value}{ae:Heap}{x y z:Str}{st:Stmt}{k:Nat}
def QdE(h:Df K mg x st [y])(S:FnScope [y] [y]<|QN st)(hb:∀(f:Addr)(ah:Value)(A:Around)(af:List Env)(s:Shared)(H:Hp)(E:XK),Room k (A.deeper<|envOfC x (QN st) s.heap.objs.size f ah)->PSs (JK J9 P w K mg ae [y] x (QN st) f ah A af s H E).nox (Ju st) (ZX<|U5 (tDT (JK J9 P w K mg ae [y] x (QN st) f ah A af s H E).nox [] Ay) (Yc K (J7 0) 1)<|Tt Jm)):Qb P w K mg ae (k+1) x [y]<|spIo K:=by
 obtain⟨f,fd,F,cz,hm⟩:=h;refine⟨f,fd,F.ok S (λvs H Q E q=>by obtain⟨_,_,_,_,_,hv,_⟩:=q;rw[hv];rfl) λah A af s H vs Q E hr q=>?_,cz,F.kp,hm⟩;obtain⟨Fz,u,d,kd,sm,hv,r,hk,h5,h6⟩:=q;refine⟨_,hb f ah A af s H E hr,?_⟩;have bG:ZV [y] vs=[some u]:=by rw[hv];rfl
 rw[bG];refine⟨⟨_,H,np⟩,Fz,[some d],decide<|kd="para",Xy sm (λi d' h=>?_) rfl,?_,λF' H' g=>?_⟩;.cases i with
  |zero=>cases h;exact⟨_,rfl,r⟩|succ i=>simp at h
 .show((D.ix d<|.int 0).bind λx=>D.eqO x<|.str "para")=_;rw[hk];exact MZ _ _
 .by_cases e:kd="para"
  .rw[J2 e];obtain⟨t,l,rfl,ht,q⟩:=h5 e;exact ZP<|XJ (g.hh _ _ ht) rfl (q H' g.hh) λQ q=>⟨_,rfl,q⟩
  .rw[J0 e];exact ZI ⟨Zm _,λq hq=>h6 e _ q (Ci g.hh hq) (g.hh.none hq) Qu⟩
def QdH(h:Df K mg x st [y])(S:FnScope [y,z] [y]<|QN st)(hb:∀(f:Addr)(ah:Value)(A:Around)(af:List Env)(s:Shared)(H:Hp)(E:XK),Room k (A.deeper<|envOfC x (QN st) s.heap.objs.size f ah)->PSs (JK J9 P w K mg ae [y,z] x (QN st) f ah A af s H E).nox (Ju st) (ZY (Vm (U5 (tDT (JK J9 P w K mg ae [y,z] x (QN st) f ah A af s H E).nox [] Gq) (Yx (spIo K) [] E0<|Jc (Zx K<|J7 0) Jm)<|Tt Jm)<|W2 1)<|ZX<|U5 (tDT (JK J9 P w K mg ae [y,z] x (QN st) f ah A af s H E).nox [] UI) (Yc K (Zx K<|J7 1) 2)<|tC .non)):Qb P w K mg ae (k+1) x [y]<|spAl K YD Ro:=by
 obtain⟨f,fd,F,cz,hm⟩:=h;refine⟨f,fd,F.ok S (λvs H Q E q=>by obtain⟨_,_,_,_,_,_,hv,_⟩:=q;rw[hv];rfl) λah A af s H vs Q E hr q=>?_,cz,F.kp,hm⟩;obtain⟨Fz,m,p,fp,b,sm,hv,bh,hq,k⟩:=q;refine⟨_,hb f ah A af s H E hr,?_⟩;have bG:ZV [y,z] vs=[some<|V.ref p,none]:=by rw[hv];rfl
 rw[bG];obtain⟨s1,s2,r1⟩:=bh.frz sm;have one:∀{F:Hp}{v:V}{d:D},Sm F H->Rep K F v d->RS K H ⟨F,H,np⟩ F H [some v,none] [some d,none] []:=λs r=>Xy s (λi d' h=>by match i,h with|0,h=>cases h;exact⟨_,rfl,r⟩|1,h=>simp at h|i+2,h=>simp at h) rfl;have two:∀{F H':Hp}{u v:V}{d:D},Sm F H'->Rep K F v d->RS K H ⟨F,H',np⟩ F H' [some u,some v] [none,some d] []:=λs r=>Xy s (λi d' h=>by match i,h with|0,h=>simp at h|1,h=>cases h;exact⟨_,rfl,r⟩|i+2,h=>simp at h) rfl;have nil:∀{H':Hp}{q:Addr}{u:V},b=false->Sm H H'->H' q=some (.lst [])->ZX (U5 (tDT (JK J9 P w K mg ae [y,z] x (QN st) f ah A af s H E).nox [] UI) (Yc K (Zx K<|J7 1) 2)<|tC .non) {nx:=λ_ H'=>Q V.non H',rt:=Q} [some u,some<|.ref q] H':=λ{H' q u}hb s' dG=>⟨_,_,_,false,two (Ra dG)<|.lst (KR q _) .nil,rfl,λF2 H2 g2=>ZI<|k .non H2 (s'.trans g2.hh) (λ_=>rfl) λh=>by rw[hb]at h;cases h⟩;rcases Yw m with rfl|⟨m0,bl,rfl⟩
 .obtain rfl:=Q5 hq;refine⟨_,_,_,false,one s2 r1,rfl,λF' H' g=>ZI ⟨Zm _,λq hq=>nil rfl (Ci g.hh hq) Qu⟩⟩
 .rw[W7]at hq;refine⟨_,_,_,true,one s2 r1,?_,λF' H' g=>ZP ?_⟩
  .unfold Gq Q4;rw[P5,US rfl];show some (D.bl<|decide<|(0:Int)<((m0.map Jx++[Jx bl]).length:Nat))=_;simp
  .have par:∀{is:List Im}{us bZ:List V}{t l:Addr},YD (.pa is)=some b->H p=some (.lst<|bZ++[.ref t])->Fz t=some (.tup [.str "para",.ref l])->l∈fp->H l=some (.lst us)->Reps K (fz Fz H<|p::fp) us (is.map YA)->(∀H2,Sm H H2->b=true->Yc K (Zx K<|J7 1) 2 [some<|.ref p,some<|.ref l] H2 Q)->Yx (spIo K) [] E0 (Jc (Zx K<|J7 0) Jm) [some<|V.ref p,none] H' λv H1=>ZX (U5 (tDT (JK J9 P w K mg ae [y,z] x (QN st) f ah A af s H E).nox [] UI) (Yc K (Zx K<|J7 1) 2)<|tC .non) {nx:=λ_ H'=>Q V.non H',rt:=Q} [some<|V.ref p,some v] H1:=λ{is us bZ t l}hw a1 a2 lf a3 rr fin=>by
    have rl:Rep K (fz Fz H<|p::fp) (.ref l)<|.lst<|is.map YA:=.lst ((TR<|Qy _ lf).trans a3) rr;refine XN (g.hh _ _ a1) ⟨_,.ref t,Jx<|.pa is,"para",s2.trans g.hh,rfl,.tup (s1 _ _ a2)<|.cons (.str _)<|.cons rl .nil,rfl,λ_=>⟨t,l,rfl,g.hh _ _<|sm _ _ a2,λH2 h2=>?_⟩,λh=>absurd rfl h⟩ λQ q=>⟨_,rfl,q⟩;have h3:=g.hh.trans h2;refine⟨_,_,_,b,two (s2.trans h3) rl,Qab rfl hw,λF3 H3 g3=>?_⟩;cases b with
    |false=>exact ZI<|k .non H3 (h3.trans g3.hh) (λ_=>rfl) λh=>nomatch h|true=>exact ZP<|fin H3 (h3.trans g3.hh) rfl
   have kB:∀{kd:Str},b=false->S8 bl=some kd->kd≠"para"->Yx (spIo K) [] E0 (Jc (Zx K<|J7 0) Jm) [some<|V.ref p,none] H' λv H1=>ZX (U5 (tDT (JK J9 P w K mg ae [y,z] x (QN st) f ah A af s H E).nox [] UI) (Yc K (Zx K<|J7 1) 2)<|tC .non) {nx:=λ_ H'=>Q V.non H',rt:=Q} [some<|V.ref p,some v] H1:=λ{kd}nK hk hn=>by
    rw[P5]at r1;obtain⟨ys,u,hp,ru⟩:∃ys u,H p=some (.lst<|ys++[u])/\Rep K (fz Fz H<|p::fp) u (Jx bl):=by cases r1 with|lst hl rs=>
      obtain⟨ys,u,rfl,r⟩:=rs.lastR;exact⟨ys,u,s2 _ _ hl,r⟩
    exact XN (g.hh _ _ hp) ⟨_,u,Jx bl,kd,s2.trans g.hh,rfl,ru,Nz hk,λh=>absurd h hn,λ_ H2 q h2 hq dG=>nil nK (g.hh.trans h2) dG⟩ λQ q=>⟨_,rfl,q⟩
   cases bl with
   |pa is=>cases b with
    |false=>
     obtain⟨us,t,l,bZ,lf,a1,a2,a3,a4,a5,_⟩:=bh.item;exact par hq a1 a2 lf a3 a5 λ_ _ h=>nomatch h|true=>
     rcases Yw is with rfl|⟨dD,i,rfl⟩;.cases hq
     .have h':UA i=some true:=by unfold YD at hq;simpa using hq
      cases i with|pl d=>obtain⟨h,_⟩:=YZ h';cases h|wd xx ns=>obtain⟨us,t,l,bZ,t2,n,⟨nf,lf⟩,a1,a2,a3,a4,a5,a6,_⟩:=bh.note;exact par hq a1 a2 lf a3 a6 λH2 s3 _=>XJ (s3 _ _<|sm _ _ a4) rfl (k (.ref n) H2 s3 (λh=>nomatch h) λ_=>⟨us,t,l,bZ,t2,n,xx,a1,a2,a3,a4,rfl⟩) λQ q=>XN (s3 _ _ a3) q λQ q=>⟨_,rfl,q⟩
   |tb rows lab=>
    obtain rfl:=Q5 hq;exact kB rfl rfl<|by decide|pl d=>obtain⟨rfl,kd,r,rfl,hk⟩:=YZ hq;exact kB rfl rfl hk
end
inductive spT(vs:List V)(H:Hp)(Q:VK)(dm:XK):Prop|mk(x:Str)(u:V)(h2:vs=[u,.str x])(hx:x.length<=100000)(h3:(u=.non/\∀H',Sm H H'->Q (.bl false) H')\/∃l zs,u=.ref l/\H l=some (.lst zs)/\zs.length<100000/\∀H',Kept [l] H H'->H' l=some (.lst<|zs++[.str<|WC x])->Q (.bl true) H'):spT vs H Q dm
def Md(i:Nat):Q6:=Q4 D.ix (Q4 (QX Vj) (eV i)<|eC<|.str " ")<|eC<|.int 2
def QbD{i:Nat}{e:Q8}{x:Str}(h:eV i e=some (.str x))(hx:x.length<=100000):Md i e=some (.str<|WC x):=by unfold Md Q4;rw[h];show(Vj x " ").bind (λa=>D.ix a<|.int 2)=_;unfold Vj;rw[if_pos ⟨rfl,hx⟩];rfl
def Sm.kept{H H':Hp}(s:Sm H H')(fp:List Addr):Kept fp H H':=λa o _ h=>s a o h
theorem Kept.upd{H H':Hp}{fp:List Addr}(k:Kept fp H H'){l:Addr}(o:HO)(h:l∈fp):Kept fp H<|L2.upd H' l o:=λa x ha e=>by have:a≠l:=λz=>ha<|z▸h;rw[QY this];exact k a x ha e
def Km(K:Fg)(F H:Hp)(p:Addr)(fp:List Addr)(N:Addr->Prop)(Q:VK)(r:Bool×BM):Prop:=∀F' H' cU,Sm F F'->Sm F' H'->Kept (p::fp) H H'->(∀a o,F' a=some o->F a=some o\/a∈p::fp\/N a)->BH K F' H' r.2 p cU->(∀a∈cU,a∈fp\/N a)->Q (.bl r.1) H'
inductive spIt(K:Fg)(vs:List V)(H:Hp)(Q:VK)(dm:XK):Prop|mk(F G:Hp)(m:BM)(p:Addr)(fp:List Addr)(v:V)(d:D)(r:Bool×BM)(h1:Sm F H)(h2:vs=[.ref p,v])(h3:BH K F H m p fp)(h4:Sm G H)(h5:Rep K G v d)(h6:∀a o,G a=some o->F a=none/\a∉p::fp)(h7:Ux d m=some r)(h8:Km K F H p fp (λa=>G a≠none\/H a=none) Q r):spIt K vs H Q dm
def Qg0(d:D):(∃x,d=.tup [.str "word",.str x,.lst []]/\Wk d=.wd x [])\/Wk d=.pl d:=by
 unfold Wk;split
 .split;.rename_i h;subst h;exact .inl ⟨_,rfl,rfl⟩
  .exact .inr rfl
 .exact .inr rfl
def QgZ(d:D):(∃l,d=.tup [.str "table",.lst [],.str l]/\WK d=.tb [] (.str l))\/d=.tup [.str "para",.lst []]/\WK d=.pa []\/WK d=.pl d:=by
 unfold WK;split
 .split;.rename_i h;subst h;exact .inl ⟨_,rfl,rfl⟩
  .exact .inr<|.inr rfl
 .split;.rename_i h;subst h;exact .inr<|.inl ⟨rfl,rfl⟩
  .exact .inr<|.inr rfl
 .exact .inr<|.inr rfl
def Rep.tI{K:Fg}{F:Hp}{v:V}{ds:List D}(h:Rep K F v<|.tup ds):∃a xs,v=.ref a/\F a=some (.tup xs)/\Reps K F xs ds:=by cases h with|tup a b=>exact⟨_,_,rfl,a,b⟩
def Rep.lI{K:Fg}{F:Hp}{v:V}{ds:List D}(h:Rep K F v<|.lst ds):∃a xs,v=.ref a/\F a=some (.lst xs)/\Reps K F xs ds:=by cases h with|lst a b=>exact⟨_,_,rfl,a,b⟩
def Reps.co{K:Fg}{F:Hp}{xs:List V}{d:D}{ds:List D}(h:Reps K F xs<|d::ds):∃x ys,xs=x::ys/\Rep K F x d/\Reps K F ys ds:=by cases h with|cons r rs=>exact⟨_,_,rfl,r,rs⟩
def Reps.ni{K:Fg}{F:Hp}{xs:List V}(h:Reps K F xs []):xs=[]:=by cases h;rfl
noncomputable def wo(G:Hp)(n:Addr):Hp:=λa=>if a=n then none else G a
def NJ(G:Hp)(n:Addr):Sm (wo G n) G:=λa o h=>by
 unfold wo at h;split at h;.simp at h
 .exact h
def BK(G:Hp)(n:Addr):wo G n n=none:=if_pos rfl
def BJ{G:Hp}{n a:Addr}(h:a≠n):wo G n a=G a:=if_neg h
section
variable{K:Fg}{F G H:Hp}{v:V}{d:D}
def Ea(r:Rep K G v d)(s:Sm G H)(sF:Sm F H)(dis:∀a o,G a=some o->F a=none):∃F' fq,Sm F F'/\Sm F' H/\ImH K F' H v (Wk d) fq/\(∀a o,F' a=some o->F a=some o\/G a≠none)/\(∀a∈fq,G a≠none)/\fq.Nodup:=by
 rcases Qg0 d with⟨x,rfl,e⟩|e<;>rw[e]
 .obtain⟨t,_,rfl,ht,r1⟩:=r.tI;obtain⟨_,_,rfl,q1,r2⟩:=r1.co;obtain⟨_,_,rfl,q2,r3⟩:=r2.co;obtain⟨_,_,rfl,q3,r4⟩:=r3.co;obtain rfl:=r4.ni;obtain rfl:=q1.sI;obtain rfl:=q2.sI;obtain⟨n,_,rfl,hn,r5⟩:=q3.lI;obtain rfl:=r5.ni;have tn:t≠n:=λz=>by rw[z,hn]at ht;simp at ht
  have sw:Sm (wo G n) H:=(NJ G n).trans s;refine⟨un F<|wo G n,[n],WL _ _,Wm sF sw,.wd (Wl sF sw _ _<|by rw[BJ tn];exact ht) (s _ _ hn) ?_,λa o h=>?_,λa ha=>?_,by simp⟩;.unfold un;rw[dis n _ hn];exact BK G n
  .rcases Rk h with z|z;.exact .inl z
   .exact .inr<|by rw[NJ G n a o z];simp
  .rw[q_1.mp ha,hn];simp
 .refine⟨un F G,[],WL _ _,Wm sF s,.pl<|r.mono<|Wl sF s,λa o h=>?_,λa ha=>(nomatch ha),by simp⟩;rcases Rk h with z|z;.exact .inl z
  .exact .inr<|by rw[z];simp
def EZ(r:Rep K G v d)(s:Sm G H)(sF:Sm F H)(dis:∀a o,G a=some o->F a=none):∃F' fq,Sm F F'/\Sm F' H/\BkH K F' H v (WK d) fq/\(∀a o,F' a=some o->F a=some o\/G a≠none)/\(∀a∈fq,G a≠none)/\fq.Nodup:=by
 have one:∀{n:Addr}{xs:List V},G n=some (.lst xs)->Sm F (un F<|wo G n)/\Sm (un F<|wo G n) H/\(∀a o,a≠n->G a=some o->un F (wo G n) a=some o)/\un F (wo G n) n=none/\∀a o,un F (wo G n) a=some o->F a=some o\/G a≠none:=λ{n xs}hn=>by
  have sw:Sm (wo G n) H:=(NJ G n).trans s;refine⟨WL _ _,Wm sF sw,λa o ha h=>Wl sF sw _ _<|by rw[BJ ha];exact h,?_,λa o h=>?_⟩
  .unfold un;rw[dis n _ hn];exact BK G n
  .rcases Rk h with z|z;.exact .inl z
   .exact .inr<|by rw[NJ G n a o z];simp
 rcases QgZ d with⟨lab,rfl,e⟩|⟨rfl,e⟩|e<;>rw[e]
 .obtain⟨t,_,rfl,ht,r1⟩:=r.tI;obtain⟨_,_,rfl,q1,r2⟩:=r1.co;obtain⟨_,_,rfl,q2,r3⟩:=r2.co;obtain⟨w,_,rfl,q3,r4⟩:=r3.co;obtain rfl:=r4.ni;obtain rfl:=q1.sI;obtain⟨n,_,rfl,hn,r5⟩:=q2.lI;obtain rfl:=r5.ni;have tn:t≠n:=λz=>by rw[z,hn]at ht;simp at ht
  obtain⟨o1,o2,o3,o4,o5⟩:=one hn;exact⟨_,[n],o1,o2,.tb (o3 _ _ tn ht) (q3.pl rfl) (s _ _ hn) o4,o5,λa ha=>by rw[q_1.mp ha,hn];simp,by simp⟩
 .obtain⟨t,_,rfl,ht,r1⟩:=r.tI;obtain⟨_,_,rfl,q1,r2⟩:=r1.co;obtain⟨_,_,rfl,q2,r3⟩:=r2.co;obtain rfl:=r3.ni;obtain rfl:=q1.sI;obtain⟨n,_,rfl,hn,r5⟩:=q2.lI;obtain rfl:=r5.ni;have tn:t≠n:=λz=>by rw[z,hn]at ht;simp at ht
  obtain⟨o1,o2,o3,o4,o5⟩:=one hn;exact⟨_,[n],o1,o2,.pa (o3 _ _ tn ht) (s _ _ hn) o4 .nil,o5,λa ha=>by rw[q_1.mp ha,hn];simp,by simp⟩
 .refine⟨un F G,[],WL _ _,Wm sF s,.pl<|r.mono<|Wl sF s,λa o h=>?_,λa ha=>(nomatch ha),by simp⟩;rcases Rk h with z|z;.exact .inl z
  .exact .inr<|by rw[z];simp
end
section
variable{P:Program}{w:World}{K:Fg}{mg:Str->Option Value}{ae:Heap}{x y z:Str}{st:Stmt}{k:Nat}
def okT(h:Df K mg x st [y,z])(S:FnScope [y,z] [y,z]<|QN st)(hb:∀(f:Addr)(ah:Value)(A:Around)(af:List Env)(s:Shared)(H:Hp)(E:XK),Room k (A.deeper<|envOfC x (QN st) s.heap.objs.size f ah)->PSs (JK J9 P w K mg ae [y,z] x (QN st) f ah A af s H E).nox (Ju st) (ZY (XM (tB<|Ke<|J7 0) (ZX<|tC<|.bl false) XO)<|ZY (Vo<|Vn K "list" Vl (J7 0)<|Jc (tD (JK J9 P w K mg ae [y,z] x (QN st) f ah A af s H E).nox []<|Md 1) Jm)<|ZX<|tC<|.bl true)):Qb P w K mg ae (k+1) x [y,z] spT:=by
 obtain⟨f,fd,F,cz,hm⟩:=h;refine⟨f,fd,F.ok S (λvs H Q E q=>by obtain⟨_,_,hv,_⟩:=q;rw[hv];rfl) λah A af s H vs Q E hr q=>?_,cz,F.kp,hm⟩;obtain⟨xx,u,hv,hx,h3⟩:=q;refine⟨_,hb f ah A af s H E hr,?_⟩;have bG:ZV [y,z] vs=[some u,some<|.str xx]:=by rw[hv];rfl
 rw[bG];have hz:=sizeLine_eq;rcases h3 with⟨rfl,q⟩|⟨l,zs,rfl,hl,hn,q⟩;.exact⟨.non,rfl,true,rfl,ZP<|q H<|.refl H⟩
 .refine⟨.ref l,rfl,false,rfl,ZI ⟨.ref l,rfl,.inl ⟨rfl,_,SqL.of hl⟩,⟨λ_=>none,H,np⟩,λ_=>none,[none,some<|.str xx],_,Xy (λ_ _ h=>by simp at h) (λi d h=>?_) rfl,QbD rfl hx,λv F' H' g r=>?_⟩⟩;.match i,h with
   |0,h=>simp at h|1,h=>cases h;exact⟨_,rfl,.str _⟩|i+2,h=>simp at h
  .obtain rfl:=r.sI;refine⟨l,zs,_,rfl,rfl,g.hh _ _ hl,by omega,q _ ((g.hh.kept [l]).upd _<|by simp) Qu⟩
def QdF(h:Df K mg x st [y,z])(S:FnScope [y,z] [y,z]<|QN st)(hb:∀(f:Addr)(ah:Value)(A:Around)(af:List Env)(s:Shared)(H:Hp)(E:XK),Room k (A.deeper<|envOfC x (QN st) s.heap.objs.size f ah)->PSs (JK J9 P w K mg ae [y,z] x (QN st) f ah A af s H E).nox (Ju st) (ZY (XM (tDT (JK J9 P w K mg ae [y,z] x (QN st) f ah A af s H E).nox []<|MC 0<|QD D.isN<|eV 1) (ZX<|tC<|.bl false) XO)<|ZY (Vo<|Vn K "list" Vl (Yc K (Zx K<|J7 0) 1)<|Jc (J7 1) Jm)<|ZX<|tC<|.bl true)):Qb P w K mg ae (k+1) x [y,z]<|spIt K:=by
 obtain⟨f,fd,F,cz,hm⟩:=h;refine⟨f,fd,F.ok S (λvs H Q E q=>by obtain⟨_,_,_,_,_,_,_,_,_,hv,_⟩:=q;rw[hv];rfl) λah A af s H vs Q E hr q=>?_,cz,F.kp,hm⟩;obtain⟨Fz,G,m,p,fp,v,d,r,sm,hv,bh,sG,rv,dis,ha,k⟩:=q;refine⟨_,hb f ah A af s H E hr,?_⟩;have bG:ZV [y,z] vs=[some<|.ref p,some v]:=by rw[hv];rfl
 rw[bG];have hz:=sizeLine_eq;obtain⟨s1,s2,r1⟩:=bh.frz sm;have rs:RS K H ⟨un (fz Fz H<|p::fp) G,H,np⟩ (un (fz Fz H<|p::fp) G) H [some<|.ref p,some v] [some<|Qh m,some d] []:=Xy (Wm s2 sG) (λi d' h=>by match i,h with
  |0,h=>cases h;exact⟨_,rfl,r1.mono<|WL _ _⟩|1,h=>cases h;exact⟨_,rfl,rv.mono<|Wl s2 sG⟩|i+2,h=>simp at h) rfl;have same:∀{b:Bool}{H':Hp},Sm H H'->r=(b,m)->Q (.bl b) H':=λ{b H'}s e=>by subst e;refine k Fz H' fp (.refl Fz) (sm.trans s) (s.kept _) (λa o h=>.inl h) (bh.gr<|go sm s) λa ha=>.inl ha
 unfold Ux at ha;split at ha;.obtain rfl:=Q5 ha;exact⟨_,_,_,true,rs,rfl,λF' H' g=>ZP<|same g.hh rfl⟩
 .split at ha
  .rename_i ds cM;obtain⟨b,eH,rfl⟩:=Z0 ha;refine⟨_,_,_,!b,rs,Az rfl rfl eH,λF' H' g=>?_⟩;cases b with
   |false=>exact ZP<|same g.hh rfl|true=>
    refine ZI ?_;rcases Yw m with rfl|⟨m0,bl,rfl⟩;.cases eH
    .rw[W7]at eH;cases bl with
     |tb rows lab=>cases eH|pl d=>obtain⟨h,_⟩:=YZ eH;cases h|pa is=>
      have fS:=bh.gr<|go sm g.hh;have lV:=sm.trans g.hh;obtain⟨F1,fq,n1,n2,n3,n4,n5,n6⟩:=Ea rv (sG.trans g.hh) lV λa o h=>(dis a o h).1;have g1:∀a∈p::fp,F1 a=none:=λa ha=>by cases e:F1 a with
       |none=>rfl|some o=>
        rcases n4 a o e with z|z;.rw[(bh.at a ha).2]at z;simp at z
        .obtain⟨o',e'⟩:=q_57.mp z;exact absurd ha (dis a o' e').2
      have cE:BH K F1 H' (m0++[.pa is]) p fp:=by
       obtain⟨us,hp,fn,b,nd⟩:=fS;exact⟨us,hp,g1 p JY,b.mono n1 (λa _ o e=>e) λa ha=>g1 a<|Qy _ ha,nd⟩
      obtain⟨us,t,l,bZ,lf,a1,a2,a3,a4,_,a5⟩:=cE.item;have eD:is.length<100000:=by
       simp only[ZO,XC,Ja,VI,U2]at cM;exact of_decide_eq_true cM.2.2.1.1
      refine XJ (K:=K) (t:=Zx K<|J7 0) (i:=1) (v:=.ref l) (n2 _ _ a2) rfl ⟨.inl ⟨rfl,_,SqL.of a3⟩,v,rfl,l,_,v,rfl,rfl,a3,by omega,?_⟩ λQ q=>XN a1 q λQ q=>⟨_,rfl,q⟩;rw[Uc]at k;have dq:∀a∈fq,a∉p::fp:=λa ha=>by
       obtain⟨o,e⟩:=q_57.mp<|n5 a ha;exact(dis a o e).2
      have iz:(p::(fp++fq)).Nodup:=by
       obtain⟨_,_,_,_,nd⟩:=cE;have nn:=q_25.mp nd;refine q_25.mpr ⟨λz=>?_,q_55.mpr ⟨nn.2,n6,λa ha b hb e=>dq b hb<|Qy _<|e▸ha⟩⟩;rcases q_8.mp z with z|z;.exact nn.1 z
       .exact dq p z JY
      have fl:F1 l=none:=g1 l<|Qy _ lf;refine k F1 _ (fp++fq) n1 (n2.upd _ fl) ((g.hh.kept _).upd _<|Qy _ lf) (λa o h=>?_) (a5 v _ fq n3 iz) λa ha=>?_
      .rcases n4 a o h with z|z;.exact .inl z
       .exact .inr<|.inr<|.inl z
      .rcases q_8.mp ha with z|z;.exact .inl z
       .exact .inr<|.inl<|n5 a z
  .simp at ha
 .simp at ha
end
def BRes(K:Fg):WO BM:=λm F0 F H=>∃p fp,F0.p=yp p/\BH K F H m p fp/\∀a∈p::fp,F0.h a=none
theorem BRes.gr(K:Fg):UB<|BRes K:=λm F0 F H F' H'⟨p,fp,h1,h2,h3⟩g=>⟨p,fp,h1,h2.gr g,h3⟩
inductive tRB(X:Cx)(b:Zf)(Dn:Ends)(σ:L2.St)(H:Hp):Prop|mk(F0:Fz)(F:Hp)(e:Q8)(m:BM)(r:Bool×BM)(h1:RS X.K X.H₀ F0 F H σ e [J1 0])(h2:BRes X.K m F0 F H)(h0:e.length<=1000)(h3:b e m=some r)(h4:∀F' H',Sm F F'->Sm F' H'->Sm F0.h H'->(∀a o,F' a=some o->F0.f a=some o\/F0.h a=none)->BRes X.K r.2 F0 F' H'->Dn.rt (.bl r.1) H'):tRB X b Dn σ H
def DB:PinO [J1 0]:=λi hi=>by rw[q_1.mp hi];exact Qm _
def BH.to{K:Fg}{F H H':Hp}{m:BM}{p:Addr}{fp:List Addr}(h:BH K F H m p fp)(k:Uu (p::fp) H H'):BH K F H' m p fp:=by have ha:=h.at;obtain⟨vs,hp,fn,b,nd⟩:=h;exact⟨vs,k p JY _ hp,fn,b.mono (.refl F) (λa h=>k a<|Qy _ h) λa h=>(ha a<|Qy _ h).2,nd⟩
section
variable{X:Cx}{pos:Pos}{ba bb:Zf}
def Qhh{i:Nat}{F0:Fz}{F H:Hp}{σ:L2.St}{e:Q8}{m:BM}{O:List Nat}(hO:PinO O)(hi:J1 i∈O)(rs:RS X.K X.H₀ F0 F H σ e O)(res:BRes X.K m F0 F H)(hl:e.length<=1000):∃F1,Sm F F1/\RS X.K X.H₀ ⟨F1,H,np⟩ F1 H σ (e.set i<|some<|Qh m) []:=by obtain⟨p,fp,hp,bh,hn⟩:=res;obtain⟨s1,s2,r1⟩:=bh.frz rs.fh;obtain⟨q,hq,hσ⟩:=rs.pin i hi;rw[hp]at hq;obtain rfl:=Q5 hq;exact⟨_,s1,(rs.view hO hl s1 s2).see hσ r1⟩
def RR{c:Expr}{A rest:List Stmt}{cv:Q6}(hc:PT X c<|tDT X [] cv)(ha:PSs X A<|tRB X ba)(hb:PSs X rest<|tRB X bb):PSs X (.If c A [] pos::rest)<|tRB X<|V2 cv ba bb:=PSs.imp (Z1 (Yt hc ha Yu) hb)<|by
  rintro Dn σ H⟨F0,F,en,m,r,rs,res,hl,z,k⟩;obtain⟨F1,s1,bq⟩:=Qhh DB (i:=0) (by simp) rs res hl;unfold V2 at z;split at z;.rename_i e1;exact⟨_,F1,_,true,bq,e1,λF' H' g=>ZP ⟨_,F,en,m,r,rs.grow<|go rs.fh g.hh,BRes.gr X.K _ _ _ _ _ _ res<|go rs.fh g.hh,hl,z,k⟩⟩
  .rename_i e1;exact⟨_,F1,_,false,bq,e1,λF' H' g=>ZI ⟨_,F,en,m,r,rs.grow<|go rs.fh g.hh,BRes.gr X.K _ _ _ _ _ _ res<|go rs.fh g.hh,hl,z,k⟩⟩
  .simp at z
def Lu{st:Stmt}(h:PS X st<|ZX<|tC<|.bl false):PSs X [st]<|tRB X S5:=PSs.imp (ZT h)<|by rintro Dn σ H⟨F0,F,en,m,r,rs,res,hl,z,k⟩;obtain rfl:=Q5 z;exact k F H (.refl F) rs.fh rs.hh rs.fr res
def NX(K:Fg)(q:Bk->Option Bool)(U:Str->Bk->Bk)(A:Hp->Hp->Addr->V->Prop):Prop:=∀(F H:Hp)(m:BM)(p:Addr)(fp:List Addr)(u:V),BH K F H m p fp->Z9 q m=some true->A F H p u->ZO m=true->∃l zs,u=.ref l/\l∈fp/\H l=some (.lst zs)/\zs.length<100000/\∀y,BH K F (upd H l<|.lst<|zs++[.str y]) (ZJ (U y) m) p fp
def DZ{st:Stmt}{q:Bk->Option Bool}{U:Str->Bk->Bk}{A:Hp->Hp->Addr->V->Prop}(hA:NX X.K q U A)(h:PS X st<|ZX<|Yx spT [] E0<|Jc (Yx (spAl X.K q A) [] E0<|Jc (J7 0) Jm)<|Jc (J7 1) Jm):PSs X [st]<|tRB X<|T1 q U:=PSs.imp (ZT h)<|by
  rintro Dn σ H⟨F0,F,en,m,r,rs,res,hl,z,k⟩;unfold T1 at z;split at z
  .rename_i x hx;split at z
   .rename_i hh;obtain⟨b,hb,rfl⟩:=Z0 z;obtain⟨p,fp,hp,bh,hn⟩:=res;obtain⟨p',aZ,hσ⟩:=rs.pin 0 (by simp);rw[hp]at aZ;obtain rfl:=Q5 aZ;obtain⟨v1,s1,r1⟩:=rs.slot 1 _ (Zi hx) (by simp[J1]);obtain rfl:=r1.sI;refine⟨_,hσ,F,m,p,fp,b,rs.fh,rfl,bh,hb,λu H' sH u0 u1=>⟨_,s1,x,u,rfl,hh.1,?_⟩⟩;cases b with|false=>exact .inl ⟨u0 rfl,λH2 s2=>k F H2 (.refl F) ((rs.fh.trans sH).trans s2) ((rs.hh.trans sH).trans s2) rs.fr ⟨p,fp,hp,bh.gr<|go rs.fh<|sH.trans s2,hn⟩⟩|true=>
     obtain⟨l,zs,rfl,lf,ee,hz,nx⟩:=hA F H m p fp u bh hb (u1 rfl) hh.2;refine .inr ⟨l,zs,rfl,sH _ _ ee,hz,λH2 kp gF=>?_⟩;have lm:l∈p::fp:=Qy _ lf;have fl:=(bh.at l lm).2;refine k F H2 (.refl F) (λa o h=>kp a o (λz=>by rw[q_1.mp z,fl]at h;simp at h)<|sH _ _<|rs.fh a o h) (λa o h=>kp a o (λz=>by rw[q_1.mp z,hn l lm]at h;simp at h)<|sH _ _<|rs.hh a o h) rs.fr ⟨p,fp,hp,(nx<|WC x).to λa ha o h=>?_,hn⟩;by_cases e:a=l
     .subst e;rw[Qu]at h;rw[gF];exact h
     .rw[QY e]at h;exact kp a o (λz=>e<|q_1.mp z)<|sH _ _ h
   .simp at z
  .simp at z
end
def XF{α:Type}{xs ys:List α}{x y:α}(h:xs++[x]=ys++[y]):x=y:=by have:=List.append_inj' h rfl;simpa using this.2
def QbT(K:Fg):NX K Vp Uo Rp:=λF H m p fp u bh hq⟨vs,t,l,w,h1,h2,h3⟩hs=>by
 rcases Yw m with rfl|⟨m0,bl,rfl⟩;.cases hq
 .rw[W7]at hq;cases bl with
  |pa is=>cases hq|pl d=>obtain⟨h,_⟩:=YZ hq;cases h|tb rows lab=>
   obtain⟨bZ,t',l',u',lf,a1,a2,a3,a4⟩:=bh.row;rw[h1]at a1;have e:=XF<|HO.lst.inj<|Q5 a1;cases e;rw[h2]at a2;have e2:=HO.tup.inj<|Q5 a2;simp only[List.cons.injEq,V.ref.injEq,true_and]at e2;obtain⟨rfl,_⟩:=e2;have eD:rows.length<100000:=by
    simp only[ZO,XC,Ja,VI,U2]at hs;exact of_decide_eq_true hs.2.2.1
   exact⟨l,_,h3,lf,a3,by rw[Qr];exact eD,λy=>by rw[Uc];exact a4 y⟩
def QbS(K:Fg):NX K YD W9 Ro:=λF H m p fp u bh hq⟨vs,t,l,us,t2,n,x,h1,h2,h3,h4,h5⟩hs=>by
 rcases Yw m with rfl|⟨m0,bl,rfl⟩;.cases hq
 .rw[W7]at hq;cases bl with|tb rows lab=>cases hq|pl d=>obtain⟨h,_⟩:=YZ hq;cases h|pa is=>
   rcases Yw is with rfl|⟨dD,i,rfl⟩;.cases hq
   .have h':UA i=some true:=by unfold YD at hq;simpa using hq
    cases i with
    |pl d=>obtain⟨h,_⟩:=YZ h';cases h|wd xx ns=>
     obtain⟨bZ,t',l',ic,lP,n',⟨nf,lf⟩,a1,a2,a3,a4,a5,_,a6⟩:=bh.note;rw[h1]at a1;cases XF<|HO.lst.inj<|Q5 a1;rw[h2]at a2;have e2:=HO.tup.inj<|Q5 a2;simp only[List.cons.injEq,V.ref.injEq,true_and,and_true]at e2;subst e2;rw[h3]at a3;cases XF<|HO.lst.inj<|Q5 a3;rw[h4]at a4;have e3:=HO.tup.inj<|Q5 a4;simp only[List.cons.injEq,V.ref.injEq,true_and,and_true]at e3;obtain⟨_,rfl⟩:=e3;have eD:ns.length<100000:=by
      simp only[ZO,XC,Ja,VI,U2,Rc]at hs;exact of_decide_eq_true hs.2.2.1.2.2.1
     exact⟨n,_,h5,nf,a5,by rw[Qr];exact eD,λy=>by rw[Uc];have:=a6 y;unfold W9;simpa[O9]using this⟩
def BH.wid{K:Fg}{F F1 H:Hp}{m:BM}{p:Addr}{fp:List Addr}(h:BH K F H m p fp)(s:Sm F F1)(n:∀a∈p::fp,F1 a=none):BH K F1 H m p fp:=by obtain⟨us,hp,fn,b,nd⟩:=h;exact⟨us,hp,n p JY,b.mono s (λa _ o e=>e) λa ha=>n a<|Qy _ ha,nd⟩
def BH.nod{K:Fg}{F H:Hp}{m:BM}{p:Addr}{fp fq:List Addr}(h:BH K F H m p fp)(n:fq.Nodup)(dq:∀a∈fq,a∉p::fp):(p::(fp++fq)).Nodup:=by
 obtain⟨_,_,_,_,nd⟩:=h;have nn:=q_25.mp nd;refine q_25.mpr ⟨λz=>?_,q_55.mpr ⟨nn.2,n,λa ha b hb e=>dq b hb<|Qy _<|e▸ha⟩⟩;rcases q_8.mp z with z|z;.exact nn.1 z
 .exact dq p z JY
def UZ{H F' H':Hp}(g:Gr (λ_=>none) H F' H'){a:Addr}{o:HO}(h:F' a=some o):H a=none:=by
 rcases g.fr a o h with z|z;.simp at z
 .exact z
section
variable{X:Cx}{pos:Pos}
def QfV{cR:List Stmt}{fb fi:List D->Option D}(h:PSs X cR<|ZY (Vm (Yx (spD X.K fb) [] E0<|Jc (J7 1) Jm)<|W2 2)<|ZY (XM (tB<|Ke<|J7 2) (ZX<|Yx (spIt X.K) [] E0<|Jc (J7 0)<|Jc (Yx (spD X.K fi) [] E0<|Jc (J7 1) Jm) Jm) XO)<|ZY (Vo<|Vn X.K "list" Vl (J7 0)<|Jc (J7 2) Jm)<|ZX<|tC<|.bl true):PSs X cR<|tRB X<|Uz fb fi:=PSs.imp h<|by
  rintro Dn σ H⟨F0,F,en,m,r,rs,res,hl,z,k⟩;unfold Uz at z;split at z
  .rename_i x hx;split at z
   .rename_i cM;obtain⟨d,hd,z⟩:=Qg z;obtain⟨p,fp,hp,bh,hn⟩:=res;obtain⟨p',aZ,hσ⟩:=rs.pin 0 (by simp);rw[hp]at aZ;obtain rfl:=Q5 aZ;obtain⟨v1,s1,r1⟩:=rs.slot 1 _ (Zi hx) (by simp[J1]);obtain rfl:=r1.sI;have hz:=sizeLine_eq;have em:Sm (λ_=>none) H:=λ_ _ h=>by simp at h
    refine⟨_,s1,λ_=>none,[.str x],d,em,.cons (.str x) .nil,hd,λv G H1 g rv=>?_⟩;have sl:∀{i:Nat}{u:V},i≠2->σ[i]?=some (some u)->(σ.set 2<|some v)[i]?=some (some u):=λhi e=>by rw[Wb<|Ne.symm hi];exact e
    have s2:(σ.set 2<|some v)[2]?=some (some v):=by rw[Wc,if_pos rfl,if_pos<|by rw[rs.len];exact cM.2]
    have F1:Sm F H1:=rs.fh.trans g.hh;have fQ:Sm F0.h H1:=rs.hh.trans g.hh;have cE:=bh.gr<|go rs.fh g.hh;split at z;.-- an item
     obtain⟨i,hi,hr⟩:=Qg z;cases rv;refine⟨.non,s2,true,rfl,ZP ⟨_,sl (by decide) hσ,_,sl (by decide) s1,λ_=>none,[.str x],i,λ_ _ h=>by simp at h,.cons (.str x) .nil,hi,λv2 G2 H2 g2 ek=>?_⟩⟩;have new:∀{a:Addr},G2 a≠none->H1 a=none:=λh=>by obtain⟨o,e⟩:=q_57.mp h;exact UZ g2 e
     refine⟨F,G2,m,p,fp,v2,i,r,F1.trans g2.hh,rfl,cE.gr<|go F1 g2.hh,g2.fh,ek,λa o h=>?_,hr,λF' H' cU q1 q2 q3 q4 q5 q6=>?_⟩
     .have ha:=UZ g2 h;refine⟨F1.none ha,λz=>?_⟩;obtain⟨⟨us,e⟩,_⟩:=cE.at a z;rw[ha]at e;simp at e
     .have nw:∀{a:Addr},G2 a≠none\/H2 a=none->F0.h a=none:=λ{a}h=>by
       rcases h with h|h;.exact fQ.none<|new h
       .exact(fQ.trans g2.hh).none h
      refine k F' H' q1 q2 (λa o h=>q3 a o (λz=>by rw[hn a z]at h;simp at h)<|g2.hh _ _<|fQ a o h) (λa o h=>?_) ⟨p,cU,hp,q5,λa ha=>?_⟩
      .rcases q4 a o h with y|y|y;.exact rs.fr a o y
       .exact .inr<|hn a y
       .exact .inr<|nw y
      .rcases q_7.mp ha with y|y;.rw[y];exact hn p JY
       .rcases q6 a y with y|y;.exact hn a<|Qy _ y
        .exact nw y
    .rename_i ds;obtain rfl:=Q5 z;obtain⟨t,_,rfl,_,_⟩:=rv.tI;have new:∀{a:Addr},G a≠none->H a=none:=λh=>by obtain⟨o,e⟩:=q_57.mp h;exact UZ g e
     obtain⟨F2,fq,n1,n2,n3,n4,n5,n6⟩:=EZ rv g.fh F1 λa o h=>rs.fh.none<|UZ g h;have old:∀a∈p::fp,G a=none:=λa ha=>by cases e:G a with|none=>rfl|some o=>obtain⟨⟨us,e'⟩,_⟩:=bh.at a ha;rw[UZ g e]at e';simp at e'
     have fR:=cE.wid n1 λa ha=>by cases e:F2 a with|none=>rfl|some o=>
       rcases n4 a o e with y|y;.rw[(cE.at a ha).2]at y;simp at y
       .exact absurd (old a ha) y
     obtain⟨us,aQ,fn,bb,nd⟩:=id fR;have eD:m.length<100000:=by
      have:=cM.1;simp only[ZO,Ja]at this;exact of_decide_eq_true this.1
     refine⟨.ref t,s2,false,rfl,ZI ⟨_,sl (by decide) hσ,.inl ⟨rfl,_,SqL.of aQ⟩,_,s2,p,us,_,rfl,rfl,aQ,by rw[bb.len];omega,?_⟩⟩;refine k F2 _ n1 (n2.upd _ fn) (fQ.upd _<|hn p JY) (λa o h=>?_) ⟨p,fp++fq,hp,fR.app n3 (fR.nod n6 λa ha z=>n5 a ha<|old a z) aQ,λa ha=>?_⟩
     .rcases n4 a o h with y|y;.exact rs.fr a o y
      .exact .inr<|rs.hh.none<|new y
     .rcases q_7.mp ha with y|y;.rw[y];exact hn p JY
      .rcases q_8.mp y with y|y;.exact hn a<|Qy _ y
       .exact rs.hh.none<|new<|n5 a y
    .simp at z
   .simp at z
  .simp at z
end
inductive spB(K:Fg)(f:Str->BM->Option (Bool×BM))(vs:List V)(H:Hp)(Q:VK)(dm:XK):Prop|mk(F:Hp)(m:BM)(p:Addr)(fp:List Addr)(x:Str)(r:Bool×BM)(h1:Sm F H)(h2:vs=[.ref p,.str x])(h3:BH K F H m p fp)(h4:f x m=some r)(h5:Km K F H p fp (λa=>H a=none) Q r):spB K f vs H Q dm
section
variable{P:Program}{w:World}{K:Fg}{mg:Str->Option Value}{ae:Heap}{x y z z':Str}{st:Stmt}{k:Nat}{b:Zf}
def OC(h:Df K mg x st [y,z])(S:FnScope [y,z,z'] [y,z]<|QN st)(hb:∀(f:Addr)(ah:Value)(A:Around)(af:List Env)(s:Shared)(H:Hp)(E:XK),Room k (A.deeper<|envOfC x (QN st) s.heap.objs.size f ah)->PSs (JK J9 P w K mg ae [y,z,z'] x (QN st) f ah A af s H E).nox (Ju st) (tRB (JK J9 P w K mg ae [y,z,z'] x (QN st) f ah A af s H E).nox b)):Qb P w K mg ae (k+1) x [y,z]<|spB K<|MF b:=by
 obtain⟨f,fd,F,cz,hm⟩:=h;refine⟨f,fd,F.ok S (λvs H Q E q=>by obtain⟨_,_,_,_,_,_,_,hv,_⟩:=q;rw[hv];rfl) λah A af s H vs Q E hr q=>?_,cz,F.kp,hm⟩;obtain⟨Fq,m,p,fp,xx,r,sm,hv,bh,e,k⟩:=q;refine⟨_,hb f ah A af s H E hr,?_⟩;have bG:ZV [y,z,z'] vs=[some<|V.ref p,some<|.str xx,none]:=by rw[hv];rfl
 rw[bG];let F0:Fz:=⟨Fq,λa=>if a∈p::fp then none else H a,yp p⟩;have h0:∀a o,F0.h a=some o->a∉p::fp/\H a=some o:=λa o h=>by
  have h':(if a∈p::fp then none else H a)=some o:=h;split at h';.simp at h'
  .rename_i z;exact⟨z,h'⟩
 have out:∀a,F0.h a=none->a∈p::fp\/H a=none:=λa ha=>by
  have h':(if a∈p::fp then none else H a)=none:=ha;split at h';.rename_i z;exact .inl z
  .exact .inr h'
 have rs:RS K H F0 Fq H [some<|V.ref p,some<|.str xx,none] [none,some<|.str xx,none] [J1 0]:=by
  refine⟨sm,λa o h=>(h0 a o h).2,.refl Fq,λa o h=>.inl h,λj d h hj=>?_,λj d h hj=>?_,λj _ _ _ _ hj _ h1=>?_,λj hj=>?_,rfl⟩;.match j,h with
   |0,h=>simp at h|1,h=>cases h;exact⟨_,rfl,.str _⟩|2,h=>simp at h|j+3,h=>simp at h
  .rw[q_1.mp hj]at h;simp[J1]at h
  .rw[q_1.mp hj]at h1;simp[J1]at h1
  .have:=q_1.mp hj;have:j=0:=by unfold J1 at this;omega
   subst this;exact⟨p,rfl,rfl⟩
 refine⟨F0,Fq,_,m,r,rs,⟨p,fp,rfl,bh,λa ha=>if_pos ha⟩,by simp,e,λF' H' s1 s2 s3 fr res=>?_⟩;obtain⟨p',cU,aZ,fS,eF⟩:=res;cases congrFun aZ 0;refine k F' H' cU s1 s2 (λa o ha e=>s3 a o<|show(if a∈p::fp then none else H a)=some o by rw[if_neg ha];exact e) (λa o h=>?_) fS λa ha=>?_
 .rcases fr a o h with z|z;.exact .inl z
  .exact .inr<|out a z
 .rcases out a<|eF a<|Qy _ ha with y|y
  .rcases q_7.mp y with w|w
   .obtain⟨_,_,_,_,nd⟩:=fS;exact absurd (w▸ha) (q_25.mp nd).1
   .exact .inl w
  .exact .inr y
end
def BRes2(K:Fg):WO BM:=λm F0 F H=>∃B p fp,F0.p=yp p/\BH K B H m p fp/\Sm B H/\(∀a o,B a=some o->F0.h a=none)/\∀a∈p::fp,F0.h a=none/\F a=none
theorem BRes2.gr(K:Fg):UB<|BRes2 K:=λm F0 F H F' H'⟨B,p,fp,h1,h2,h3,h4,h5⟩g=>⟨B,p,fp,h1,h2.gr<|go h3 g.hh,h3.trans g.hh,h4,λa ha=>by obtain⟨⟨us,e⟩,_⟩:=h2.at a ha;exact⟨(h5 a ha).1,g.keepN e (h5 a ha).2⟩⟩
def Th(i:Nat):PinO [J1 i]:=λj hj=>by rw[q_1.mp hj];unfold J1;omega
section
variable{X:Cx}{i:Nat}
theorem BRes2.view{F0:Fz}{F H:Hp}{σ:L2.St}{e:Q8}{m:BM}(rs:RS X.K X.H₀ F0 F H σ e [J1 i])(res:BRes2 X.K m F0 F H)(hl:e.length<=1000):∃F1,Sm F F1/\RS X.K X.H₀ ⟨F1,H,np⟩ F1 H σ (e.set i<|some<|Qh m) []:=by obtain⟨B,p,fp,hp,bh,sB,_,hn⟩:=res;obtain⟨s1,s2,r1⟩:=bh.frz sB;obtain⟨q,hq,hσ⟩:=rs.pin i (by simp);rw[hp]at hq;obtain rfl:=Q5 hq;exact⟨un F<|fz B H<|p::fp,WL _ _,(rs.view (Th i) hl (WL _ _)<|Wm rs.fh s2).see hσ<|r1.mono<|Wl rs.fh s2⟩
def RS.pinIn{K:Fg}{H₀:Hp}{F0:Fz}{F H:Hp}{σ:L2.St}{e:Q8}{p:Addr}(r:RS K H₀ F0 F H σ e [])(hl:e.length<=1000)(hi:i<e.length)(hp:H p=none)(o:HO):RS K H₀ ⟨F0.f,F0.h,yp p⟩ F (upd H p o) (σ.set i<|some<|.ref p) (e.set i none) [J1 i]:=by
 have no:∀{j:Nat}{d:D},(e.set i none)[j]?=some (some d)->j≠i/\e[j]?=some (some d):=λ{j d}h=>by
  rw[Wc]at h;split at h;.simp[hi]at h
  .rename_i z;exact⟨Ne.symm z,h⟩
 refine⟨r.fh.upd _<|r.fh.none hp,r.hh.upd _<|r.hh.none hp,r.ff,r.fr,λj d h hj=>?_,λj d h hj=>?_,λj _ _ _ _ hj _ h1=>?_,λj hj=>?_,by rw[Z2,Z2];exact r.len⟩;.obtain⟨ji,h'⟩:=no h;obtain⟨v,h1,h2⟩:=r.slot j d h' (by simp);exact⟨v,by rw[Wb<|Ne.symm ji];exact h1,h2⟩
 .exact((Th i).no (by rw[Z2];exact hl) h hj).elim
 .exact((Th i).no (by rw[Z2];exact hl) h1 hj).elim
 .have:=q_1.mp hj;have:j=i:=by unfold J1 at this;omega
  subst this;exact⟨p,rfl,by rw[Wc,if_pos rfl,if_pos<|by rw[r.len];exact hi]⟩
def L7{o:Option D}(h:Vb o=true):o=some (.bl false):=by
 unfold Vb at h;split at h;.rfl
 .cases h
end
inductive LRes(K:Fg)(i j:Nat)(m:BL)(F0:Fz)(F H:Hp):Prop|mk(p q:Addr)(fp:List Addr)(h1:F0.p i=some p)(h2:F0.p j=some q)(h3:BH K F H m.1 p fp)(h4:H q=some (.lst<|m.2.map V.str))(h5:F q=none)(h6:q∉p::fp)(h7:∀a∈p::fp,F0.h a=none)(h8:F0.h q=none):LRes K i j m F0 F H
theorem LRes.gr(K:Fg)(i j:Nat):UB<|LRes K i j:=λm F0 F H F' H'⟨p,q,fp,h1,h2,h3,h4,h5,h6,h7,h8⟩g=>⟨p,q,fp,h1,h2,h3.gr g,g.hh _ _ h4,g.keepN h4 h5,h6,h7,h8⟩
def Zl(i j:Nat):List Nat:=[J1 i,J1 j]
def WE(i j:Nat):PinO<|Zl i j:=λk hk=>by
 unfold Zl at hk;rcases q_7.mp hk with z|z;.rw[z];unfold J1;omega
 .rw[q_1.mp z];unfold J1;omega
section
variable{K:Fg}{F0:Fz}{F H:Hp}{i j:Nat}{m:BL}
theorem LRes.frz(r:LRes K i j m F0 F H)(s:Sm F H):∃p q F',F0.p i=some p/\F0.p j=some q/\Sm F F'/\Sm F' H/\Rep K F' (.ref p) (Qh m.1)/\Rep K F' (.ref q) (.lst<|m.2.map .str)/\∀a o,F' a=some o->F a=some o\/F0.h a=none:=by
 obtain⟨p,q,fp,h1,h2,h3,h4,h5,h6,h7,h8⟩:=r;obtain⟨s1,s2,r1⟩:=h3.frz s;have n:fz F H (p::fp) q=none:=by unfold fz;rw[if_neg h6];exact h5
 have s3:Sm (fz F H<|p::fp)<|upd (fz F H<|p::fp) q<|.lst<|m.2.map V.str:=(Sm.refl _).upd _ n;refine⟨p,q,_,h1,h2,s1.trans s3,λa o h=>?_,r1.mono s3,.lst Qu<|Reps.strs _,λa o h=>?_⟩
 .by_cases z:a=q;.rw[z,Qu]at h;rw[z,h4];exact h
  .rw[QY z]at h;exact s2 a o h
 .by_cases z:a=q;.rw[z];exact .inr h8
  .rw[QY z]at h;rcases Mx h with⟨y,_⟩|y;.exact .inr<|h7 a y
   .exact .inl y
end
section
variable{X:Cx}{i j:Nat}
def Rm:Vw X (Zl i j) (LRes X.K i j)<|ZZ i j:=λF0 F H σ e m rs res hl=>by obtain⟨p,q,F',h1,h2,s1,s2,r1,r2,_⟩:=res.frz rs.fh;obtain⟨p',hp,hσ⟩:=rs.pin i (by simp[Zl]);obtain⟨q',hq,fY⟩:=rs.pin j (by simp[Zl]);rw[h1]at hp;rw[h2]at hq;obtain rfl:=Q5 hp;obtain rfl:=Q5 hq;exact⟨F',s1,((rs.view (WE i j) hl s1 s2).see hσ r1).see fY r2⟩
def Qbh{st:Stmt}{ev:Q6}(h:PS X st<|Vo<|Vn X.K "list" Vl (J7 j)<|Jc (tD X (Zl i j) ev) Jm):PS X st<|tSR X (Zl i j) (LRes X.K i j)<|S3 ev:=PS.imp h<|by
  rintro Dn σ H⟨F0,F,en,m,r,rs,res,z,k⟩;unfold S3 at z;split at z
  .rename_i x hx;split at z
   .rename_i hc;obtain rfl:=Q5 z;obtain⟨q',dG,hσ⟩:=rs.pin j (by simp[Zl]);have q0:=res;obtain⟨_,q,_,_,h2,_,h4,_⟩:=q0;rw[h2]at dG;obtain rfl:=Q5 dG;have hz:=sizeLine_eq;refine⟨_,hσ,.inl ⟨rfl,_,SqL.of h4⟩,F0,F,en,_,rs,hx,λv F1 H1 g1 r1=>?_⟩;obtain rfl:=r1.sI;obtain⟨p,q1,fp,b1,b2,b3,b4,b5,b6,b7,b8⟩:=LRes.gr X.K i j _ _ _ _ _ _ res g1;rw[h2]at b2;obtain rfl:=Q5 b2;refine⟨q,_,_,rfl,rfl,b4,by rw[Qr];omega,?_⟩;refine k σ F1 _ g1.ff ((rs.grow g1).wr (WE i j) hc.1 b5 b8 _) ⟨p,q,fp,b1,h2,b3.to<|Ua b6,by rw[Qu,Jj];rfl,b5,b6,b7,b8⟩
   .simp at z
  .simp at z
def Qbf{st:Stmt}{ev:Q6}(h:PS X st<|Vo<|Vn X.K "list" Vl (J7 i)<|Jc (tD X (Zl i j) ev) Jm):PS X st<|tSR X (Zl i j) (LRes X.K i j)<|P2 ev:=PS.imp h<|by
  rintro Dn σ H⟨F0,F,en,m,r,rs,res,z,k⟩;obtain⟨d,hd,z⟩:=Qg z;split at z
  .rename_i hc;obtain rfl:=Q5 z;obtain⟨p',aZ,hσ⟩:=rs.pin i (by simp[Zl]);have q0:=res;obtain⟨p,_,fp,h1,_,h3,_⟩:=q0;rw[h1]at aZ;obtain rfl:=Q5 aZ;obtain⟨vs,aQ,_,_,_⟩:=h3;have hz:=sizeLine_eq;refine⟨_,hσ,.inl ⟨rfl,_,SqL.of aQ⟩,F0,F,en,_,rs,hd,λv F1 H1 g1 r1=>?_⟩;obtain⟨p1,q,fp,b1,b2,b3,b4,b5,b6,b7,b8⟩:=LRes.gr X.K i j _ _ _ _ _ _ res g1;rw[h1]at b1;obtain rfl:=Q5 b1;obtain⟨us,c1,c2,c3,c4⟩:=id b3;refine⟨p,us,_,rfl,rfl,c1,by rw[c3.len];omega,?_⟩;have pq:q≠p:=λz=>b6 (by simp[z]);have:=b3.app (.pl r1) (fq:=[]) (by simpa using c4) c1;rw[Yv]at this;refine k σ F1 _ g1.ff ((rs.grow g1).wr (WE i j) hc.1 c2 (b7 p JY) _) ⟨p,q,fp,h1,b2,this,by rw[QY pq];exact b4,b5,b6,b7,b8⟩
  .simp at z
def Qbi{st:Stmt}(h:PS X st<|Vo<|Vn X.K "list" Vl (J7 i)<|Jc (Kf<|Jc (tC<|.str "para")<|Jc (Tt Jm) Jm) Jm):PS X st<|tSR X (Zl i j) (LRes X.K i j) UC:=PS.imp h<|by
  rintro Dn σ H⟨F0,F,en,m,r,rs,res,z,k⟩;unfold UC at z;split at z
  .rename_i hc;obtain rfl:=Q5 z;obtain⟨p',aZ,hσ⟩:=rs.pin i (by simp[Zl]);obtain⟨p,q,fp,h1,h2,h3,h4,h5,h6,h7,h8⟩:=res;rw[h1]at aZ;obtain rfl:=Q5 aZ;obtain⟨vs,aQ,c2,c3,c4⟩:=id h3;have hz:=sizeLine_eq;refine⟨_,hσ,.inl ⟨rfl,_,SqL.of aQ⟩,Zm _,λl hl=>⟨by simp;omega,λt ht=>?_⟩⟩;have tl:t≠l:=λz=>by rw[z,Qu]at ht;simp at ht
   have gC:H t=none:=by rw[QY tl]at ht;exact ht
   have d8:∀{a:Addr}{o:HO},H a=some o->a≠l/\a≠t:=λ{a o}e=>⟨λz=>by rw[z,hl]at e;simp at e,λz=>by rw[z,gC]at e;simp at e⟩;have pl:=d8 aQ;have ql:=d8 h4;have keep:Sm H<|upd (upd H l<|.lst []) t<|.tup [.str "para",.ref l]:=λa o e=>by
    obtain⟨z1,z2⟩:=d8 e;rw[QY z2,QY z1];exact e
   have g:Gr F H (upd F t<|.tup [.str "para",.ref l])<|upd (upd H l<|.lst []) t<|.tup [.str "para",.ref l]:=⟨(Sm.refl F).upd _<|rs.fh.none gC,keep,λa o h=>by
    by_cases z:a=t;.rw[z,Qu]at h⊢;exact h
    .rw[QY z]at h;exact keep a o<|rs.fh a o h,λa o h=>by
    by_cases z:a=t;.rw[z];exact .inr gC
    .rw[QY z]at h;exact .inl h⟩;have bh:=h3.gr g;have fl:upd F t (.tup [.str "para",.ref l]) l=none:=by rw[QY<|Ne.symm tl];exact rs.fh.none hl
   refine⟨p,vs,_,rfl,rfl,keep _ _ aQ,by rw[c3.len];omega,?_⟩;have pq:q≠p:=λz=>h6 (by simp[z]);have lf:l∉p::fp:=λz=>by obtain⟨⟨us,e⟩,_⟩:=h3.at l z;rw[hl]at e;simp at e
   have:=bh.app (b:=.pa []) (fq:=[l]) (.pa (vs:=[]) Qu (by rw[QY<|Ne.symm tl,Qu]) fl .nil) (bh.nod (by simp) λa ha=>by rw[q_1.mp ha];exact lf)<|keep _ _ aQ;refine k σ _ _ g.ff ((rs.grow g).wr (WE i j) hc.1 (by obtain⟨_,_,z,_⟩:=bh;exact z) (h7 p JY) _) ⟨p,q,fp++[l],h1,h2,this,by rw[QY pq];exact keep _ _ h4,?_,λz=>?_,λa ha=>?_,h8⟩;.rw[QY ql.2];exact h5
   .rcases q_7.mp z with y|y;.exact pq y
    .rcases q_8.mp y with y|y;.exact h6<|Qy _ y
     .exact ql.1<|q_1.mp y
   .rcases q_7.mp ha with y|y;.rw[y];exact h7 p JY
    .rcases q_8.mp y with y|y;.exact h7 a<|Qy _ y
     .rw[q_1.mp y];exact rs.hh.none hl
  .simp at z
def Qbg{st:Stmt}{ev:Q6}(h:PS X st<|Vo<|Vn X.K "list" Vl (Yc X.K (Zx X.K<|J7 i) 1)<|Jc (tD X (Zl i j) ev) Jm):PS X st<|tSR X (Zl i j) (LRes X.K i j)<|Nv ev:=PS.imp h<|by
  rintro Dn σ H⟨F0,F,en,m,r,rs,res,z,k⟩;obtain⟨d,hd,z⟩:=Qg z;split at z
  .rename_i hc;obtain rfl:=Q5 z;obtain⟨p',aZ,hσ⟩:=rs.pin i (by simp[Zl]);obtain⟨p,q,fp,h1,h2,h3,h4,h5,h6,h7,h8⟩:=res;rw[h1]at aZ;obtain rfl:=Q5 aZ;have hz:=sizeLine_eq;obtain⟨nF,cM,hq⟩:=hc;obtain⟨mb,ml⟩:=m;rcases Yw mb with rfl|⟨m0,bl,rfl⟩;.cases hq
   .rw[W7]at hq;cases bl with|tb rows lab=>cases hq|pl d=>obtain⟨h,_⟩:=YZ hq;cases h|pa is=>
     obtain⟨vs,t,l,us,lf,a1,a2,a3,a4,_,a5⟩:=h3.item;have eD:is.length<100000:=by
      simp only[ZO,XC,Ja,VI,U2]at cM;exact of_decide_eq_true cM.2.2.1.1
     refine XJ (K:=X.K) (t:=Zx X.K<|J7 i) (i:=1) (v:=.ref l) (rs.fh _ _ a2) rfl ⟨.inl ⟨rfl,_,SqL.of a3⟩,F0,F,en,_,rs,hd,λv F1 H1 g1 r1=>?_⟩ λQ q=>XN a1 q λQ q=>⟨_,hσ,q⟩;have bh:=h3.gr g1;obtain⟨bZ,t',l',ic,mC,b1,b2,b3,b4,_,b5⟩:=bh.item;rw[g1.hh _ _ a1]at b1;cases XF<|HO.lst.inj<|Q5 b1;rw[g1.ff _ _ a2]at b2;have e2:=HO.tup.inj<|Q5 b2;simp only[List.cons.injEq,V.ref.injEq,true_and,and_true]at e2;subst e2;refine⟨l,ic,_,rfl,rfl,b3,by omega,?_⟩;have lm:l∈p::fp:=Qy _ mC;have:=b5 v (.pl d) [] (.pl r1) (by rw[Yv];obtain⟨_,_,_,_,nd⟩:=bh;exact nd);rw[Yv]at this;have lq:q≠l:=λz=>h6<|z▸lm;refine k σ F1 _ g1.ff ((rs.grow g1).wr (WE i j) nF (bh.at l lm).2 (h7 l lm) _) ⟨p,q,fp,h1,h2,?_,by rw[QY lq];exact g1.hh _ _ h4,g1.keepN h4 h5,h6,h7,h8⟩;show BH X.K F1 _ (ZJ (Wx<|.pl d)<|m0++[.pa is]) p fp;rw[Uc];exact this
  .simp at z
end
def Qbw{a b:Option<|Option D}(h:MV a b=true):a=some (some<|.lst [])/\b=some (some<|.lst []):=by
 unfold MV at h;split at h;.exact⟨rfl,rfl⟩
 .cases h
section
variable{X:Cx}{O' OL:List Nat}{w:Bool}{i j:Nat}{st:Stmt}{rest:List Stmt}{b:Z7 BL}{s:QJ}
def Qbs(h1:PS X st<|tSR X (Zl i j) (LRes X.K i j) b)(h2:PSs X rest<|tS X [] O' OL w s):PSs X (st::rest)<|tS X [i,j] O' OL w<|sQ (Up i j b) s:=PSs.imp (Z1 h1 h2) λDn σ H⟨F0,F,en,fl,rs,z,k⟩=>by have z':N6 (Up i j b en) s=some fl:=z;cases qq:Up i j b en with
 |none=>rw[qq]at z';cases z'|some f1=>
  rw[qq]at z';unfold Up at qq;split at qq
  .rename_i hc;obtain⟨he,hl,fM⟩:=hc;obtain⟨hi,hj⟩:=Qbw he;obtain⟨r,e1,e2⟩:=Qg qq;split at e2
   .rename_i hr;obtain rfl:=Q5 e2;have own:∀{k:Nat},k∈[i,j]->en[k]?=some (some<|.lst [])->∃p,σ[k]?=some (some<|.ref p)/\F0.h p=none/\F p=none/\H p=some (.lst []):=λ{k}hk e=>by obtain⟨p,kk,xs,ds,a1,a2,a3,a4,a5,a6,a7⟩:=rs.own k _ e hk;cases kk with|some ks=>cases a6|none=>cases a6;cases a5;exact⟨p,a1,a2,a3,a4⟩
    obtain⟨p,p1,p2,p3,p4⟩:=own (by simp) hi;obtain⟨q,q1,q2,q3,q4⟩:=own (by simp) hj;have pq:q≠p:=λz=>by
     subst z;exact fM<|rs.dis i j q _ _ (by simp) (by simp) hi hj p1 q1
    let P₀:Nat->Option Addr:=λk=>if k=i then some p else some q;have no:∀{k:Nat}{d:D},((en.set i none).set j none)[k]?=some (some d)->k≠i/\k≠j/\en[k]?=some (some d):=λ{k d}h=>by
     have jl:j<(en.set i none).length:=by rw[Z2];exact(q_33.mp hj).1
     have il:i<en.length:=(q_33.mp hi).1;rw[Wc]at h;split at h;.simp at h
     .rename_i z;rw[Wc]at h;split at h;.simp[il]at h
      .rename_i z';exact⟨Ne.symm z',Ne.symm z,h⟩
    have ll:((en.set i none).set j none).length<=1000:=by rw[Z2,Z2];exact hl
    have bq:RS X.K X.H₀ ⟨F0.f,F0.h,P₀⟩ F H σ ((en.set i none).set j none)<|Zl i j:=by
     refine⟨rs.fh,rs.hh,rs.ff,rs.fr,λk d h hk=>?_,λk d h hk=>((WE i j).no ll h hk).elim,λk _ _ _ _ hk _ h1=>((WE i j).no ll h1 hk).elim,λk hk=>?_,by rw[Z2,Z2];exact rs.len⟩
     .obtain⟨n1,n2,n3⟩:=no h;exact rs.slot k d n3<|by simp[n1,n2]
     .unfold Zl J1 at hk;rcases q_7.mp hk with y|y
      .have:k=i:=by omega
       subst this;exact⟨p,if_pos rfl,p1⟩
      .have:k=j:=by have:=q_1.mp y;omega
       subst this;exact⟨q,if_neg<|Ne.symm fM,q1⟩
    refine⟨⟨F0.f,F0.h,P₀⟩,F,_,([],[]),r,bq,⟨p,q,[],if_pos rfl,if_neg<|Ne.symm fM,⟨[],p4,p3,.nil,by simp⟩,q4,q3,by simp[pq],by simp[p2],q2⟩,e1,λσ' F' H' s' aR bY=>?_⟩;obtain⟨p',q',F1,h1,h2,s1,s2,r1,r2,fr⟩:=bY.frz aR.fh;obtain⟨p'',hp,hσ⟩:=aR.pin i (by simp[Zl]);obtain⟨q'',hq,fY⟩:=aR.pin j (by simp[Zl]);rw[h1]at hp;rw[h2]at hq;obtain rfl:=Q5 hp;obtain rfl:=Q5 hq;have v:=((aR.view (WE i j) hr s1 s2).see hσ r1).see fY r2;refine⟨F0,F1,ZZ i j r.1 r.2,fl,⟨s2,aR.hh,aR.ff.trans s1,λa o h=>?_,v.slot,λ_ _ _ hk=>(nomatch hk),v.dis,λk hk=>(nomatch hk),v.len⟩,z',k.mono<|s'.trans s1⟩;rcases fr a o h with y|y;.exact aR.fr a o y
    .exact .inr y
   .simp at e2
  .simp at qq
end
def Ys{X:Cx}{e:Expr}{es:List Expr}{p pos:Pos}{x:Str}{ps:List Str}{k:Nat}{sp:Sp}{t:TA}(c:Qb X.prog X.w X.K X.mg X.ae k x ps sp)(hr:Room k X.A)(hg:Gl X x)(ha:PA X (e::es) t)(aY:XV x:=by decide)(he:Wp X e es:=by rfl)(aQ:WF X pos es:=by rfl):PE X (.Call (.Name x p) (e::es) [] pos)<|Yx sp [] E0 t:=by obtain⟨fa,fd,F,hb,hk,hm⟩:=c;exact Lg F hr hg hm hk hb .nil Lf ha aY he aQ
def ds_none{X:Cx}{O O' OL:List Nat}{w:Bool}{st:Stmt}:PS X st<|tS X O O' OL w Uq:=λ_ _ _ _ _ _⟨_,_,_,_,_,z,_⟩=>nomatch z
def Qbk{X:Cx}{i:Nat}{OL OL':List Nat}{w w':Bool}{st:Stmt}{b:QJ}(h:PS X st<|tS X [J1 i] [J1 i] OL' w' b):PS X st<|tS X [i] [i] OL w<|RV i b:=PS.imp h<|by
  rintro Dn σ H⟨F0,F,en,fl,rs,z,k⟩;unfold RV at z;split at z
  .rename_i ds e' he hb;split at z
   .rename_i hc;obtain⟨hl,ll⟩:=hc;obtain rfl:=Q5 z;obtain⟨p,kk,xs,eg,a1,a2,a3,a4,a5,a6,a7⟩:=rs.own i _ (Zi he) (by simp);cases kk with
    |some ks=>cases a6|none=>
    cases a6;have a4:H p=some (.lst xs):=a4;have s1:Sm F<|upd F p<|.lst xs:=(Sm.refl F).upd _ a3;have il:i<en.length:=(q_33.mp<|Zi he).1;have bq:RS X.K X.H₀ ⟨upd F p<|.lst xs,H,yp p⟩ (upd F p<|.lst xs) H σ en [J1 i]:=by
     refine⟨λa o h=>?_,.refl H,.refl _,λa o h=>.inl h,λj d hd hj=>?_,λj d h hj=>((Th i).no hl h hj).elim,λj _ _ _ _ hj _ h1=>((Th i).no hl h1 hj).elim,λj hj=>?_,rs.len⟩
     .by_cases z:a=p;.rw[z,Qu]at h;rw[z,a4];exact h
      .rw[QY z]at h;exact rs.fh a o h
     .by_cases z:j=i
      .subst z;rw[Zi he]at hd;obtain rfl:=Q5<|Q5 hd;exact⟨_,a1,.lst Qu<|a5.mono s1⟩
      .obtain⟨v,h1,h2⟩:=rs.slot j d hd (by simpa using z);exact⟨v,h1,h2.mono s1⟩
     .have:j=i:=by have:=q_1.mp hj;unfold J1 at this;omega
      subst this;exact⟨p,rfl,a1⟩
    refine⟨⟨upd F p<|.lst xs,H,yp p⟩,_,en,_,bq,hb,λσ' F' H' s' r=>?_⟩;obtain⟨p',aZ,hσ⟩:=r.pin i (by simp);obtain rfl:=Q5 aZ;have no:∀{j:Nat}{d:D},((List.replicate en.length none).set i<|some<|D.lst ds)[j]?=some (some d)->j=i/\d=.lst ds:=λ{j d}h=>by
     rw[Wc]at h;split at h
     .rename_i z;split at h;.exact⟨z.symm,(Q5<|Q5 h).symm⟩
      .simp at h
     .rw[RJ]at h;split at h<;>simp at h
    refine k σ' F H' (.refl F) ⟨rs.fh.trans r.hh,rs.hh.trans r.hh,rs.ff,rs.fr,λj d h hj=>absurd (no h).1<|by simpa using hj,λj d h hj=>?_,λj j' _ _ _ hj nz _ _ _ _=>by rw[q_1.mp hj,q_1.mp nz],λj hj=>?_,by rw[Z2,RL,r.len,ll]⟩
    .obtain⟨rfl,rfl⟩:=no h;exact⟨p,none,xs,ds,hσ,a2,a3,r.hh _ _ a4,a5,rfl,trivial⟩
    .have:=q_1.mp hj;unfold J1 at this;omega
   .simp at z
  .simp at z
section
variable{P:Program}{w:World}{K:Fg}{mg:Str->Option Value}{ae:Heap}{x:Str}{st:Stmt}{N ps:List Str}{k:Nat}
def QdG(h:Df K mg x st ps)(S:FnScope N ps<|QN st):Qb P w K mg ae (k+1) x ps<|spD K λ_=>none:=by obtain⟨f,fd,F,cz,hm⟩:=h;exact⟨f,fd,F.ok (sp:=spD K λ_=>none) S (λ_ _ _ _⟨_,_,_,_,_,q,_⟩=>nomatch q) (λ_ _ _ _ _ _ _ _ _⟨_,_,_,_,_,q,_⟩=>nomatch q),cz,F.kp,hm⟩
theorem Em{b:(List D->Option D)->QJ}(h0:Qb P w K mg ae 1 x ps<|spD K λ_=>none)(h1:∀(g:List D->Option D)(j:Nat),Qb P w K mg ae j x ps (spD K g)->Qb P w K mg ae (j+1) x ps (spD K<|Ql N.length ps.length<|b g)):∀i,Qb P w K mg ae (i+1) x ps<|spD K<|PJ N.length ps.length b i|0=>h0|i+1=>h1 _ _<|Em h0 h1 i
end
def Ec:fillsNumberSlot (.type "tuple") "mul"=pure false:=PySem.fillsNumberSlot_seq (id:="tuple.__mul__") (r:=some<|.builtin "tuple.__rmul__") F.slot_tuple_mul.lookup (by decide+kernel) F.slot_tuple_rmul.lookup<|by decide+kernel
def Dg:seqRepeat? (.type "tuple")=pure (some<|.builtin "tuple.__mul__"):=by unfold seqRepeat?;rw[PySem.seqSlot_of (T:="tuple") (name:="__mul__") (id:="tuple.__mul__") F.slot_tuple_mul.lookup<|by decide+kernel,PySem.seqSlot_of (T:="tuple") (name:="__rmul__") (id:="tuple.__rmul__") F.slot_tuple_rmul.lookup<|by decide+kernel];rfl
def Dh(a:Int)(t:Tok)(l:Addr)(items:Array Value)(n:Nat)(dd sl):Meets (Builtin.«int.__rmul__» ⟨[.int a t,.ref l],[]⟩) λ_ R s=>s.heap.get? l=some {cls:=.type "tuple",dict:=dd,data:=.seq items n,slots:=sl}/\R (.ok<|.ret Value.notImplemented) s:=.of_wp λprog w A R s h=>by obtain⟨hp,g,d,tk,os⟩:=s;obtain⟨hl,h⟩:=h;wp_walk;exact⟨_,rfl,h⟩
def Qdh(t:Tok)(l:Addr)(items:Array Value)(n:Nat)(dd sl):Meets (Builtin.«tuple.__mul__» ⟨[.ref l,.int 1 t],[]⟩) λ_ R s=>s.heap.get? l=some {cls:=.type "tuple",dict:=dd,data:=.seq items n,slots:=sl}/\R (.ok<|.ret<|.ref l) s:=.of_wp λprog w A R s h=>by obtain⟨hp,g,d,tk,os⟩:=s;obtain⟨hl,h⟩:=h;have f1:=AutoSeq1.idx_int;have f2:=AutoSeq1.sub_tuple_tuple;wp_walk using wpAny_loadPart' hl;exact⟨_,rfl,h⟩
def Qdg(t:Tok)(l:Addr)(items:Array Value)(n:Nat)(dd sl)(hc:¬items.isEmpty=true):Meets (Builtin.«tuple.__mul__» ⟨[.ref l,.int 0 t],[]⟩) λ_ R s=>s.heap.get? l=some {cls:=.type "tuple",dict:=dd,data:=.seq items n,slots:=sl}/\R (.ok<|.ret<|.ref s.heap.objs.size) {s with heap:=s.heap.push {cls:=Value.type "tuple",data:=Data.seq #[]}}:=.of_wp λprog w A R s h=>by obtain⟨hp,g,d,tk,os⟩:=s;obtain⟨hl,h⟩:=h;have f1:=AutoSeq1.idx_int;have f2:=AutoSeq1.sub_tuple_tuple;wp_walk using wpAny_loadPart' hl;exact⟨_,rfl,h⟩
section
variable{X:Cx}{O:List Nat}{a b:Expr}{pos:Pos}
def DS(K:Fg):R2:=λx y H Q=>∃p xs,x=.ref p/\SqT K H p xs/\xs≠[]/\(y=.int 1/\Q (.ref p) H\/y=.int 0/\∀q,H q=none->Q (.ref q) (upd H q<|.tup []))
def QeU:OpR X (binaryOp .Mult) (DS X.K)/\Jr X (DS X.K) D.mulT:=by
 refine⟨λaa s σ H x y v u Q I rx ry⟨p,xs,hx,hq,hn,z⟩=>?_,λF H x y dx dy d Q sm rx ry e k=>?_⟩
 .subst hx;cases rx;obtain⟨its,r,⟨⟨cls,dd,data,sl⟩,ho,hc,n,hd⟩,hz⟩:=I.tuple hq;simp only at hc hd;subst hc hd;have ne:¬its.toArray.isEmpty=true:=λz=>hn<|r.nil_iff.mp (by simpa using z);rcases z with⟨rfl,q⟩|⟨rfl,q⟩
  .obtain⟨t,rfl⟩:=ry;exact wpAny_binaryOp_repeat_ref (T:="tuple") (U:="int") (by decide) ⟨_,ho,rfl⟩ (λs'=>typeIs_int s' 1 t) Ec F.fills_int_mul F.slot_int_rmul Dg F.slot_int_index.lookup<|call_meets F.slot_int_rmul (typeIs_int s 1 t) F.entry_int_rmul (F.args_int_rmul_2 _ _) (Dh 1 t p its.toArray n dd sl) ⟨ho,rfl,⟨_,ho,rfl⟩,call_meets F.slot_tuple_mul ⟨_,ho,rfl⟩ F.entry_tuple_mul (F.args_tuple_mul_2 _ _) (Qdh t p its.toArray n dd sl) ⟨ho,.ref p,H,I,rfl,q⟩⟩
  .obtain⟨t,rfl⟩:=ry;refine wpAny_binaryOp_repeat_ref (T:="tuple") (U:="int") (by decide) ⟨_,ho,rfl⟩ (λs'=>typeIs_int s' 0 t) Ec F.fills_int_mul F.slot_int_rmul Dg F.slot_int_index.lookup<|call_meets F.slot_int_rmul (typeIs_int s 0 t) F.entry_int_rmul (F.args_int_rmul_2 _ _) (Dh 0 t p its.toArray n dd sl) ⟨ho,rfl,⟨_,ho,rfl⟩,call_meets F.slot_tuple_mul ⟨_,ho,rfl⟩ F.entry_tuple_mul (F.args_tuple_mul_2 _ _) (Qdg t p its.toArray n dd sl ne) ⟨ho,?_⟩⟩;exact⟨.ref s.heap.objs.size,_,I.laid (t':=s.toks) (o:=.tup []) (λb ob q=>Heap.get?_push_of_some _ q) (Qm _) ⟨Zm _,[],.nil,IsTup.new _ _⟩,rfl,q _<|I.hok.fresh<|Qm _⟩
 .cases dx with
  |tup ds=>cases ds with|nil=>cases dy<;>cases e|cons d1 ds=>cases dy with
    |int n=>
     obtain⟨p,xs,rfl,hp,r⟩:=rx.tup;have ne:xs≠[]:=λz=>by have:=r.length;rw[z]at this;simp at this
     simp only[D.mulT]at e;split at e;.rename_i h1;obtain rfl:=Q5 e;refine⟨p,xs,rfl,SqT.of<|sm _ _ hp,ne,.inl ⟨by rw[ry.int,h1],k _ F H (.refl sm)<|.tup hp r⟩⟩
     .split at e
      .rename_i h0;obtain rfl:=Q5 e;refine⟨p,xs,rfl,SqT.of<|sm _ _ hp,ne,.inr ⟨by rw[ry.int,h0],λq hq=>?_⟩⟩;have g:=Gr.new sm hq<|.tup [];exact k _ _ _ g<|.tup Qu .nil
      .simp at e|_=>cases e
  |_=>cases e
noncomputable def SS:V->Bool|.non=>true|_=>false
noncomputable def Pm:Value->Bool|.none=>true|_=>false
def S2(K:Fg)(H:Hp)(v:V):Prop:=v=.non\/(∃x,v=.str x)\/(∃i,v=.int i)\/∃l ys,v=.ref l/\SqL K H l ys
def DU(K:Fg):R2:=λx y H Q=>x=.non/\∃p xs,y=.ref p/\SqT K H p xs/\(∀v∈xs,S2 K H v)/\Q (.bl<|!xs.any SS) H
theorem BG:∀{xs:List V}{us:List Value},Vals xs us->∀u∈us,∃v∈xs,RelV v u
 |_,_,.nil,_,h=>nomatch h|v::xs,u::us,.cons r t,w,h=>by
  rcases q_7.mp h with rfl|h;.exact⟨v,JY,r⟩
  .obtain⟨x,h1,h2⟩:=BG t w h;exact⟨x,Qy _ h1,h2⟩
theorem HI{K:Fg}{H:Hp}:∀{xs:List V}{us:List Value},Vals xs us->(∀v∈xs,S2 K H v)->us.any Pm=xs.any SS
 |_,_,.nil,_=>rfl|v::xs,u::us,.cons r t,h=>by
  rw[any_cons,any_cons,HI t λv hv=>h v<|Qy _ hv];congr 1;rcases h v JY with rfl|⟨x,rfl⟩|⟨i,rfl⟩|⟨l,ys,rfl,_⟩;.cases r;rfl
  .obtain⟨t,rfl⟩:=r;rfl
  .obtain⟨t,rfl⟩:=r;rfl
  .cases r;rfl
def Ew(hu:X.A.units+64<cLine):OpR X (compareOp .NotIn) (DU X.K)/\Jr X (DU X.K) D.notInN:=by
 refine⟨λaa s σ H x y v u Q I rx ry⟨hx,p,xs,hy,hq,hn,q⟩=>?_,λF H x y dx dy d Q sm rx ry e k=>?_⟩
 .subst hx hy;cases rx;cases ry;obtain⟨its,r,pl,hz⟩:=I.tuple hq;have mS:X.A.in1.units<cLine:=by show X.A.units+1<cLine;omega
  refine SeqAt.notIn_tupleAt Pm pl (λw hw=>?_) ⟨.bl _,H,I,rfl,?_⟩
  .obtain⟨v,hv,rv⟩:=BG r w (by simpa using hw);rcases hn v hv with rfl|⟨x,rfl⟩|⟨i,rfl⟩|⟨l,ys,rfl,hl⟩;.cases rv;exact SeqAt.EqAt.same _
   .obtain⟨t,rfl⟩:=rv;exact SeqAt.EqAt.str_none x t
   .obtain⟨t,rfl⟩:=rv;exact SeqAt.EqAt.int_none i t
   .cases rv;obtain⟨cF,_,mh,_⟩:=I.list hl;exact SeqAt.EqAt.list_none mh.isList mS
  .rw[show its.toArray.any Pm=its.any Pm by simp,HI r hn];exact q
 .cases dx with
  |non=>cases dy with
   |tup ds=>
    simp only[D.notInN]at e;split at e
    .rename_i hd;obtain rfl:=Q5 e;obtain⟨p,xs,rfl,hp,r⟩:=ry.tup;have hx:x=.non:=by
      rcases rx with r|⟨_,kk,_,_,_,_,_,h4,_⟩;.cases r;rfl
      .cases kk<;>cases h4
     have key:ds.all Zv=true->(∀v∈xs,S2 X.K H v)/\xs.any SS=ds.any Zu:=by
      refine r.ind (M:=λxs ds=>ds.all Zv=true->(∀v∈xs,S2 X.K H v)/\xs.any SS=ds.any Zu) (λ_=>⟨λ_ h=>(nomatch h),rfl⟩) λ{v d vs ds}h r ih hd=>?_;rw[VI,Ja]at hd;obtain⟨i1,i2⟩:=ih hd.2;have one:S2 X.K H v/\SS v=Zu d:=by cases d with
       |non=>cases h;exact⟨.inl rfl,rfl⟩|str x=>cases h;exact⟨.inr<|.inl ⟨_,rfl⟩,rfl⟩|int i=>cases h;exact⟨.inr<|.inr<|.inl ⟨_,rfl⟩,rfl⟩|lst ys=>obtain⟨l,zs,rfl,hl,_⟩:=h.lI;exact⟨.inr<|.inr<|.inr ⟨l,zs,rfl,SqL.of<|sm _ _ hl⟩,rfl⟩|_=>exact absurd (show false=true from hd.1) VH
      refine⟨λw hw=>?_,by rw[any_cons,any_cons,i2,one.2]⟩;rcases q_7.mp hw with rfl|hw;.exact one.1
      .exact i1 w hw
     obtain⟨k1,k2⟩:=key hd;exact⟨hx,p,xs,rfl,SqT.of<|sm _ _ hp,k1,by rw[k2];exact k _ F H (.refl sm)<|.bl _⟩
    .simp at e|_=>cases e
  |_=>cases e
end
theorem Reps.set{K:Fg}{F:Hp}:∀{xs:List V}{ds:List D}{v:V}{d:D}(j:Nat),Reps K F xs ds->Rep K F v d->Reps K F (xs.set j v) (ds.set j d)|_,_,_,_,_,.nil,_=>.nil|_,_,_,_,0,.cons _ r,h=>.cons h r|_,_,_,_,j+1,.cons a r,h=>.cons a<|Reps.set j r h
section
variable{X:Cx}{O OL:List Nat}{w:Bool}{st:Stmt}
def Qbm(i:Nat)(hi:i∈O){ei ev:Q6}(h:PS X st<|Vm (tD X O ev)<|Fe (J7 i) (tD X O ei) DY):PS X st<|tS X O O OL w<|Tq i ei ev:=PS.imp h<|by rintro Dn σ H⟨F0,F,en,fl,rs,z,k⟩;obtain⟨dv,e1,z⟩:=Qg z;obtain⟨dx,e2,z⟩:=Qg z;obtain⟨dn,e3,z⟩:=Qg z;obtain⟨dy,e4,rfl⟩:=Z0 z;refine⟨F0,F,en,dv,rs,e1,λv F1 H1 g1 r1=>?_⟩;have bq:=rs.grow g1;obtain⟨q,kk,xs,ds,h1,h2,h3,h4,h5,h6,h7⟩:=bq.own i dx (Zi e2) hi;refine⟨.ref q,h1,F0,F1,en,dn,bq,e3,λn F2 H2 g2 r2=>?_⟩;subst h6;cases kk with|some ks=>cases e4|none=>cases dn with|int n=>obtain⟨j,hj,rfl⟩:=Z0<|show(JD ds.length n).map _=some dy from e4;cases r2;have cS:=bq.grow g2;have nQ:F2 q=none:=g2.keepN h4 h3;exact⟨q,xs,n,j,rfl,rfl,g2.hh _ _ h4,by rw[h5.length];exact hj,k _ F2 _ (g1.ff.trans g2.ff)<|cS.write (kk:=none) hi (Zi e2) h1 h2 nQ trivial<|(h5.mono g2.ff).set j<|r1.mono g2.ff⟩|_=>cases e4
end
section
variable{μ:Type}{X:Cx}{O:List Nat}{Res:WO μ}{tg iter:Expr}{body:List Stmt}{pos:Pos}
noncomputable def LvOk(X:Cx)(F0:Fz)(Dn:Ends):Fl->Prop|.rt d=>∀v F' H',Ex X.H₀ F0 F' H'->Rep X.K F' v d->Dn.rt v H'|.rz c n=>XW X F0 c n|_=>True
def Bu(X:Cx)(O:List Nat)(Res:WO μ)(F0:Fz)(F:Hp)(Dn:Ends):Sum (Q8×μ) Fl->Prop|.inl q=>∀σ' F' H',Sm F F'->RS X.K X.H₀ F0 F' H' σ' q.1 O->Res q.2 F0 F' H'->Dn.nx σ' H'|.inr fl=>LvOk X F0 Dn fl
inductive tRX(X:Cx)(O:List Nat)(Res:WO μ)(b:Y4 μ)(Dn:Ends)(σ:L2.St)(H:Hp):Prop|mk(F0:Fz)(F:Hp)(e:Q8)(m:μ)(r:Sum (Q8×μ) Fl)(h1:RS X.K X.H₀ F0 F H σ e O)(h2:Res m F0 F H)(h3:b e m=some r)(h4:Bu X O Res F0 F Dn r):tRX X O Res b Dn σ H
def MQ{it:Za}{g:JW}{b:Y4 μ}(gr:UB Res)(hc:X.calm=true)(hp:PassesOwn (model X.prog X.w) X.A X.env X.xe)(hi:PI X tg iter<|tI X O it)(hg:PG X tg<|tG X O O g)(hb:PSs X body<|tRX X O Res b)(hs:∀x,foldedSetIterable iter X.env x=pure x:=by intro _;rfl):PS X (.For tg iter body [] pos)<|tRX X O Res<|U0 it g b:=PS.imp (Lk hp hc hi hg hb hs)<|by
  rintro Dn σ H⟨F0,F,en,m,rr,rs,res,z,k⟩;obtain⟨ds,e1,e2⟩:=Qg z;refine⟨F0,F,en,ds,rs,e1,λF1 H1 J g1 io=>?_⟩;refine⟨λi n σ' H'=>n=ds.length-i/\i<=ds.length/\∃F' br m',Sm F1 F'/\RS X.K X.H₀ F0 F' H' σ' br O/\Res m' F0 F' H'/\W8 g b (ds.drop i) br m'=some rr,⟨ds.length,by omega,by omega,F1,en,m,.refl F1,rs.grow g1,gr _ _ _ _ _ _ res g1,by rw[We];exact e2⟩,?_⟩;rintro i n σ' H'⟨rfl,hle,F',br,m',s',aR,bY,e3⟩;rcases VJ i ds.length with hi|hi
  .refine .inr ⟨io.go i F' H' s' aR.fh hi,λσ2 H2=>∃n',n'<ds.length-i/\n'=ds.length-(i+1)/\i+1<=ds.length/\∃F' br m',Sm F1 F'/\RS X.K X.H₀ F0 F' H2 σ2 br O/\Res m' F0 F' H2/\W8 g b (ds.drop<|i+1) br m'=some rr,λσ2 H2⟨n',h1,h2⟩=>⟨n',h1,h2⟩,λx H2 hy=>?_⟩;obtain⟨F2,d,g2,hd,r2⟩:=io.yld i F' H' x H2 s' aR.fh hi hy;have fO:ds.drop i=d::ds.drop (i+1):=by
    rw[XA hi];rw[ZQ hi]at hd;obtain rfl:=Q5 hd;rfl
   rw[fO]at e3;obtain⟨e9,e4,e5⟩:=Qg e3;obtain⟨gh,e6,e7⟩:=Qg e5;refine⟨F0,F2,br,d,e9,aR.grow g2,r2,e4,λσ3 H3 F3 s3 rs3=>?_⟩;have sA:Sm F1 F3:=(s'.trans g2.ff).trans s3.ff;refine⟨F0,F3,e9,m',gh,rs3,gr _ _ _ _ _ _ (gr _ _ _ _ _ _ bY g2) s3,e6,?_⟩;cases gh with
   |inl q=>exact λσ4 F4 H4 s4 eA fU=>⟨_,by omega,rfl,hi,F4,q.1,q.2,sA.trans s4,eA,fU,e7⟩|inr fl=>
    obtain rfl:=Q5 e7;cases fl with
    |rt d=>exact k|rz c n=>exact k|_=>trivial
  .have hz:ds.drop i=[]:=Wf hi;rw[hz]at e3;obtain rfl:=Q5 e3;exact .inl ⟨io.stop i F' H' s' aR.fh hi,k σ' F' H' (g1.ff.trans s') aR bY⟩
def MT{st:Stmt}{b:Y4 μ}(h:PS X st<|tRX X O Res b):PSs X [st]<|tRX X O Res b:=ZT h
end
theorem LvOk.fl{X:Cx}{O' OL:List Nat}{F0:Fz}{F:Hp}{Dn:Ends}{fl:Fl}(h:Yq fl=true)(k:FlOk X O' OL false F0 F Dn fl):LvOk X F0 Dn fl:=by cases fl with|rt d=>exact λv F' H' x r=>k v F' H' x r|rz c n=>exact k|_=>cases h
def LvOk.to{X:Cx}{O' OL:List Nat}{F0:Fz}{F:Hp}{Dn:Ends}{fl:Fl}(h:Yq fl=true)(k:LvOk X F0 Dn fl):FlOk X O' OL false F0 F Dn fl:=by cases fl with|rt d=>exact λv F' H' x r=>k v F' H' x r|rz c n=>exact k|_=>cases h
def LvOk.pin{X:Cx}{F0:Fz}{Dn:Ends}{fl:Fl}{y:Nat->Option Addr}(k:LvOk X F0 Dn fl):LvOk X ⟨F0.f,F0.h,y⟩ Dn fl:=by cases fl with|rt d=>exact λv F' H' x r=>k v F' H' ⟨x.fh,x.hh,x.ff,x.fr⟩ r|rz c n=>exact λaa σ F H s ea I x r fly=>k aa σ F H s ea I ⟨x.fh,x.hh,x.ff,x.fr⟩ r fly|_=>trivial
section
variable{X:Cx}{i:Nat}{pos:Pos}
def MO{c:Expr}{A:List Stmt}{ex:Q6}{f:Str->BM->Option (Bool×BM)}{kx:QJ}{O' OL:List Nat}(hc:PT X c<|B3<|tB<|Yx (spB X.K f) [] E0<|Jc (J7 i)<|Jc (tD X [J1 i] ex) Jm)(hk:PSs X A<|tS X [J1 i] O' OL false kx):PS X (.If c A [] pos)<|tRX X [J1 i] (BRes2 X.K)<|V1 ex f kx:=PS.imp (Yt hc hk Yu)<|by
  rintro Dn σ H⟨F0,F,en,m,r,rs,res,z,k⟩;unfold V1 at z;split at z
  .rename_i x hx;split at z
   .rename_i hl;obtain⟨q,e1,e2⟩:=Qg z;obtain⟨p',aZ,hσ⟩:=rs.pin i (by simp);refine⟨_,hσ,F0,F,en,_,rs,hx,λv F1 H1 g1 r1=>?_⟩;obtain rfl:=r1.sI;obtain⟨B,p,fp,hp,bh,sB,hB,hn⟩:=BRes2.gr X.K _ _ _ _ _ _ res g1;have bq:=rs.grow g1;rw[hp]at aZ;obtain rfl:=Q5 aZ;refine⟨B,m,p,fp,x,q,sB,rfl,bh,e1,λF' H' cU q1 q2 q3 q4 q5 q6=>⟨q.1,rfl,?_⟩⟩;have keep:∀a o,F1 a=some o->H' a=some o:=λa o h=>q3 a o (λz=>by rw[(hn a z).2]at h;simp at h)<|bq.fh a o h;have hV:∀a o,F0.h a=some o->H' a=some o:=λa o h=>q3 a o (λz=>by rw[(hn a z).1]at h;simp at h)<|bq.hh a o h;have cS:=bq.nest (Th i) hl (.refl F1) keep hV λa o h=>.inl h;have eN:BRes2 X.K q.2 F0 F1 H':=by
     refine⟨F',p,cU,hp,q5,q2,λa o h=>?_,λa ha=>?_⟩
     .rcases q4 a o h with y|y|y;.exact hB a o y
      .exact(hn a y).1
      .exact bq.hh.none y
     .rcases q_7.mp ha with y|y;.rw[y];exact hn p JY
      .rcases q6 a y with y|y;.exact hn a<|Qy _ y
       .exact⟨bq.hh.none y,bq.fh.none y⟩
    cases hq:q.1 with
    |true=>
     rw[hq]at e2;obtain rfl:=Q5 e2;exact ZI<|k σ F1 H' g1.ff cS eN|false=>
     rw[hq]at e2;obtain⟨fl,e3,e4⟩:=Qg e2;split at e4
     .rename_i gi;obtain rfl:=Q5 e4;exact ZP ⟨F0,F1,en,fl,cS,e3,LvOk.to gi k⟩
     .simp at e4
   .simp at z
  .simp at z
def MU{s1 s2 s4:Stmt}{c:Expr}{A:List Stmt}{b:Y4 BM}{cl:Q6}{kx:QJ}{O' OL:List Nat}(h1:PS X s1<|Vm (Tt Jm)<|W2 i)(h2:PS X s2<|tRX X [J1 i] (BRes2 X.K) b)(hc:PT X c<|tDT X [] cl)(hk:PSs X A<|tS X [J1 i] O' OL false kx)(h4:PS X s4<|ZX<|J7 i):PSs X [s1,s2,.If c A [] pos,s4]<|tS X [] [] [] false<|WJ i b cl kx:=PSs.imp (Z1 h1<|Z1 h2<|Z1 (Yt hc hk Yu)<|ZT h4)<|by
  rintro Dn σ H⟨F0,F,en,fl,rs,z,k⟩;unfold WJ at z;split at z
  .rename_i hc;obtain⟨r,e1,e2⟩:=Qg z;refine⟨Zm _,λp hp=>?_⟩;have jL:BRes2 X.K [] ⟨F0.f,F0.h,yp p⟩ F<|upd H p<|.lst []:=⟨λ_=>none,p,[],rfl,⟨[],Qu,rfl,.nil,by simp⟩,λ_ _ h=>by simp at h,λ_ _ h=>by simp at h,λa ha=>by rw[q_1.mp ha];exact⟨rs.hh.none hp,rs.fh.none hp⟩⟩;refine⟨⟨F0.f,F0.h,yp p⟩,F,_,[],r,rs.pinIn hc.2 hc.1 hp _,jL,e1,?_⟩;cases r with
   |inr gp=>
    have e2:(if Yq gp=true then some gp else none)=some fl:=e2;split at e2;.rename_i gi;obtain rfl:=Q5 e2;have:=LvOk.pin (y:=yp p)<|LvOk.fl gi k;cases gp with
     |rt d=>exact this|rz c n=>exact this|_=>trivial
    .simp at e2|inl q=>
    intro σ' F' H' s' aR bY;have e2:(if q.1.length<=1000 then match cl<|q.1.set i<|some<|Qh q.2 with
     |some (.bl true)=>(kx q.1).bind λfl=>if Yq fl=true then some fl else none|some (.bl false)=>some<|.rt<|Qh q.2|_=>none else none)=some fl:=e2;split at e2
    .rename_i hd;obtain⟨F1,sf,rv⟩:=BRes2.view aR bY hd;split at e2
     .rename_i ec;obtain⟨gp,e3,e4⟩:=Qg e2;split at e4
      .rename_i gi;obtain rfl:=Q5 e4;refine⟨_,F1,_,true,rv,ec,λF2 H2 g2=>ZP ?_⟩;have:=LvOk.pin (y:=yp p)<|LvOk.fl gi k;refine⟨⟨F0.f,F0.h,yp p⟩,F',q.1,gp,aR.grow<|go aR.fh g2.hh,e3,LvOk.to gi ?_⟩;cases gp with
       |rt d=>exact this|rz c n=>exact this|_=>trivial
      .simp at e4
     .rename_i ec;obtain rfl:=Q5 e2;refine⟨_,F1,_,false,rv,ec,λF2 H2 g2=>ZI ?_⟩;obtain⟨B,p',fp,aZ,bh,sB,hB,hn⟩:=BRes2.gr X.K _ _ _ _ _ _ bY<|go aR.fh g2.hh;have cS:=aR.grow<|go aR.fh g2.hh;obtain⟨qq,hq,hσ⟩:=cS.pin i (by simp);rw[aZ]at hq;obtain rfl:=Q5 hq;refine⟨_,hσ,?_⟩;obtain⟨s1',kq,r1⟩:=bh.frz sB;refine k (.ref p') (un F'<|fz B H2<|p'::fp) H2 ⟨Wm cS.fh kq,cS.hh,cS.ff.trans<|WL _ _,λa o h=>?_⟩<|r1.mono<|Wl cS.fh kq;rcases Rk h with y|y;.exact cS.fr a o y
      .rcases Mx y with⟨y,_⟩|y;.exact .inr (hn a y).1
       .exact .inr<|hB a o y
     .simp at e2
    .simp at e2
  .simp at z
end
section
variable{X:Cx}{pos:Pos}{bb:Zf}
def QfS{c:Expr}{A rest:List Stmt}{f:Str->BM->Option (Bool×BM)}(hc:PT X c<|tB<|Yx (spB X.K f) [] E0<|Jc (J7 0)<|Jc (J7 1) Jm)(ha:PSs X A<|ZX<|tC<|.bl true)(hb:PSs X rest<|tRB X bb):PSs X (.If c A [] pos::rest)<|tRB X<|Wo f bb:=PSs.imp (Z1 (Yt hc ha Yu) hb)<|by
  rintro Dn σ H⟨F0,F,en,m,r,rs,res,hl,z,k⟩;unfold Wo at z;split at z
  .rename_i x hx;obtain⟨q,e1,e2⟩:=Qg z;obtain⟨p,fp,hp,bh,hn⟩:=res;obtain⟨p',aZ,hσ⟩:=rs.pin 0 (by simp);rw[hp]at aZ;obtain rfl:=Q5 aZ;obtain⟨v1,s1,r1⟩:=rs.slot 1 _ (Zi hx) (by simp[J1]);obtain rfl:=r1.sI;refine⟨_,hσ,_,s1,F,m,p,fp,x,q,rs.fh,rfl,bh,e1,λF' H' cU q1 q2 q3 q4 q5 q6=>⟨q.1,rfl,?_⟩⟩;have s0:Sm F0.h H':=λa o h=>q3 a o (λz=>by rw[hn a z]at h;simp at h)<|rs.hh a o h;have fr:∀a o,F' a=some o->F a=some o\/F0.h a=none:=λa o h=>by
    rcases q4 a o h with y|y|y;.exact .inl y
    .exact .inr<|hn a y
    .exact .inr<|rs.hh.none y
   have nT:∀a o,F' a=some o->F0.f a=some o\/F0.h a=none:=λa o h=>by
    rcases fr a o h with y|y;.exact rs.fr a o y
    .exact .inr y
   have eN:BRes X.K q.2 F0 F' H':=⟨p,cU,hp,q5,λa ha=>by
    rcases q_7.mp ha with y|y;.rw[y];exact hn p JY
    .rcases q6 a y with y|y;.exact hn a<|Qy _ y
     .exact rs.hh.none y⟩;cases hq:q.1 with
   |true=>
    rw[hq]at e2;obtain rfl:=Q5 e2;exact ZP<|k F' H' q1 q2 s0 nT eN|false=>
    rw[hq]at e2;exact ZI ⟨F0,F',en,q.2,r,rs.nest DB hl q1 q2 s0 fr,eN,hl,e2,λF2 H2 a b c d e=>k F2 H2 (q1.trans a) b c d e⟩
  .simp at z
def QcQ(m:BM)(b:Bk):Sa (m++[b])=some (Jx b):=by unfold Sa;simp
def Cr{o:Option D}{x:Str}(h:U4 o=some x):o=some (.str x):=by
 unfold U4 at h;split at h;.obtain rfl:=Q5 h;rfl
 .simp at h
def Qcg{o:Option D}(h:TU o=true):o=some (.bl true):=by
 unfold TU at h;split at h;.rfl
 .cases h
def RY{σ:L2.St}(hl:σ.length=3)(v:V):(σ.set 2<|some v)[2]?=some (some v):=by rw[Wc,if_pos rfl,if_pos<|by rw[hl];decide]
def VM{σ:L2.St}{i:Nat}{u:V}(v:V)(hi:i≠2)(e:σ[i]?=some (some u)):(σ.set 2<|some v)[i]?=some (some u):=by rw[Wb<|Ne.symm hi];exact e
def rs3{K:Fg}{H₀ F H:Hp}{σ:L2.St}{e0 e2:Option D}{x:Str}(s:Sm F H)(hl:σ.length=3)(h0:∀d,e0=some d->∃v,σ[0]?=some (some v)/\Rep K F v d)(h1:σ[1]?=some (some<|.str x))(h2:∀d,e2=some d->∃v,σ[2]?=some (some v)/\Rep K F v d):RS K H₀ ⟨F,H,np⟩ F H σ [e0,some<|.str x,e2] []:=Xy s (λi d h=>by match i,h with|0,h=>exact h0 d<|Q5 h|1,h=>cases h;exact⟨_,h1,.str _⟩|2,h=>exact h2 d<|Q5 h|i+3,h=>simp at h) hl
def QfT{cR:List Stmt}{c0 c1 y1 c2 y2:Q6}(h:PSs X cR<|ZY (Vm (Kf<|Jc (tC<|.str "")<|Jc (Tt Jm) Jm)<|W2 2)<|ZY (XM (tDT X [] c0) (Vm (Zx X.K<|J7 0)<|W2 2) XO)<|ZY (XM (tDT X [] c1) (ZY (Vo<|Vn X.K "list" Vl (Yc X.K (J7 2) 1)<|Jc (tD X [] y1) Jm)<|ZX<|tC<|.bl true) XO)<|ZY (XM (tDT X [] c2) (ZY (Vo<|Vn X.K "list" Vl (Yc X.K (Zx X.K<|Yc X.K (J7 2) 1) 2)<|Jc (tD X [] y2) Jm)<|ZX<|tC<|.bl true) XO)<|ZX<|tC<|.bl false):PSs X cR<|tRB X<|S4 c0 c1 y1 c2 y2:=PSs.imp h<|by
  rintro Dn σ H⟨F0,F,en,m,r,rs,res,hl,z,k⟩;unfold S4 at z;split at z
  .rename_i x hx;split at z
   .rename_i cM;have σl:σ.length=3:=by rw[rs.len];exact cM.2
    obtain⟨p,fp,hp,bh,hn⟩:=res;obtain⟨p',aZ,hσ⟩:=rs.pin 0 (by simp);rw[hp]at aZ;obtain rfl:=Q5 aZ;obtain⟨v1,s1,r1⟩:=rs.slot 1 _ (Zi hx) (by simp[J1]);obtain rfl:=r1.sI;have hz:=sizeLine_eq;refine⟨Zm _,λq hq=>⟨by show 2<=_;omega,λt ht=>?_⟩⟩;have tq:t≠q:=λz=>by rw[z,Qu]at ht;cases ht
    have gC:H t=none:=by rw[QY tq]at ht;exact ht
    generalize jy:upd (upd H q<|.lst []) t (.tup [.str "",.ref q])=H1;have sH:Sm H H1:=by rw[<-jy];exact((Sm.refl H).upd _ hq).upd _ gC
    have lH:H1 t=some (.tup [.str "",.ref q]):=by rw[<-jy];exact Qu
    have lJ:H1 q=some (.lst []):=by rw[<-jy,QY<|Ne.symm tq];exact Qu
    have F1:Sm F H1:=rs.fh.trans sH;have fQ:Sm F0.h H1:=rs.hh.trans sH;have cE:=bh.gr<|go rs.fh sH;obtain⟨w1,w2,w3⟩:=cE.frz F1;have same:∀{H2:Hp},Sm H1 H2->r=(false,m)->Dn.rt (.bl false) H2:=λ{H2}s e=>by
     subst e;exact k F H2 (.refl F) (F1.trans s) (fQ.trans s) rs.fr ⟨p,fp,hp,cE.gr<|go F1 s,hn⟩
    have v0:∀{σ':L2.St}(e2:Option D){H2:Hp},Sm H1 H2->σ'.length=3->σ'[0]?=some (some<|.ref p)->σ'[1]?=some (some<|.str x)->(G:Hp)->Sm G H2->(∀d,e2=some d->∃v,σ'[2]?=some (some v)/\Rep X.K G v d)->∃Fv,RS X.K X.H₀ ⟨Fv,H2,Wd.np⟩ Fv H2 σ' [some<|Qh m,some<|.str x,e2] []:=λ{σ'}e2{H2}s l a0 a1 G sG a2=>by have sw:=w2.trans s;exact⟨un (fz F H1<|p::fp) G,rs3 (Wm sw sG) l (λd hd=>by obtain rfl:=Q5 hd;exact⟨_,a0,w3.mono<|WL _ _⟩) a1 λd hd=>by obtain⟨v,b1,b2⟩:=a2 d hd;exact⟨v,b1,b2.mono<|Wl sw sG⟩⟩
    have l2:∀v:V,(σ.set 2<|some v).length=3:=λv=>by rw[Z2];exact σl
    obtain⟨lL,kr⟩:=v0 none (.refl H1) (l2<|.ref t) (VM _ (by decide) hσ) (VM _ (by decide) s1) (λ_=>none) (λ_ _ h=>by simp at h) (λ_ h=>by simp at h);rcases Yw m with rfl|⟨m0,bl,rfl⟩;.-- no block yet
     have z:(if Vb (c0 [some<|Qh [],some<|.str x,none])=true/\Vb (c1 [some<|Qh [],some<|.str x,some<|.tup [.str "",.lst []]])=true/\Vb (c2 [some<|Qh [],some<|.str x,some<|.tup [.str "",.lst []]])=true then some (false,([]:BM))else none)=some r:=z;split at z
     .rename_i hc;obtain⟨a0,a1,a2⟩:=hc;replace a0:=L7 a0;replace a1:=L7 a1;replace a2:=L7 a2;have er:=(Q5 z).symm;refine⟨_,lL,_,false,kr,a0,λF' H' g=>ZI ?_⟩;have rt:∀{H2:Hp},Sm H1 H2->∃G,Sm G H2/\Rep X.K G (.ref t) (.tup [.str "",.lst []]):=λ{H2}s=>⟨un (RZ t<|.tup [.str "",.ref q])<|RZ q<|.lst [],Wm (Ra<|s _ _ lH)<|Ra<|s _ _ lJ,.tup (WL _ _ _ _<|KR _ _)<|.cons (.str _)<|.cons (.lst (Wl (Ra<|s _ _ lH) (Ra<|s _ _ lJ) _ _<|KR _ _) .nil) .nil⟩;obtain⟨G1,l0,l9⟩:=rt g.hh;obtain⟨iP,fH⟩:=v0 (some<|.tup [.str "",.lst []]) g.hh (l2<|.ref t) (VM _ (by decide) hσ) (VM _ (by decide) s1) G1 l0 (λd hd=>by obtain rfl:=Q5 hd;exact⟨_,RY σl _,l9⟩);refine⟨_,iP,_,false,fH,a1,λlM lK g'=>ZI ?_⟩;obtain⟨G2,lZ,l8⟩:=rt<|g.hh.trans g'.hh;obtain⟨iO,ek⟩:=v0 (some<|.tup [.str "",.lst []]) (g.hh.trans g'.hh) (l2<|.ref t) (VM _ (by decide) hσ) (VM _ (by decide) s1) G2 lZ (λd hd=>by obtain rfl:=Q5 hd;exact⟨_,RY σl _,l8⟩);exact⟨_,iO,_,false,ek,a2,λF3 H3 g3=>ZI<|same ((g.hh.trans g'.hh).trans g3.hh) er⟩
     .simp at z
    .rw[QcQ]at z;have z:(if TU (c0 [some<|Qh<|m0++[bl],some<|.str x,none])=true then match c1 [some<|Qh<|m0++[bl],some<|.str x,some<|Jx bl]with
      |some (.bl true)=>if Z9 Vp (m0++[bl])=some true then(U4<|y1 [none,some<|.str x,none]).map λy=>(true,ZJ (Uo y)<|m0++[bl])else none|some (.bl false)=>match c2 [some<|Qh<|m0++[bl],some<|.str x,some<|Jx bl]with|some (.bl true)=>if Z9 YD (m0++[bl])=some true then(U4<|y2 [none,some<|.str x,none]).map λy=>(true,ZJ (W9 y)<|m0++[bl])else none|some (.bl false)=>some (false,m0++[bl])|_=>none
      |_=>none else none)=some r:=z;split at z
     .rename_i a0;replace a0:=Qcg a0;refine⟨_,lL,_,true,kr,a0,λF' H' g=>ZP ?_⟩;obtain⟨vs,v,gD,l7⟩:∃vs v,H1 p=some (.lst<|vs++[v])/\Rep X.K (fz F H1<|p::fp) v (Jx bl):=by obtain⟨vs,h1,h2,b,nd⟩:=cE;obtain⟨ws,v,fq,fr,rfl,rfl,a,c⟩:=b.last;exact⟨ws,v,h1,c.rep w1 λa' ha=>TR<|by simp[ha]⟩
      refine XN (g.hh _ _ gD) ?_ λQ q=>⟨_,VM _ (by decide) hσ,q⟩;have km:∀{H2:Hp},Sm H1 H2->∃Fv,RS X.K X.H₀ ⟨Fv,H2,Wd.np⟩ Fv H2 ((σ.set 2<|some<|.ref t).set 2<|some v) [some<|Qh<|m0++[bl],some<|.str x,some<|Jx bl] []:=λ{H2}s=>v0 (some<|Jx bl) s (by rw[Z2];exact l2 _) (VM _ (by decide)<|VM _ (by decide) hσ) (VM _ (by decide)<|VM _ (by decide) s1) (fz F H1<|p::fp) (w2.trans s) (λd hd=>by obtain rfl:=Q5 hd;exact⟨_,RY (l2 _) _,l7⟩);obtain⟨iP,fH⟩:=km g.hh;have txt:∀{H2:Hp}{ev:Q6}{y:Str}{Q:VK},ev [none,some<|.str x,none]=some (.str y)->(∀H3,Sm H2 H3->Q (.str y) H3)->tD X [] ev ((σ.set 2<|some<|.ref t).set 2<|some v) H2 Q:=λ{H2 ev y Q}e q=>⟨⟨λ_=>none,H2,Wd.np⟩,λ_=>none,_,_,rs3 (λ_ _ h=>by simp at h) (by rw[Z2];exact l2 _) (λ_ h=>by simp at h) (VM _ (by decide)<|VM _ (by decide) s1) λ_ h=>by simp at h,e,λv F' H' g r=>by obtain rfl:=r.sI;exact q H' g.hh⟩;have ib:∀{H2:Hp}{l:Addr}{zs:List V}{y:Str}{m':BM},Sm H1 H2->l∈fp->BH X.K F (upd H2 l<|.lst<|zs++[.str y]) m' p fp->r=(true,m')->Dn.rt (.bl true) (upd H2 l<|.lst<|zs++[.str y]):=λ{H2 l zs y m'}s lf b e=>by
       subst e;have lm:l∈p::fp:=Qy _ lf;exact k F _ (.refl F) ((F1.trans s).upd _ (cE.at l lm).2) ((fQ.trans s).upd _<|hn l lm) rs.fr ⟨p,fp,hp,b,hn⟩
      split at z
      .rename_i a1;split at z
       .rename_i dZ;obtain⟨y,ey,rfl⟩:=Z0 z;refine⟨_,iP,_,true,fH,a1,λlM lK g'=>ZP ?_⟩;have sA:=g.hh.trans g'.hh;rw[W7]at dZ;cases bl with
        |pa is=>cases dZ|pl d=>obtain⟨h,_⟩:=YZ dZ;cases h|tb rows lab=>
         obtain⟨bZ,t',l,u,lf,b1,b2,b3,b4⟩:=(cE.gr<|go F1 sA).row;rw[sA _ _ gD]at b1;obtain rfl:=XF<|HO.lst.inj<|Q5 b1;have eD:rows.length<100000:=by
          have:=cM.1;simp only[ZO,XC,Ja,VI,U2]at this;exact of_decide_eq_true this.2.2.1
         refine XJ (K:=X.K) (t:=J7 2) (i:=1) (v:=.ref l) (F1.trans sA _ _ b2) rfl ⟨.inl ⟨rfl,_,SqL.of b3⟩,txt (Cr ey) λH3 s3=>?_⟩ λQ q=>⟨_,RY (l2 _) _,q⟩;refine⟨l,_,_,rfl,rfl,s3 _ _ b3,by rw[Qr];omega,?_⟩;rw[Uc]at ib;refine ib (sA.trans s3) lf ?_ rfl;obtain⟨lO,t2,mD,u2,lf2,d1,d2,d3,d4⟩:=(cE.gr<|go F1<|sA.trans s3).row;rw[(sA.trans s3) _ _ gD]at d1;cases XF<|HO.lst.inj<|Q5 d1;rw[b2]at d2;have e2:=HO.tup.inj<|Q5 d2;simp only[List.cons.injEq,V.ref.injEq,true_and]at e2;obtain⟨rfl,_⟩:=e2;exact d4 y
       .simp at z
      .rename_i a1;refine⟨_,iP,_,false,fH,a1,λlM lK g'=>ZI ?_⟩;have sA:=g.hh.trans g'.hh;obtain⟨iO,ek⟩:=km sA;split at z
       .rename_i a2;split at z
        .rename_i dZ;obtain⟨y,ey,rfl⟩:=Z0 z;refine⟨_,iO,_,true,ek,a2,λF3 H3 g3=>ZP ?_⟩;have sB:=sA.trans g3.hh;rw[W7]at dZ;cases bl with
         |tb rows lab=>cases dZ|pl d=>obtain⟨h,_⟩:=YZ dZ;cases h|pa is=>
          rcases Yw is with rfl|⟨dD,i,rfl⟩;.cases dZ
          .have h':UA i=some true:=by unfold YD at dZ;simpa using dZ
           cases i with
           |pl d=>obtain⟨h,_⟩:=YZ h';cases h|wd xx ns=>
            obtain⟨bZ,t',l,us,t2,n,⟨nf,lf⟩,b1,b2,b3,b4,b5,_,b6⟩:=(cE.gr<|go F1 sB).note;rw[sB _ _ gD]at b1;obtain rfl:=XF<|HO.lst.inj<|Q5 b1;have eD:ns.length<100000:=by
             have:=cM.1;simp only[ZO,XC,Ja,VI,U2,Rc]at this;exact of_decide_eq_true this.2.2.1.2.2.1
            refine XJ (K:=X.K) (t:=Zx X.K<|Yc X.K (J7 2) 1) (i:=2) (v:=.ref n) (F1.trans sB _ _ b4) rfl ⟨.inl ⟨rfl,_,SqL.of b5⟩,txt (Cr ey) λH4 s4=>?_⟩ λQ q=>XN b3 q λQ q=>XJ (F1.trans sB _ _ b2) rfl q λQ q=>⟨_,RY (l2 _) _,q⟩;refine⟨n,_,_,rfl,rfl,s4 _ _ b5,by rw[Qr];omega,?_⟩;rw[Uc]at ib;refine ib (sB.trans s4) nf ?_ rfl;obtain⟨lO,lP,mD,us2,t3,n2,_,d1,d2,d3,d4,d5,_,d6⟩:=(cE.gr<|go F1<|sB.trans s4).note;rw[(sB.trans s4) _ _ gD]at d1;cases XF<|HO.lst.inj<|Q5 d1;rw[b2]at d2;have e2:=HO.tup.inj<|Q5 d2;simp only[List.cons.injEq,V.ref.injEq,true_and,and_true]at e2;subst e2;rw[s4 _ _ b3]at d3;cases XF<|HO.lst.inj<|Q5 d3;rw[b4]at d4;have e3:=HO.tup.inj<|Q5 d4;simp only[List.cons.injEq,V.ref.injEq,true_and,and_true]at e3;subst e3;have:=d6 y;unfold W9;simpa[O9]using this
        .simp at z
       .rename_i a2;have er:=(Q5 z).symm;exact⟨_,iO,_,false,ek,a2,λF3 H3 g3=>ZI<|same (sA.trans g3.hh) er⟩
       .simp at z
      .simp at z
     .simp at z
   .simp at z
  .simp at z
end
def N7{σ:L2.St}{n j:Nat}(hl:σ.length=n)(hj:j<n)(v:V):(σ.set j<|some v)[j]?=some (some v):=by rw[Wc,if_pos rfl,if_pos<|by rw[hl];exact hj]
def Us{σ:L2.St}{i j:Nat}{u:V}(v:V)(hi:i≠j)(e:σ[i]?=some (some u)):(σ.set j<|some v)[i]?=some (some u):=by rw[Wb<|Ne.symm hi];exact e
def rs5{K:Fg}{H₀ F H:Hp}{σ:L2.St}{e0 e3 e4:Option D}{x:Str}(s:Sm F H)(hl:σ.length=5)(h0:∀d,e0=some d->∃v,σ[0]?=some (some v)/\Rep K F v d)(h1:σ[1]?=some (some<|.str x))(h3:∀d,e3=some d->∃v,σ[3]?=some (some v)/\Rep K F v d)(h4:∀d,e4=some d->∃v,σ[4]?=some (some v)/\Rep K F v d):RS K H₀ ⟨F,H,np⟩ F H σ [e0,some<|.str x,none,e3,e4] []:=Xy s (λi d h=>by match i,h with|0,h=>exact h0 d<|Q5 h|1,h=>cases h;exact⟨_,h1,.str _⟩|2,h=>simp at h|3,h=>exact h3 d<|Q5 h|4,h=>exact h4 d<|Q5 h|i+5,h=>simp at h) hl
def Ta{P:D->Prop}:∀d,(none:Option D)=some d->P d:=λ_ h=>by simp at h
section
variable{X:Cx}{pos:Pos}
def QfW{cR:List Stmt}{sp c1 c2:Q6}{fb fi:List D->Option D}(h:PSs X cR<|ZY (Vm (tD X [] sp)<|W2 2)<|ZY (Vm (Yx (spD X.K fb) [] E0<|Jc (J7 2) Jm)<|W2 3)<|ZY (XM (tDT X [] c1) (ZY (Vo<|Vn X.K "list" Vl (J7 0)<|Jc (J7 3) Jm)<|ZX<|tC<|.bl true) XO)<|ZY (Vm (Yx (spD X.K fi) [] E0<|Jc (J7 2) Jm)<|W2 4)<|ZY (XM (tDT X [] c2) (ZY (Vo<|Vn X.K "list" Vl (Yc X.K (Zx X.K<|J7 0) 1)<|Jc (J7 4) Jm)<|ZX<|tC<|.bl true) XO)<|ZX<|tC<|.bl false):PSs X cR<|tRB X<|UD sp fb c1 fi c2:=PSs.imp h<|by
  rintro Dn σ H⟨F0,F,en,m,r,rs,res,hl,z,k⟩;unfold UD at z;split at z
  .rename_i x hx;split at z
   .rename_i cM;obtain⟨P,hP,z⟩:=Qg z;obtain⟨d,hd,z⟩:=Qg z;have σl:σ.length=5:=by rw[rs.len];exact cM.2
    obtain⟨p,fp,hp,bh,hn⟩:=res;obtain⟨p',aZ,hσ⟩:=rs.pin 0 (by simp);rw[hp]at aZ;obtain rfl:=Q5 aZ;obtain⟨v1,s1,r1⟩:=rs.slot 1 _ (Zi hx) (by simp[J1]);obtain rfl:=r1.sI;have hz:=sizeLine_eq;refine⟨⟨λ_=>none,H,Wd.np⟩,λ_=>none,_,P,rs5 (λ_ _ h=>by simp at h) σl Ta s1 Ta Ta,hP,λv2 G1 H1 g1 r2=>?_⟩;have l1:(σ.set 2<|some v2).length=5:=by rw[Z2];exact σl
    refine⟨v2,N7 σl (by decide) v2,G1,[P],d,g1.fh,.cons r2 .nil,hd,λv3 G2 H2 g2 r3=>?_⟩;have l2:((σ.set 2<|some v2).set 3<|some v3).length=5:=by rw[Z2];exact l1
    have fX:∀{a:Addr}{o:HO},G2 a=some o->H a=none:=λ{a o}h=>by
     rcases g2.fr a o h with y|y;.exact UZ g1 y
     .exact g1.hh.none y
    have ko:Sm H H2:=g1.hh.trans g2.hh;have a0:((σ.set 2<|some v2).set 3<|some v3)[0]?=some (some<|.ref p):=Us _ (by decide)<|Us _ (by decide) hσ;have a1:((σ.set 2<|some v2).set 3<|some v3)[1]?=some (some<|.str x):=Us _ (by decide)<|Us _ (by decide) s1;have a3:((σ.set 2<|some v2).set 3<|some v3)[3]?=some (some v3):=N7 l1 (by decide) v3;have fH:RS X.K X.H₀ ⟨G2,H2,Wd.np⟩ G2 H2 ((σ.set 2<|some v2).set 3<|some v3) [none,some<|.str x,none,some d,none] []:=rs5 g2.fh l2 Ta a1 (λd' h=>by obtain rfl:=Q5 h;exact⟨_,a3,r3⟩) Ta;have eD:m.length<100000:=by have:=cM.1;simp only[ZO,Ja]at this;exact of_decide_eq_true this.1
    split at z;.-- a block
     rename_i ot;obtain rfl:=Q5 z;refine⟨_,G2,_,true,fH,ot,λF3 H3 g3=>ZP ?_⟩;have sH:Sm H H3:=ko.trans g3.hh;have F1:Sm F H3:=rs.fh.trans sH;have cE:=bh.gr<|go rs.fh sH;obtain⟨F2,fq,n1,n2,n3,n4,n5,n6⟩:=EZ r3 (g2.fh.trans g3.hh) F1 λa o h=>rs.fh.none<|fX h;have old:∀a∈p::fp,G2 a=none:=λa ha=>by cases e:G2 a with
      |none=>rfl|some o=>obtain⟨⟨us,e'⟩,_⟩:=bh.at a ha;rw[fX e]at e';simp at e'
     have fR:=cE.wid n1 λa ha=>by cases e:F2 a with
      |none=>rfl|some o=>
       rcases n4 a o e with y|y;.rw[(cE.at a ha).2]at y;simp at y
       .exact absurd (old a ha) y
     obtain⟨us,aQ,fn,bb,nd⟩:=id fR;refine⟨_,a0,.inl ⟨rfl,_,SqL.of aQ⟩,_,a3,p,us,_,rfl,rfl,aQ,by rw[bb.len];omega,?_⟩;have nw:∀{a:Addr},G2 a≠none->F0.h a=none:=λh=>by
      obtain⟨o,e⟩:=q_57.mp h;exact rs.hh.none<|fX e
     refine k F2 _ n1 (n2.upd _ fn) ((rs.hh.trans sH).upd _<|hn p JY) (λa o h=>?_) ⟨p,fp++fq,hp,fR.app n3 (fR.nod n6 λa ha z=>n5 a ha<|old a z) aQ,λa ha=>?_⟩
     .rcases n4 a o h with y|y;.exact rs.fr a o y
      .exact .inr<|nw y
     .rcases q_7.mp ha with y|y;.rw[y];exact hn p JY
      .rcases q_8.mp y with y|y;.exact hn a<|Qy _ y
       .exact nw<|n5 a y
    .rename_i ou;obtain⟨i,hi,z⟩:=Qg z;refine⟨_,G2,_,false,fH,ou,λF3 H3 g3=>ZI ?_⟩;have j8:Sm G1 H3:=(g1.fh.trans g2.hh).trans g3.hh;refine⟨v2,Us _ (by decide)<|N7 σl (by decide) v2,G1,[P],i,j8,.cons r2 .nil,hi,λv4 G4 H4 g4 r4=>?_⟩;have l3:(((σ.set 2<|some v2).set 3<|some v3).set 4<|some v4).length=5:=by rw[Z2];exact l2
     have b0:(((σ.set 2<|some v2).set 3<|some v3).set 4<|some v4)[0]?=some (some<|.ref p):=Us _ (by decide) a0;have b1:(((σ.set 2<|some v2).set 3<|some v3).set 4<|some v4)[1]?=some (some<|.str x):=Us _ (by decide) a1;have b4:(((σ.set 2<|some v2).set 3<|some v3).set 4<|some v4)[4]?=some (some v4):=N7 l2 (by decide) v4;have kn:Sm H H3:=ko.trans g3.hh;have ig:Sm H H4:=kn.trans g4.hh;have fW:∀{a:Addr}{o:HO},G4 a=some o->H a=none:=λ{a o}h=>by
      rcases g4.fr a o h with y|y;.exact UZ g1 y
      .exact kn.none y
     have F4:Sm F H4:=rs.fh.trans ig;have ow:=bh.gr<|go rs.fh ig;obtain⟨w1,w2,w3⟩:=ow.frz F4;have ek:RS X.K X.H₀ ⟨un (fz F H4<|p::fp) G4,H4,Wd.np⟩ (un (fz F H4<|p::fp) G4) H4 (((σ.set 2<|some v2).set 3<|some v3).set 4<|some v4) [some<|Qh m,some<|.str x,none,none,some i] []:=rs5 (Wm w2 g4.fh) l3 (λd' h=>by obtain rfl:=Q5 h;exact⟨_,b0,w3.mono<|WL _ _⟩) b1 Ta (λd' h=>by obtain rfl:=Q5 h;exact⟨_,b4,r4.mono<|Wl w2 g4.fh⟩);split at z
     .rename_i oo;split at z
      .rename_i hq;obtain rfl:=Q5 z;refine⟨_,_,_,true,ek,oo,λF5 H5 g5=>ZP ?_⟩;have fG:Sm H H5:=ig.trans g5.hh;have oC:Sm F H5:=rs.fh.trans fG;have lG:=bh.gr<|go rs.fh fG;rcases Yw m with rfl|⟨m0,bl,rfl⟩;.cases hq
       .rw[W7]at hq;cases bl with|tb rows lab=>cases hq|pl d=>obtain⟨h,_⟩:=YZ hq;cases h|pa is=>
         obtain⟨F6,fq,n1,n2,n3,n4,n5,n6⟩:=Ea r4 (g4.fh.trans g5.hh) oC λa o h=>rs.fh.none<|fW h;have old:∀a∈p::fp,G4 a=none:=λa ha=>by cases e:G4 a with|none=>rfl|some o=>
           obtain⟨⟨us,e'⟩,_⟩:=bh.at a ha;rw[fW e]at e';simp at e'
         have jH:=lG.wid n1 λa ha=>by cases e:F6 a with|none=>rfl|some o=>
           rcases n4 a o e with y|y;.rw[(lG.at a ha).2]at y;simp at y
           .exact absurd (old a ha) y
         obtain⟨us,t,l,bZ,lf,q1,q2,q3,q4,_,q5⟩:=jH.item;have ish:is.length<100000:=by
          have:=cM.1;simp only[ZO,XC,Ja,VI,U2]at this;exact of_decide_eq_true this.2.2.1.1
         refine XJ (K:=X.K) (t:=Zx X.K<|J7 0) (i:=1) (v:=.ref l) (n2 _ _ q2) rfl ⟨.inl ⟨rfl,_,SqL.of q3⟩,v4,b4,l,_,v4,rfl,rfl,q3,by omega,?_⟩ λQ q=>XN q1 q λQ q=>⟨_,b0,q⟩;rw[Uc]at k;have nw:∀{a:Addr},G4 a≠none->F0.h a=none:=λh=>by
          obtain⟨o,e⟩:=q_57.mp h;exact rs.hh.none<|fW e
         have lm:l∈p::fp:=Qy _ lf;refine k F6 _ n1 (n2.upd _ (jH.at l lm).2) ((rs.hh.trans fG).upd _<|hn l lm) (λa o h=>?_) ⟨p,fp++fq,hp,q5 v4 _ fq n3<|jH.nod n6 λa ha z=>n5 a ha<|old a z,λa ha=>?_⟩
         .rcases n4 a o h with y|y;.exact rs.fr a o y
          .exact .inr<|nw y
         .rcases q_7.mp ha with y|y;.rw[y];exact hn p JY
          .rcases q_8.mp y with y|y;.exact hn a<|Qy _ y
           .exact nw<|n5 a y
      .simp at z
     .rename_i oq;obtain rfl:=Q5 z;refine⟨_,_,_,false,ek,oq,λF5 H5 g5=>ZI ?_⟩;have fG:Sm H H5:=ig.trans g5.hh;exact k F H5 (.refl F) (rs.fh.trans fG) (rs.hh.trans fG) rs.fr ⟨p,fp,hp,bh.gr<|go rs.fh fG,hn⟩
     .simp at z
    .simp at z
   .simp at z
  .simp at z
end
section
variable{X:Cx}{O:List Nat}{pos apos:Pos}
def Qba{i:Nat}{x y z:Str}{j2 j3}{p1 p4 p5:Pos}(mL:(y==z)=false)(hz:z.length<=14)(hN:X.N[i]?=some x)(hv:Yy X.env.scope x)(hO:i∉O)(hd:XV x:=by decide)(bE:(x==("__classdict__":Str))=false:=by decide)(az:attributeBase (.Name x p1) "replace" X.env (eval (.Name x p1) X.env)=eval (.Name x p1) X.env:=by rfl)(aF:(apos.endLine==pos.line)=true:=by rfl):PEt 1 X (.Call (.Attribute (.Name x p1) "replace" apos) [.Constant (.str y) j2 p4,.Constant (.str z) j3 p5] [] pos)<|tD X O<|QD (D.repl y z)<|eV i:=by
 rintro aa s σ H Q tk I⟨F0,F,en,d,rs,w,kk⟩;obtain⟨dt,e3,e6⟩:=Qg w;cases dt with
 |str t=>
  simp only[D.repl]at e6;split at e6
  .rename_i ht;obtain rfl:=Q5 e6;obtain⟨v,h1,h2⟩:=rs.slot i _ (Zi e3) hO;obtain rfl:=h2.sI;refine wpAny_Call_method_late az rfl aF rfl ?_;refine Qc0 I hN hv h1 (λu ru=>?_) hd bE;obtain⟨tt,rfl⟩:=ru;refine⟨"str","str.replace",PySem.F.plainAttrs_str,PySem.F.slot_str_replace,PySem.F.type_str_replace,typeIs_str _ _ _,λ_ e=>(nomatch e),?_⟩;refine Calls.callWith_builtin rfl<|Calls.evalArgs_plain ?_;refine Calls.spliced_cons<|Calls.Constant_str (k:=j2) (pos:=p4)<|Calls.spliced_cons<|Calls.Constant_str (k:=j3) (pos:=p5)<|Calls.spliced_nil ?_;exact SC.replaceW (by show s.toks≠0;omega) (by show s.toks+1≠0;omega) (by show s.toks≠s.toks+1;omega) mL ht hz λt' tk=>⟨.str _,H,I.tok tk,⟨_,rfl⟩,kk _ F H (.refl rs.fh)<|.str _⟩
  .simp at e6|_=>cases e6
end
def PSst(n0:Nat)(X:Cx)(cR:List Stmt)(t:TS):Prop:=∀(aa:List<|Addr×Obj)(s:Shared)(σ:L2.St)(H:Hp)(Dn:Ends),n0<=s.toks->Inv X aa σ H s->t Dn σ H->wpAny (model X.prog X.w) X.A (execs cR X.env) (SP X aa Dn) X.xe s
section
variable{X:Cx}{st:Stmt}{rest:List Stmt}{n0:Nat}
def QfD{t u:TS}(h1:Nf n0 X st t)(h2:PSs X rest u):PSst n0 X (st::rest)<|ZY t u:=by intro aa s σ H D hn I h;refine wpAny_execs_cons<|Qd (h1 aa s σ H {D with nx:=u D} hn I h) λf s1 q=>?_;cases f with|next=>obtain⟨σ',H',I',q⟩:=q;exact h2 aa s1 σ' H' D I' q|ret v=>exact q|brk=>exact q|cont=>exact q
def Qbr{O O1 O' OL:List Nat}{w:Bool}{a b:QJ}(h1:Nf n0 X st<|tS X O O1 OL w a)(h2:PSs X rest<|tS X O1 O' OL w b):PSst n0 X (st::rest)<|tS X O O' OL w<|sQ a b:=by rintro aa s σ H Dn hn I⟨F0,F,en,fl,rs,z,k⟩;refine QfD h1 h2 aa s σ H Dn hn I ?_;have z':N6 (a en) b=some fl:=z;cases q:a en with|none=>rw[q]at z';cases z'|some f1=>rw[q]at z';refine⟨F0,F,en,f1,rs,q,?_⟩;cases f1 with|nx e1=>exact λσ' F' H' s r=>⟨F0,F',e1,fl,r,z',k.mono s⟩|bk e1=>obtain rfl:=Q5 z';exact k|ct e1=>obtain rfl:=Q5 z';exact k|rt d=>obtain rfl:=Q5 z';exact k|rz c d=>obtain rfl:=Q5 z';exact k|rm d z=>obtain rfl:=Q5 z';exact k
end
theorem Ge:∀{names:List<|Str×NameKind}{n:Nat}{acc:List<|Str×Addr},(∀x∈names,x.2≠.cell)->cellsFrom n names acc=acc|[],_,_,_=>rfl|(nm,kd)::r,n,acc,h=>by unfold cellsFrom;rw[if_neg λz=>h (nm,kd) JY<|by simpa using z];exact Ge λx hx=>h x<|Qy _ hx
def QbK{P:Program}{w:World}{K:Fg}{mg:Str->Option Value}{ae:Heap}{k:Nat}{f:Addr}{name qual y:Str}{params:Arguments}{body:List Stmt}{scope:Scope}{dV kV doc pm ah ct oc:Value}{an od:Option Addr}{osl:Array<|Option Value}{N:List Str}{sp:Sp}(lk:K.lookup f=some ⟨oc,od,.func<|W.fnOf name qual params body scope dV kV doc pm an ah ct,osl⟩)(bE:W.codeIn K ah qual=true)(S:FnScope N [y] scope)(hc:∀x∈scope.names,x.2≠.cell)(dA:scope.names.lookup y=some .local)(len:∀vs H Q E,sp vs H Q E->vs.length=[y].length)(bH:∀(A:Around)(af:List Env)(s:Shared)(H:Hp)(vs:List V)(Q:VK)(E:XK),Room k (A.deeper<|envOfC qual scope s.heap.objs.size f ah)->sp vs H Q E->∃t,PSst 1 (JK J9 P w K mg ae N qual scope f ah A af s H E) body t/\t {nx:=λ_ H'=>Q .non H',rt:=Q} (ZV N vs) H):FnOk P w K mg ae J9 (k+1) f (W.fnOf name qual params body scope dV kV doc pm an ah ct) [y] sp:=by
 refine⟨len,λA af s H args us vs Q E hr e0 hb r cX=>?_⟩;have hl:=len _ _ _ _ cX;have KX:K.In s.heap:=e0.mod.kin.keeps λb o e=>(e0.bs b o e).1;have lim:s.heap.NoLimit:=e0.mod.nolimit.keeps λb o e=>(e0.bs b o e).1;obtain⟨u,rfl⟩:∃u,us=[u]:=List.length_eq_one_iff.mp (by rw[<-r.length];exact hl);have c0:cellsFrom (s.heap.objs.size+1) scope.names []=[]:=Ge hc;refine codeAny_call_function hr.depth (KX _ _ lk) rfl S.co S.gen rfl (W.codeRec_of KX bE)<|hb _ _ _ _ ?_;refine wpAny_newFunctionEnv hc (λx hx=>by rw[q_1.mp hx];exact dA) (λh' dH mU=>?_) S.kind;have kp:∀b o,s.heap.get? b=some o->h'.get? b=some o:=λb o e=>mU.extBut b o (Z5<|Heap.lt_size e)<|Heap.get?_push_of_some _ e;have x:InCallC s s.heap.objs.size (bindL (envOfC qual scope s.heap.objs.size f ah).kindOf ([y].zip [u]) λ_=>none) (cellsFrom (s.heap.objs.size+1) scope.names []) (bindC (envOfC qual scope s.heap.objs.size f ah).kindOf ([y].zip [u]) λ_=>none) {s with heap:=h',toks:=s.toks+1}:=by
  rw[c0];refine⟨⟨⟨h',_,rfl⟩,?_,kp,Qm _⟩,λn c h=>by simp at h,List.Pairwise.nil,λn c h=>by simp at h⟩;have e:(bindL (envOfC qual scope s.heap.objs.size f ah).kindOf ([y].zip [u]) λ_=>none)=λx=>([y].zip [u]).reverse.lookup x:=by
   funext z;show bindL _ [(y,u)] _ z=[(y,u)].lookup z;unfold bindL bindL;rw[if_pos<|show(envOfC qual scope s.heap.objs.size f ah).kindOf y=some .local from dA];show(if z=y then some u else none)=_;by_cases hz:z=y;.subst hz;simp
   .rw[if_neg hz];simp[List.lookup,beq_eq_false_iff_ne.mpr hz]
  rw[e];exact dH
 obtain⟨t,ht,hq⟩:=bH A af s H vs Q E (hr.deeper _) cX;have I:Inv (JK J9 P w K mg ae N qual scope f ah A af s H E) [] (ZV N vs) H {s with heap:=h',toks:=s.toks+1}:=Fm S hr.hd e0 hl r x;have key:codeAny (model P w) A (.func body<|envOfC qual scope s.heap.objs.size f ah) (CR J9 af P w H s Q E) {s with heap:=h',toks:=s.toks+1}:=by
  refine codeAny_func<|wpAny_mono (ht [] _ (ZV N vs) H _ (le_add_left 1 _) I hq) (λfl s' hs=>?_) λe s' hs=>hs;have fin:∀{σ':L2.St}{H':Hp}{v:V}{u:Value},Inv (JK J9 P w K mg ae N qual scope f ah A af s H E) [] σ' H' s'->RelV v u->Q v H'->CE af P w H s Q u s':=λ{σ' H' v u}J rv q=>⟨v,H',J.os,J.bare,J.ae,J.hok,rv,q⟩;cases fl with
  |ret u=>obtain⟨v,σ',H',J,rv,q⟩:=hs;exact fin J rv q|next=>obtain⟨σ',H',J,q⟩:=hs;exact fin (v:=V.non) (u:=Value.none) J rfl q|brk=>obtain⟨_,_,_,q⟩:=hs;exact False.elim q|cont=>
   obtain⟨_,_,_,q⟩:=hs;exact False.elim q
 refine⟨lim.keeps kp,?_⟩;unfold envOfC at key;rw[c0]at key;exact key
theorem PSst.nox{n0:Nat}{X:Cx}{cR:List Stmt}{t:TS}(h:PSst n0 X.nox cR t):PSst n0 X cR t:=λaa s σ H D hn I hw=>wpAny_mono (h aa s σ H D hn (I.wish _) hw) (λ_ _ q=>q.unwish) λ_ _ z=>False.elim z
def Fun.okT{P:Program}{w:World}{K:Fg}{mg:Str->Option Value}{ae:Heap}{x qual y:Str}{st:Stmt}{f:Addr}{fd:FuncData}{N:List Str}{k:Nat}{sp:Sp}(F:Fun K x qual st f fd)(S:FnScope N [y]<|QN st)(hc:∀x∈(QN st).names,x.2≠.cell)(dA:(QN st).names.lookup y=some .local)(len:∀vs H Q E,sp vs H Q E->vs.length=[y].length)(bH:∀(ah:Value)(A:Around)(af:List Env)(s:Shared)(H:Hp)(vs:List V)(Q:VK)(E:XK),Room k (A.deeper<|envOfC qual (QN st) s.heap.objs.size f ah)->sp vs H Q E->∃t,PSst 1 (JK J9 P w K mg ae N qual (QN st) f ah A af s H E).nox (Ju st) t/\t {nx:=λ_ H'=>Q .non H',rt:=Q} (ZV N vs) H):FnOk P w K mg ae J9 (k+1) f fd [y] sp:=by obtain⟨oc,od,kV,doc,pm,an,ah,ct,osl,rfl,lk,bE⟩:=F.ex;refine QbK lk bE S hc dA len λA af s H vs Q E hr cX=>?_;obtain⟨t,h,q⟩:=bH ah A af s H vs Q E hr cX;exact⟨t,h.nox,q⟩
section
variable{P:Program}{w:World}{K:Fg}{mg:Str->Option Value}{ae:Heap}{x y z z' z2 z3:Str}{st:Stmt}{k:Nat}{b:Zf}
def QdA(h:Df K mg x st [y,z])(S:FnScope [y,z,z',z2,z3] [y,z]<|QN st)(hb:∀(f:Addr)(ah:Value)(A:Around)(af:List Env)(s:Shared)(H:Hp)(E:XK),Room k (A.deeper<|envOfC x (QN st) s.heap.objs.size f ah)->PSs (JK J9 P w K mg ae [y,z,z',z2,z3] x (QN st) f ah A af s H E).nox (Ju st) (tRB (JK J9 P w K mg ae [y,z,z',z2,z3] x (QN st) f ah A af s H E).nox b)):Qb P w K mg ae (k+1) x [y,z]<|spB K<|FE b:=by
 obtain⟨f,fd,F,cz,hm⟩:=h;refine⟨f,fd,F.ok S (λvs H Q E q=>by obtain⟨_,_,_,_,_,_,_,hv,_⟩:=q;rw[hv];rfl) λah A af s H vs Q E hr q=>?_,cz,F.kp,hm⟩;obtain⟨Fq,m,p,fp,xx,r,sm,hv,bh,e,k⟩:=q;refine⟨_,hb f ah A af s H E hr,?_⟩;have bG:ZV [y,z,z',z2,z3] vs=[some<|V.ref p,some<|.str xx,none,none,none]:=by rw[hv];rfl
 rw[bG];let F0:Fz:=⟨Fq,λa=>if a∈p::fp then none else H a,yp p⟩;have h0:∀a o,F0.h a=some o->a∉p::fp/\H a=some o:=λa o h=>by
  have h':(if a∈p::fp then none else H a)=some o:=h;split at h';.simp at h'
  .rename_i z;exact⟨z,h'⟩
 have out:∀a,F0.h a=none->a∈p::fp\/H a=none:=λa ha=>by
  have h':(if a∈p::fp then none else H a)=none:=ha;split at h';.rename_i z;exact .inl z
  .exact .inr h'
 have rs:RS K H F0 Fq H [some<|V.ref p,some<|.str xx,none,none,none] [none,some<|.str xx,none,none,none] [J1 0]:=by
  refine⟨sm,λa o h=>(h0 a o h).2,.refl Fq,λa o h=>.inl h,λj d h hj=>?_,λj d h hj=>?_,λj _ _ _ _ hj _ h1=>?_,λj hj=>?_,rfl⟩;.match j,h with
   |0,h=>simp at h|1,h=>cases h;exact⟨_,rfl,.str _⟩|2,h=>simp at h|3,h=>simp at h|4,h=>simp at h|j+5,h=>simp at h
  .rw[q_1.mp hj]at h;simp[J1]at h
  .rw[q_1.mp hj]at h1;simp[J1]at h1
  .have:=q_1.mp hj;have:j=0:=by unfold J1 at this;omega
   subst this;exact⟨p,rfl,rfl⟩
 refine⟨F0,Fq,_,m,r,rs,⟨p,fp,rfl,bh,λa ha=>if_pos ha⟩,by simp,e,λF' H' s1 s2 s3 fr res=>?_⟩;obtain⟨p',cU,aZ,fS,eF⟩:=res;cases congrFun aZ 0;refine k F' H' cU s1 s2 (λa o ha e=>s3 a o<|show(if a∈p::fp then none else H a)=some o by rw[if_neg ha];exact e) (λa o h=>?_) fS λa ha=>?_
 .rcases fr a o h with z|z;.exact .inl z
  .exact .inr<|out a z
 .rcases out a<|eF a<|Qy _ ha with y|y
  .rcases q_7.mp y with w|w
   .obtain⟨_,_,_,_,nd⟩:=fS;exact absurd (w▸ha) (q_25.mp nd).1
   .exact .inl w
  .exact .inr y
end
section
variable{P:Program}{w:World}{K:Fg}{mg:Str->Option Value}{ae:Heap}{x y:Str}{st:Stmt}{N:List Str}{k:Nat}{b:QJ}
def QdD{f:Addr}{fd:FuncData}(F:Fun K x x st f fd)(S:FnScope N [y]<|QN st)(hc:∀x∈(QN st).names,x.2≠.cell)(dA:(QN st).names.lookup y=some .local){O' OL:List Nat}(hb:∀(ah:Value)(A:Around)(af:List Env)(s:Shared)(H:Hp)(E:XK),Room k (A.deeper<|envOfC x (QN st) s.heap.objs.size f ah)->PSst 1 (JK J9 P w K mg ae N x (QN st) f ah A af s H E).nox (Ju st) (tS (JK J9 P w K mg ae N x (QN st) f ah A af s H E).nox [] O' OL false b)):FnOk P w K mg ae J9 (k+1) f fd [y]<|spD K<|Ql N.length 1 b:=by
 refine Fun.okT F S hc dA (λvs H Q E⟨F,ds,d,s,r,e,_⟩=>?_) λah A af s H vs Q E hr⟨Fz,ds,d,sm,r,e,k⟩=>?_
 .unfold Ql at e;split at e;.rename_i z;rw[r.length];exact z
  .simp at e
 .refine⟨_,hb ah A af s H E hr,?_⟩;unfold Ql at e;split at e
  .rename_i z;have e':PN (b<|Jq N.length ds)=some d:=e;cases q:b<|Jq N.length ds with|none=>rw[q]at e';cases e'|some fl=>
    rw[q]at e';have bG:ZV N vs=vs.map some++List.replicate (N.length-vs.length) none:=rfl;rw[bG];refine⟨⟨Fz,H,np⟩,Fz,Jq N.length ds,fl,Oy N.length sm r,q,?_⟩;cases fl with
    |nx en=>obtain rfl:=Q5 e';exact λσ' F' H' s' rs=>k .non F' H' rs.ex.gr .non|rt d'=>obtain rfl:=Q5 e';exact λv F' H' x r=>k v F' H' x.gr r|rz c d'=>cases e'|rm d' z'=>cases e'|bk en=>cases e'|ct en=>cases e'
  .simp at e
end
section
variable{X:Cx}{O:List Nat}{x:Str}{pos p:Pos}{e:Expr}{es:List Expr}{l:ZK}{k k':Nat}{ps:List Str}
def dv(i:Nat)(hN:X.N[i]?=some x:=by rfl)(hv:Yy X.env.scope x:=by first|exact Or.inl rfl|exact Or.inr<|Or.inl rfl|exact Or.inr<|Or.inr rfl)(hd:XV x:=by decide)(hc:(x==("__classdict__":Str))=false:=by decide):PE X (.Name x pos)<|tR X O<|eV i:=VY i hN hv hd hc
def dq{i:Int}{j}:PE X (.Constant (.int i) j pos)<|tR X O<|eC<|.int i:=dr Zh
def dn(i:Nat)(hr:PA X es<|tL X O l)(hN:X.N[i]?=some x:=by rfl)(hv:Yy X.env.scope x:=by first|exact Or.inl rfl|exact Or.inr<|Or.inl rfl|exact Or.inr<|Or.inr rfl)(hO:i∉O:=by decide)(hd:XV x:=by decide)(hc:(x==("__classdict__":Str))=false:=by decide):PA X (.Name x pos::es)<|tL X O<|lC (eV i) l:=Gy (JS i hN hv hO hd hc) hr
def dc{f:List D->Option D}(c:Qb X.prog X.w X.K X.mg X.ae k x ps<|spD X.K f)(hr:Room k' X.A)(ha:PA X (e::es)<|tL X O l)(hk:k<=k':=by decide)(hg:Gl X x:=by exact rfl)(aY:XV x:=by decide)(he:Wp X e es:=by rfl)(aQ:WF X pos es:=by rfl):PE X (.Call (.Name x p) (e::es) [] pos)<|tD X O<|eK f l:=F9 c (hr.mono hk) hg ha aY he aQ
def JI{P:Program}{w:World}{K:Fg}{mg:Str->Option Value}{ae:Heap}{st:Stmt}(N ps:List Str)(b:QJ)(k:Nat)(h:Df K mg x st ps)(hb:N.Nodup->∀{f:Addr}{ah:Value}{A:Around}{af:List Env}{s:Shared}{H:Hp}{E:XK},Room k (A.deeper<|envOfC x (QN st) s.heap.objs.size f ah)->PSs (JK J9 P w K mg ae N x (QN st) f ah A af s H E).nox (Ju st) (tS (JK J9 P w K mg ae N x (QN st) f ah A af s H E).nox [] [] [] false b))(S:FnScope N ps<|QN st:=by constructor<;>first|rfl|decide+kernel):Qb P w K mg ae (k+1) x ps<|spD K<|Ql N.length ps.length b:=LY h S λ_ _ _ _ _ _ _ hr=>hb S.nd hr
end
section
variable{X:Cx}{O:List Nat}{x:Str}{pos p:Pos}{a b:Expr}{es:List Expr}{l:ZK}{k:Nat}{ea eb:Q6}
def dE(hr:Room k X.A)(ha:PE X a<|tR X O ea)(hb:PE X b<|tR X O eb):PT X (.Compare a [.Eq] [b] pos)<|tDT X O<|Q4 D.eqO ea eb:=ZF (Yr hr.units) ha hb<|JU _
def dF(hr:Room k X.A)(ha:PE X a<|tR X O ea)(hb:PE X b<|tR X O eb):PT X (.Compare a [.NotEq] [b] pos)<|tDT X O<|Q4 D.neO ea eb:=ZF (X3 hr.units) ha hb<|JU _
def dy{z:Int}{j}{q:Pos}(i:Nat)(hN:X.N[i]?=some x:=by rfl)(hv:Yy X.env.scope x:=by first|exact Or.inl rfl|exact Or.inr<|Or.inl rfl|exact Or.inr<|Or.inr rfl)(hd:XV x:=by decide)(hc:(x==("__classdict__":Str))=false:=by decide):PE X (.Subscript (.Name x p) (.Constant (.int z) j q) pos)<|tD X O<|Q4 D.ix (eV i)<|eC<|.int z:=Qp (dv i hN hv hd hc) dq
def dx{z:Int}{j}{q:Pos}(i:Nat)(hN:X.N[i]?=some x:=by rfl)(hv:Yy X.env.scope x:=by first|exact Or.inl rfl|exact Or.inr<|Or.inl rfl|exact Or.inr<|Or.inr rfl)(hd:XV x:=by decide)(hc:(x==("__classdict__":Str))=false:=by decide):PE X (.Subscript (.Name x p) (.Constant (.int z) j q) pos)<|tR X O<|Q4 D.ix (eV i)<|eC<|.int z:=dr<|dy i hN hv hd hc
end
end Wd
namespace My
section
open PySem Wd
abbrev Q2(n:Int):Q6:=eC<|.int n
abbrev Q1(n:Str):Q6:=eC<|.str n
abbrev JB(n:Bool):Q6:=eC<|.bl n
abbrev Q9(k:Nat)(n:Int):Q6:=Q4 D.ix (eV k)<|eC<|.int n
abbrev Z6(a:Q6)(n:Int):Q6:=Q4 D.ix a<|eC<|.int n
abbrev QW(a b:Q6):Q6:=Q4 D.ix a b
abbrev QF(a b:Q6):Q6:=Q4 D.eqO a b
abbrev JQ(a b:Q6):Q6:=Q4 D.neO a b
abbrev QG(a b:Q6):Q6:=Q4 D.add a b
abbrev Qa(a b:Q6):Q6:=Q4 D.mod a b
abbrev JC(a b:Q6):Q6:=Q4 D.mulA a b
abbrev DH(a b:Q6):Q6:=Q4 D.sub a b
abbrev QT(a:Q6):ZK:=lC a lN
abbrev J3(a b:Q6):ZK:=lC a<|lC b lN
abbrev Jk(a b c:Q6):ZK:=lC a<|lC b<|lC c lN
abbrev Jw(a b c d:Q6):ZK:=lC a<|lC b<|lC c<|lC d lN
noncomputable abbrev QA(n:Int):Option D:=some<|.int n
noncomputable abbrev JJ(n:List D):Option D:=some<|.lst n
noncomputable abbrev QI(n:Str):Option D:=some<|.str n
noncomputable abbrev QL(n:Bool):Option D:=some<|.bl n
def G3:QJ:=QK<|WU (QF (Q9 0 0)<|Q1 "para") (Q1 "")<|QW (eV 0)<|QD D.neg<|Q2 1
def TM:List D->Option D:=Ql 1 1 G3
def G0:QJ:=QK<|WU (QF (Q9 0 0)<|Q1 "para") (Q9 0 1)<|QS lN
def SM:List D->Option D:=Ql 1 1 G0
def Hz:QJ:=sQ (QM (QF (Q9 0 0)<|Q1 "word") (QK<|QG (QS<|QT<|QG (Q1 "word ")<|Q9 0 1)<|JX 1 [] (Zc<|Q9 0 2) (gS 0) (JB true)<|QG (Q1 "note ")<|eV 0) QU)<|sQ (QM (QF (Q9 0 0)<|Q1 "ref") (QK<|QS<|lC (QG (QG (QG (QG (QG (Q1 "ref ")<|Q9 0 1)<|Q1 " ")<|Q9 0 2)<|Q1 "|")<|Q9 0 3) lN) QU)<|QK<|QS<|QT<|QG (QG (Q9 0 0)<|Q1 " ")<|Q9 0 1
def SK:List D->Option D:=Ql 1 1 Hz
def Hs:QJ:=sQ (QO (Q9 0 0)<|gS 1)<|sQ (QO (Q9 0 1)<|gS 2)<|sQ (QO (WU (QF (eK TM<|QT<|eV 0)<|Q1 "") (Q1 "-")<|eK TM<|QT<|eV 0)<|gS 3)<|sQ (QM (QF (eV 1)<|Q1 "chapter") (QK<|UO [.inl "chapter ",.inr<|eV 3,.inl " ",.inr<|eV 2]) QU)<|sQ (QM (QF (eV 1)<|Q1 "heading") (sQ (QO (Q9 0 2)<|gS 4)<|QK<|UO [.inl "heading ",.inr<|eV 4,.inl " ",.inr<|eV 3,.inl " ",.inr<|eV 2]) QU)<|sQ (QM (QF (eV 1)<|Q1 "plates") (QK<|UO [.inl "plates ",.inr<|eV 2,.inl " ",.inr<|eV 3]) QU)<|QK<|WU (QF (eV 1)<|Q1 "table") (UO [.inl "table ",.inr<|eV 3])<|Q1 "para"
def Ml:List D->Option D:=Ql 5 1 Hs
def Hr:QJ:=sQ (QO (QS<|QT<|eK Ml<|QT<|eV 0)<|gS 1)<|sQ (QM (QF (Q9 0 0)<|Q1 "table") (Wh 1<|JX 1 [] (Zc<|Q9 0 1) (gS 0) (JB true)<|QG (Q1 "row ")<|eV 0) QU)<|sQ (Z3 (Zc<|eK SM<|QT<|eV 0) (gS 2)<|Wh 1<|eK SK<|QT<|eV 2)<|QK<|eV 1
def SJ:List D->Option D:=Ql 3 1 Hr
def GJ:QJ:=sQ (QO (QS lN)<|gS 1)<|sQ (Z3 (Zc<|eV 0) (gS 2)<|Wh 1<|eK SJ<|QT<|eV 2)<|sQ (RV 1<|Z3 (Xg<|eV 1) (Yn [gS 3,gS 4])<|QM (QH (Q4 (QX Jl) (eV 4)<|Q1 "ref ")<|Q4 D.gt (Q4 (QX YE) (eV 4)<|Q1 "|")<|Q2 1) Uq QU)<|QK<|eV 1
def Ms:List D->Option D:=Ql 5 1 GJ
def Hw:QJ:=QK<|QH (Xb D.leS D.leS (Q1 " ") (eV 0)<|Q1 "~")<|JQ (QD D.ord<|eV 0)<|Q2 37
def Pf:List D->Option D:=Ql 1 1 Hw
def Hu:QJ:=QK<|QH (JQ (eV 0)<|Q1 "")<|QD D.allL<|JX 1 [] (Zs<|eV 0) (gS 0) (JB true)<|Xb D.leS D.leS (Q1 "a") (eV 0)<|Q1 "z"
def UU:List D->Option D:=Ql 1 1 Hu
def Ht:QJ:=QK<|Jf (QF (eV 0)<|Q1 "-")<|eK UU<|QT<|eV 0
def Vx:List D->Option D:=Ql 1 1 Ht
def Hy:QJ:=QK<|QH (JQ (eV 0)<|Q1 "")<|Q4 D.notInS (Q1 " ")<|eV 0
def Pg:List D->Option D:=Ql 1 1 Hy
def Hx:QJ:=QK<|QH (JQ (eV 0)<|Q1 "")<|QF (eV 0)<|Q4 (QX XI) (eV 0)<|Q1 " "
def TL:List D->Option D:=Ql 1 1 Hx
def Hv:QJ:=QK<|Jf (QF (eV 0)<|Q1 "0")<|QH (QD (XH LB)<|eV 0)<|JQ (Q9 0 0)<|Q1 "0"
def TK:List D->Option D:=Ql 1 1 Hv
def GD:QJ:=QK<|WU (QF (eV 0)<|Q1 "-") (Q1 "")<|eV 0
def TN:List D->Option D:=Ql 1 1 GD
def GA:QJ:=sQ (QO (Q4 (QX<|XG 2) (eV 0)<|Q1 " ")<|gS 1)<|sQ (QM (QH (QF (QD D.len<|eV 1)<|Q2 3)<|QH (eK Vx<|QT<|Q9 1 1)<|eK TL<|QT<|Q9 1 2) (QK<|Qe<|Jk (Q1 "chapter") (Q9 1 2)<|eK TN<|QT<|Q9 1 1) QU)<|QK<|eC .non
def Mn:List D->Option D:=Ql 2 1 GA
def GB:QJ:=sQ (QO (Q4 (QX<|XG 3) (eV 0)<|Q1 " ")<|gS 1)<|sQ (QM (QH (QF (QD D.len<|eV 1)<|Q2 4)<|QH (eK TK<|QT<|Q9 1 1)<|QH (eK Vx<|QT<|Q9 1 2)<|eK TL<|QT<|Q9 1 3) (QK<|Qe<|Jw (Q1 "heading") (Q9 1 3) (QD D.intS<|Q9 1 1)<|eK TN<|QT<|Q9 1 2) QU)<|QK<|eC .non
def Mo:List D->Option D:=Ql 2 1 GB
def GH:QJ:=sQ (QO (Q4 (QX ZE) (eV 0)<|Q1 " ")<|gS 1)<|sQ (QM (QH (QF (QD D.len<|eV 1)<|Q2 2)<|eK Vx<|QT<|Q9 1 1) (QK<|Qe<|Jk (Q1 "table") (QS lN)<|eK TN<|QT<|Q9 1 1) QU)<|QK<|eC .non
def Mq:List D->Option D:=Ql 2 1 GH
def GF:QJ:=sQ (QO (Q4 (QX ZE) (eV 0)<|Q1 " ")<|gS 1)<|sQ (QM (QH (QF (QD D.len<|eV 1)<|Q2 3)<|QH (eK TK<|QT<|Q9 1 1)<|QH (JQ (Q9 1 1)<|Q1 "0")<|eK Vx<|QT<|Q9 1 2) (QK<|Qe<|Jk (Q1 "plates") (QD D.intS<|Q9 1 1)<|eK TN<|QT<|Q9 1 2) QU)<|QK<|eC .non
def Mp:List D->Option D:=Ql 2 1 GF
def G9:QJ:=sQ (QM (QF (eV 0)<|Q1 "para") (QK<|Qe<|J3 (Q1 "para")<|QS lN) QU)<|sQ (QM (Q4 (QX Jl) (eV 0)<|Q1 "chapter ") (QK<|eK Mn<|QT<|eV 0) QU)<|sQ (QM (Q4 (QX Jl) (eV 0)<|Q1 "heading ") (QK<|eK Mo<|QT<|eV 0) QU)<|sQ (QM (Q4 (QX Jl) (eV 0)<|Q1 "table ") (QK<|eK Mq<|QT<|eV 0) QU)<|sQ (QM (Q4 (QX Jl) (eV 0)<|Q1 "plates ") (QK<|eK Mp<|QT<|eV 0) QU)<|QK<|eC .non
def Zr:List D->Option D:=Ql 1 1 G9
def GG:QJ:=sQ (QO (Q4 (QX ZE) (eV 0)<|Q1 " ")<|gS 1)<|sQ (QM (QH (QF (QD D.len<|eV 1)<|Q2 3)<|QH (eK UU<|QT<|Q9 1 1)<|QF (Q4 (QX YE) (Q9 1 2)<|Q1 "|")<|Q2 1) (sQ (QO (Q4 (QX ZE) (Q9 1 2)<|Q1 "|")<|gS 2)<|QK<|Qe<|Jw (Q1 "ref") (Q9 1 1) (Q9 2 0)<|Q9 2 1) QU)<|QK<|eC .non
def Ph:List D->Option D:=Ql 3 1 GG
def GC:QJ:=sQ (QO (Z6 (Q4 (QX Vj) (eV 0)<|Q1 " ") 2)<|gS 1)<|sQ (QM (Q4 (QX Jl) (eV 0)<|Q1 "ref ") (QK<|eK Ph<|QT<|eV 0) QU)<|sQ (QM (QH (Q4 (QX Jl) (eV 0)<|Q1 "word ")<|eK Pg<|QT<|eV 1) (QK<|Qe<|Jk (Q1 "word") (eV 1)<|QS lN) QU)<|sQ (QM (QH (Q4 (QX Jl) (eV 0)<|Q1 "key ")<|eK Pg<|QT<|eV 1) (QK<|Qe<|J3 (Q1 "key")<|eV 1) QU)<|sQ (QM (QH (Q4 (QX Jl) (eV 0)<|Q1 "mark ")<|eK UU<|QT<|eV 1) (QK<|Qe<|J3 (Q1 "mark")<|eV 1) QU)<|QK<|eC .non
def Ym:List D->Option D:=Ql 2 1 GC
def GI:QJ:=QK<|WU (QH (Q4 D.gt (QD D.len<|eV 0)<|Q2 0)<|QF (Z6 (QW (eV 0)<|QD D.neg<|Q2 1) 0)<|Q1 "table") (Z6 (QW (eV 0)<|QD D.neg<|Q2 1) 1)<|eC .non
def Mr:List D->Option D:=Ql 1 1 GI
def G5:QJ:=QK<|Q4 D.eqN (eK Mr<|QT<|eV 0)<|QS lN
def UW:List D->Option D:=Ql 1 1 G5
def Hq:Zf:=V2 (Va<|QD D.allL<|JX 1 [] (Zs<|eV 1) (gS 0) (JB true)<|eK Pf<|QT<|eV 0) S5<|V2 (Q4 (QX Jl) (eV 1)<|Q1 "row ") (T1 Vp Uo)<|V2 (eK UW<|QT<|eV 0) S5<|V2 (Q4 (QX Jl) (eV 1)<|Q1 "note ") (T1 YD W9)<|Uz Zr Ym
def V9:Str->BM->Option (Bool×BM):=MF Hq
def G7:QJ:=WJ 1 (U0 (Xg<|eV 0) (Yn [gS 2,gS 3])<|V1 (eV 3) V9<|Ur 6<|eV 2) (eK UW<|QT<|eV 1)<|Ur 6<|QD D.len<|eV 0
def UX:List D->Option Rs:=UL 4 1 G7
def G8:QJ:=WJ 1 (U0 (Xg<|eV 0) (Yn [gS 2,gS 3])<|V1 (eV 3) V9 Uq) (eK UW<|QT<|eV 1) Uq
def Mm:List D->Option D:=Ql 4 1 G8
def HR:QJ:=sQ (QO (QG (Qn (eV 0) Qx<|Qk<|Q2 63)<|QS<|QT<|eV 1)<|gS 3)<|sQ (QO (QS lN)<|gS 4)<|sQ (Z3 (ZH<|eV 2) (gS 5)<|sQ (QO (QG (JC (JC (QG (eV 5)<|eV 1)<|QG (eV 5)<|eV 1)<|Q2 7919)<|Q2 104729)<|gS 6)<|sQ (QO (Qa (JC (QG (Qa (QW (eV 3)<|Qa (eV 5)<|QD D.len<|eV 3)<|Q2 2147483647)<|eV 6)<|Q2 48271)<|Q2 2147483647)<|gS 7)<|sP 4<|Qa (QG (JC (eV 7)<|eV 7)<|JC (Q2 69621)<|eV 5)<|Q2 2147483629)<|QK<|eV 4
def SH:List D->Option D:=Ql 8 3 HR
def P4(g:List D->Option D):QJ:=sQ (QM (V8 "str"<|eV 1) (QK<|QH (V8 "str"<|eV 0)<|QF (eV 0)<|eV 1) QU)<|sQ (QM (V8 "int"<|eV 1) (QK<|QH (V8 "int"<|eV 0)<|QH (Va<|V8 "bool"<|eV 0)<|QF (eV 0)<|eV 1) QU)<|sQ (QM (V8 "list"<|eV 1) (QM (Va<|V8 "list"<|eV 0) (QK<|JB false) QU)<|QM (Va<|V8 "tuple"<|eV 0) (QK<|JB false) QU)<|sQ (QM (JQ (QD D.len<|eV 0)<|QD D.len<|eV 1) (QK<|JB false) QU)<|sQ (Z3 (ZH<|QD D.len<|eV 1) (gS 2)<|QM (Va<|eK g<|J3 (QW (eV 0)<|eV 2)<|QW (eV 1)<|eV 2) (QK<|JB false) QU)<|QK<|JB true
def PY:List D->Option D:=PJ 3 2 P4 7
def Nx:QJ:=sQ (QO (eC<|.str "!\"#$&'()*+,-./0123456789:;<=>?@ABCDEFGHIJKLMNOPQRSTUVWXYZ[\\]^_`abcdefghijklmnopqrstuvwxyz{|}~")<|gS 2)<|sQ (QO (Q1 "")<|gS 3)<|sQ (Z3 (ZH<|eV 1) (gS 4)<|sQ (QO (Qa (QG (QG (JC (eV 0)<|Q2 48271)<|JC (Q2 11)<|eV 4)<|Q2 7)<|Q2 2147483647)<|gS 0)<|QO (QG (eV 3)<|QW (eV 2)<|Qa (eV 0)<|QD D.len<|eV 2)<|gS 3)<|QK<|eV 3
def Yl:List D->Option D:=Ql 5 2 Nx
def Hh:QJ:=sQ (QO (Q4 D.ix (QS<|Jw (Q1 "") (Q1 "") (Q1 " ")<|Q1 "  ")<|Qa (eV 0)<|Q2 4)<|gS 1)<|QK<|QG (QG (eV 1)<|eK Yl<|J3 (eV 0)<|Qa (Q4 D.fdiv (eV 0)<|Q2 4)<|Q2 7)<|QW (QS<|Jk (Q1 "") (Q1 "")<|Q1 " ")<|Qa (Q4 D.fdiv (eV 0)<|Q2 28)<|Q2 3
def Wu:List D->Option D:=Ql 2 1 Hh
def Hn:QJ:=sQ (QO (eK Yl<|J3 (eV 0)<|QG (Q2 1)<|Qa (Q4 D.fdiv (eV 0)<|Q2 3)<|Q2 7)<|gS 1)<|sQ (QM (QF (Qa (eV 0)<|Q2 3)<|Q2 0) (QO (QG (QG (eV 1)<|Q1 " ")<|eK Yl<|J3 (Q4 D.fdiv (eV 0)<|Q2 5)<|QG (Q2 1)<|Qa (Q4 D.fdiv (eV 0)<|Q2 21)<|Q2 5)<|gS 1) QU)<|QK<|eV 1
def Pd:List D->Option D:=Ql 2 1 Hn
def HX:QJ:=sQ (QO (Q1 "abcdefghijklmnopqrstuvwxyz")<|gS 2)<|sQ (QO (QD (D.joinS "")<|JX 1 [2,1] (ZH<|Qa (eV 1)<|Q2 10) (gS 0) (JB true)<|QW (eV 1)<|Qa (QG (Q4 D.fdiv (eV 2)<|Q2 150)<|JC (eV 0)<|eV 0)<|Q2 26)<|gS 3)<|sQ (QO (Qa (Q4 D.fdiv (eV 1)<|Q2 11)<|QG (QD D.len<|eV 3)<|Q2 1)<|gS 4)<|sQ (QO (QG (QW (eV 2)<|Qa (eV 0)<|Q2 26)<|QW (eV 2)<|Qa (QG (Q4 D.fdiv (eV 0)<|Q2 26)<|eV 1)<|Q2 26)<|gS 5)<|QK<|QG (QG (Qn (eV 3) Qx<|Qk<|eV 4)<|eV 5)<|Qn (eV 3) (Qk<|eV 4) Qx
def TF:List D->Option D:=Ql 6 2 HX
def HM:QJ:=sQ (QM (QF (eV 0)<|Q2 0) (QK<|Qe<|Jk (Q1 "chapter") (eK Pd<|QT<|Q9 2 3)<|eV 1) QU)<|sQ (QM (QF (eV 0)<|Q2 1) (sQ (QO (Q4 D.ix (QS<|Jw (Qa (Q9 2 2)<|Q2 4) (Qa (Q9 2 2)<|Q2 4) (Q9 2 2)<|QG (Q4 D.pow (Q2 10)<|Q2 38)<|Q9 2 3)<|Qa (Q4 D.fdiv (Q9 2 2)<|Q2 4)<|Q2 4)<|gS 3)<|QK<|Qe<|Jw (Q1 "heading") (eK Pd<|QT<|Q9 2 3) (eV 3)<|eV 1) QU)<|sQ (QM (QF (eV 0)<|Q2 2) (sQ (QO (QG (Q2 1)<|Qa (Q9 2 2)<|Q2 4)<|gS 4)<|sQ (QM (QF (Qa (Q4 D.fdiv (Q9 2 2)<|Q2 4)<|Q2 16)<|Q2 0) (QO (QG (Q2 5)<|Qa (Q4 D.fdiv (Q9 2 2)<|Q2 64)<|Q2 45)<|gS 4) QU)<|QK<|Qe<|lC (Q1 "table")<|lC (JX 1 [2] (ZH<|eV 4) (gS 0) (JB true)<|eK Wu<|QT<|QG (Q9 1 3)<|JC (JC (Q2 977)<|eV 0)<|eV 0)<|QT<|eV 1) QU)<|sQ (QO (Q2 1)<|gS 5)<|sQ (Z3 (ZH<|Qa (Q4 D.fdiv (Q9 2 2)<|Q2 4)<|Q4 D.ix (QS<|Jw (Q2 5) (Q2 5) (Q2 5)<|Q2 13)<|Qa (Q9 2 2)<|Q2 4) (gS 6)<|QO (JC (eV 5)<|Q2 10)<|gS 5)<|sQ (QM (QF (Qa (Q4 D.fdiv (Q9 2 1)<|Q2 2)<|Q2 8)<|Q2 0) (QO (QG (Q4 D.pow (Q2 10)<|Q2 38)<|Q9 2 2)<|gS 5) QU)<|QK<|Qe<|Jk (Q1 "plates") (Q4 D.max2 (Q2 1)<|DH (eV 5)<|Qa (Q9 2 3)<|Q2 12)<|eV 1
def UT:List D->Option D:=Ql 7 3 HM
def HS:QJ:=sQ (QM (QF (eV 0)<|Q2 11) (QK<|Qe<|J3 (Q1 "mark")<|eV 1) QU)<|sQ (QM (QF (eV 0)<|Q2 12) (QK<|Qe<|lC (Q1 "key")<|lC (eK Yl<|J3 (QG (Q2 3)<|Qa (Q9 2 1)<|Q2 5)<|QG (Q2 1)<|Qa (Q9 2 1)<|Q2 3) lN) QU)<|sQ (QM (Q4 D.gt (eV 0)<|Q2 8) (QK<|Qe<|lC (Q1 "ref")<|lC (Q9 2 1)<|lC (eK Yl<|J3 (Q9 2 2)<|Qa (Q4 D.fdiv (Q9 2 2)<|Q2 9)<|Q2 4)<|lC (eK Yl<|J3 (Q9 2 3)<|Qa (Q4 D.fdiv (Q9 2 3)<|Q2 9)<|Q2 4) lN) QU)<|sQ (QO (QG (Q2 1)<|Qa (Q9 2 1)<|Q2 9)<|gS 3)<|sQ (QM (QF (Qa (Q4 D.fdiv (Q9 2 1)<|Q2 9)<|Q2 32)<|Q2 0) (QO (QG (Q2 10)<|Qa (Q4 D.fdiv (Q9 2 1)<|Q2 288)<|Q2 70)<|gS 3) QU)<|sQ (QO (JX 1 [2] (ZH<|Q4 D.ix (QS<|lC (Q2 0)<|Jw (Q2 0) (Q2 0) (Q2 1)<|Q2 2)<|Qa (Q9 2 3)<|Q2 5) (gS 0) (JB true)<|eK Wu<|QT<|QG (Q9 1 3)<|JC (Q2 977)<|eV 0)<|gS 4)<|QK<|Qe<|Jk (Q1 "word") (eK Yl<|J3 (Q9 2 2)<|eV 3)<|eV 4
def SI:List D->Option D:=Ql 5 3 HS
def HQ:QJ:=sQ (QM (JQ (Q9 0 0)<|Q1 "para") (QK<|eV 0) QU)<|sQ (QO (QS lN)<|gS 3)<|sQ (Z3 (Zc<|Q9 0 1) (gS 4)<|QM (QH (QF (Q9 4 0)<|Q1 "ref")<|Q4 D.gt (QD D.len<|eV 1)<|Q2 0) (sP 3<|Qe<|Jw (Q1 "ref") (QW (eV 1)<|Qa (Q9 4 1)<|QD D.len<|eV 1) (Q9 4 2)<|Q9 4 3)<|QM (QF (Q9 4 0)<|Q1 "ref") (sP 3<|Qe<|Jk (Q1 "word") (QG (Q1 "of")<|Q9 4 2)<|QS lN)<|sP 3<|eV 4)<|sQ (QM (QH (Q4 D.gt (QD D.len<|eV 3)<|Q2 0)<|Q4 D.inO (Z6 (QW (eV 3)<|QD D.neg<|Q2 1) 0)<|Qe<|J3 (Q1 "mark")<|Q1 "key") (sP 3<|Qe<|Jk (Q1 "word") (eK Yl<|J3 (eV 2)<|QG (Q2 1)<|Qa (eV 2)<|Q2 6)<|QS lN) QU)<|QK<|Qe<|J3 (Q1 "para")<|eV 3
def SG:List D->Option D:=Ql 5 3 HQ
def HP:QJ:=sQ (QO (Qa (Z6 (eK SH<|Jk (eV 0) (Q2 1000)<|Q2 1) 0)<|Q2 64)<|gS 1)<|sQ (QO (eK SH<|Jk (eV 0) (Q2 2)<|QG (JC (Q2 4)<|eV 1)<|Q2 1)<|gS 2)<|sQ (QO (QS lN)<|gS 3)<|sQ (QO (QS lN)<|gS 4)<|sQ (Up 3 4<|Tp (ZH<|eV 1) (gS 5)<|Zn (V3<|QO (Qn (eV 2) (Qk<|JC (Q2 4)<|eV 5)<|Qk<|QG (JC (Q2 4)<|eV 5)<|Q2 4)<|gS 6)<|Zn (V3<|QO (Qa (Q9 6 0)<|Q2 13)<|gS 7)<|Zn (V3<|QO (Q1 "")<|gS 8)<|Zn (Y6 (ZZ 3 4) (Jf (QF (eV 7)<|Q2 11)<|QH (Q4 D.lt (eV 7)<|Q2 4)<|QF (Qa (Q9 6 1)<|Q2 2)<|Q2 0) (Zn (Uy (ZZ 3 4) 8<|eK TF<|J3 (QD D.len<|eV 4)<|QW (eV 2)<|JC (Q2 4)<|eV 1)<|S3<|eV 8)<|λe m=>some (e,m))<|Zn (Y6 (ZZ 3 4) (Q4 D.lt (eV 7)<|Q2 4) (P2<|eK UT<|Jk (eV 7) (eV 8)<|eV 6)<|Y6 (ZZ 3 4) (Jf (QF (eV 7)<|Q2 4)<|Jf (QF (QD D.len<|eV 3)<|Q2 0)<|JQ (Z6 (QW (eV 3)<|QD D.neg<|Q2 1) 0)<|Q1 "para") UC<|λe m=>some (e,m))<|Y6 (ZZ 3 4) (Q4 D.gt (eV 7)<|Q2 4) (Nv<|eK SI<|Jk (eV 7) (eV 8)<|eV 6)<|λe m=>some (e,m))<|QK<|JX 1 [4,2,1] (Zc<|eV 3) (gS 0) (JB true)<|eK SG<|Jk (eV 0) (eV 1)<|QW (eV 2)<|JC (Q2 4)<|eV 3
def PZ:List D->Option D:=Ql 9 1 HP
def Hm:QJ:=sQ (QM (QF (eV 0)<|Q1 "") (QK<|Q1 "-") QU)<|QK<|eV 0
def TJ:List D->Option D:=Ql 1 1 Hm
def HV:QJ:=sQ (QM (QF (Q9 0 0)<|Q1 "word") (QK<|QG (QS<|QT<|QG (Q1 "word ")<|Q9 0 1)<|JX 1 [] (Zc<|Q9 0 2) (gS 0) (JB true)<|QG (Q1 "note ")<|eV 0) QU)<|sQ (QM (QF (Q9 0 0)<|Q1 "ref") (QK<|QS<|lC (QG (QG (QG (QG (QG (Q1 "ref ")<|Q9 0 1)<|Q1 " ")<|Q9 0 2)<|Q1 "|")<|Q9 0 3) lN) QU)<|QK<|QS<|QT<|QG (QG (Q9 0 0)<|Q1 " ")<|Q9 0 1
def Pa:List D->Option D:=Ql 1 1 HV
def Hj:QJ:=sQ (QO (QS lN)<|gS 1)<|sQ (Z3 (Zc<|eV 0) (gS 2)<|sQ (QM (QF (Q9 2 0)<|Q1 "chapter") (sP 1<|QG (QG (QG (Q1 "chapter ")<|eK TJ<|QT<|Q9 2 2)<|Q1 " ")<|Q9 2 1) QU)<|sQ (QM (QF (Q9 2 0)<|Q1 "heading") (sP 1<|QD (D.joinS " ")<|QS<|Jw (Q1 "heading") (QD D.strI<|Q9 2 2) (eK TJ<|QT<|Q9 2 3)<|Q9 2 1) QU)<|sQ (QM (QF (Q9 2 0)<|Q1 "plates") (sP 1<|QG (QG (QG (Q1 "plates ")<|QD D.strI<|Q9 2 1)<|Q1 " ")<|eK TJ<|QT<|Q9 2 2) QU)<|sQ (QM (QF (Q9 2 0)<|Q1 "table") (sQ (sP 1<|QG (Q1 "table ")<|eK TJ<|QT<|Q9 2 2)<|QO (Q4 D.cat (eV 1)<|JX 1 [] (Zc<|Q9 2 1) (gS 0) (JB true)<|QG (Q1 "row ")<|eV 0)<|gS 1) QU)<|QM (QF (Q9 2 0)<|Q1 "para") (sQ (sP 1<|Q1 "para")<|Z3 (Zc<|Q9 2 1) (gS 3)<|QO (Q4 D.cat (eV 1)<|eK Pa<|QT<|eV 3)<|gS 1) QU)<|QK<|eV 1
def Pc:List D->Option D:=Ql 4 1 Hj
def HW:QJ:=sQ (QO (QS lN)<|gS 1)<|sQ (QM (QD (D.instX 6)<|eV 0) (sP 1<|QD D.blk<|eV 0) QU)<|sQ (QM (Jf (QD (D.instX 0)<|eV 0)<|Jf (QD (D.instX 1)<|eV 0)<|QD (D.instX 2)<|eV 0) (sP 1<|Q1 "style") QU)<|sQ (QM (Jf (QD (D.instX 3)<|eV 0)<|Jf (QD (D.instX 4)<|eV 0)<|QD (D.instX 5)<|eV 0) (sP 1<|Q1 "label") QU)<|sQ (QM (QH (QD D.isNN<|eV 0)<|Va<|QD D.instV<|eV 0) (sP 1<|Q1 "no value") QU)<|sQ (QM (QH (QF (QD D.len<|eV 1)<|Q2 1)<|V8 "bool"<|Q9 1 0) (sP 1<|Q1 "truth") QU)<|QK<|eV 1
def Mh:List D->Option D:=Ql 2 1 HW
def HY:QJ:=sQ (QM (QH (eV 1)<|QF (eV 0)<|Q1 "-") (QK<|Q1 "") QU)<|sQ (QM (Jf (QF (eV 0)<|Q1 "")<|JQ (JX 1 [] (Zs<|eV 0) (gS 0) (Q4 D.notInS (eV 0)<|Q1 "abcdefghijklmnopqrstuvwxyz")<|eV 0)<|QS lN) (QK<|eC .non) QU)<|QK<|eV 0
def Vv:List D->Option D:=Ql 2 2 HY
def Hc:QJ:=sQ (QM (Jf (QF (eV 0)<|Q1 "")<|JQ (JX 1 [] (Zs<|eV 0) (gS 0) (Q4 D.notInS (eV 0)<|Q1 "0123456789")<|eV 0)<|QS lN) (QK<|eC .non) QU)<|sQ (QM (Jf (QH (JQ (eV 0)<|Q1 "0")<|QF (Q9 0 0)<|Q1 "0")<|Q4 D.lt (QD D.intS<|eV 0)<|eV 1) (QK<|eC .non) QU)<|QK<|QD D.intS<|eV 0
def WV:List D->Option D:=Ql 2 2 Hc
def Ho:QJ:=sQ (QO (QD (D.joinS " ")<|eV 0)<|gS 1)<|sQ (QM (Jf (QF (eV 1)<|Q1 "")<|JQ (eV 1)<|Q4 (QX XI) (eV 1)<|Q1 " ") (QK<|eC .non) QU)<|QK<|eV 1
def Pe:List D->Option D:=Ql 2 1 Ho
def HN:QJ:=sQ (QM (QH (QF (Q9 0 0)<|Q1 "para")<|QF (QD D.len<|eV 0)<|Q2 1) (QK<|Qe<|J3 (Q1 "para")<|QS lN) QU)<|sQ (QM (QH (QF (Q9 0 0)<|Q1 "table")<|QF (QD D.len<|eV 0)<|Q2 2) (QK<|Qe<|Jk (Q1 "table") (QS lN)<|eK Vv<|J3 (Q9 0 1)<|JB true) QU)<|sQ (QM (QH (QF (Q9 0 0)<|Q1 "plates")<|QF (QD D.len<|eV 0)<|Q2 3) (QK<|Qe<|Jk (Q1 "plates") (eK WV<|J3 (Q9 0 1)<|Q2 1)<|eK Vv<|J3 (Q9 0 2)<|JB true) QU)<|sQ (QM (QH (QF (Q9 0 0)<|Q1 "chapter")<|Q4 D.gt (QD D.len<|eV 0)<|Q2 2) (QK<|Qe<|Jk (Q1 "chapter") (eK Pe<|QT<|Qn (eV 0) (Qk<|Q2 2) Qx)<|eK Vv<|J3 (Q9 0 1)<|JB true) QU)<|sQ (QM (QH (QF (Q9 0 0)<|Q1 "heading")<|Q4 D.gt (QD D.len<|eV 0)<|Q2 3) (sQ (QO (eK WV<|J3 (Q9 0 1)<|Q2 0)<|gS 1)<|QK<|Qe<|Jw (Q1 "heading") (eK Pe<|QT<|Qn (eV 0) (Qk<|Q2 3) Qx) (eV 1)<|eK Vv<|J3 (Q9 0 2)<|JB true) QU)<|QK<|Qe<|J3 (Q1 "")<|eC .non
def Zj:List D->Option D:=Ql 2 1 HN
def HU:QJ:=sQ (QM (QH (Q4 D.inO (Q9 0 0)<|Qe<|J3 (Q1 "word")<|Q1 "key")<|QH (QF (QD D.len<|eV 0)<|Q2 2)<|JQ (Q9 0 1)<|Q1 "") (QK<|QG (Qe<|J3 (Q9 0 0)<|Q9 0 1)<|Q4 D.mulT (Qe<|QT<|QS lN)<|QD D.intB<|QF (Q9 0 0)<|Q1 "word") QU)<|sQ (QM (QH (QF (Q9 0 0)<|Q1 "mark")<|QF (QD D.len<|eV 0)<|Q2 2) (QK<|Qe<|J3 (Q1 "mark")<|eK Vv<|J3 (Q9 0 1)<|JB false) QU)<|sQ (QM (QH (QF (Q9 0 0)<|Q1 "ref")<|QH (QF (QD D.len<|eV 0)<|Q2 3)<|QF (Q4 (QX YE) (Q9 0 2)<|Q1 "|")<|Q2 1) (sQ (QO (Q4 (QX ZE) (Q9 0 2)<|Q1 "|")<|gS 1)<|QK<|Qe<|Jw (Q1 "ref") (eK Vv<|J3 (Q9 0 1)<|JB false) (Q9 1 0)<|Q9 1 1) QU)<|QK<|Qe<|J3 (Q1 "")<|eC .non
def YV:List D->Option D:=Ql 2 1 HU
def HZ:Zf:=S4 (JQ (eV 0)<|QS lN) (QH (QF (Qn (eV 1) Qx<|Qk<|Q2 4)<|Q1 "row ")<|QF (Q9 2 0)<|Q1 "table") (Qn (eV 1) (Qk<|Q2 4) Qx) (QH (QF (Qn (eV 1) Qx<|Qk<|Q2 5)<|Q1 "note ")<|QH (QF (Q9 2 0)<|Q1 "para")<|QH (JQ (Q9 2 1)<|QS lN)<|QF (Z6 (QW (Q9 2 1)<|QD D.neg<|Q2 1) 0)<|Q1 "word")<|Qn (eV 1) (Qk<|Q2 5) Qx
def Wt:Str->BM->Option (Bool×BM):=MF HZ
def Hi:Zf:=Wo Wt<|V2 (QH (JQ (eV 0)<|QS lN)<|QH (QF (Z6 (QW (eV 0)<|QD D.neg<|Q2 1) 0)<|Q1 "table")<|QF (Z6 (QW (eV 0)<|QD D.neg<|Q2 1) 1)<|QS lN) S5<|UD (Q4 (QX ZE) (eV 1)<|Q1 " ") Zj (Q4 D.notInN (eC .non)<|eV 3) YV<|QH (Q4 D.notInN (eC .non)<|eV 4)<|QH (JQ (eV 0)<|QS lN)<|QF (Z6 (QW (eV 0)<|QD D.neg<|Q2 1) 0)<|Q1 "para"
def Xd:Str->BM->Option (Bool×BM):=FE Hi
def Hf:QJ:=WJ 1 (U0 (ZH<|QD D.len<|eV 0) (gS 2)<|V1 (QW (eV 0)<|eV 2) Xd<|QK<|QS<|QT<|eV 2) (QH (JQ (eV 1)<|QS lN)<|QH (QF (Z6 (QW (eV 1)<|QD D.neg<|Q2 1) 0)<|Q1 "table")<|QF (Z6 (QW (eV 1)<|QD D.neg<|Q2 1) 1)<|QS lN)<|QK<|QS<|QT<|QD D.len<|eV 0
def Pb:List D->Option D:=Ql 3 1 Hf
def HL:QJ:=sQ (Z3 (Zc<|eV 0) (gS 1)<|sQ (QO (Q4 (QX ZE) (eV 1)<|Q1 " ")<|gS 2)<|sQ (QO (QG (Q2 1)<|QD D.intB<|Q4 D.inO (Q9 2 0)<|Qe<|J3 (Q1 "heading")<|Q1 "plates")<|gS 3)<|QM (QH (Q4 D.gt (QD D.len<|eV 2)<|eV 3)<|QH (Q4 D.gt (QD D.len<|QW (eV 2)<|eV 3)<|Q2 12)<|Q4 D.notInO (Q9 2 0)<|Qe<|Jw (Q1 "word") (Q1 "key") (Q1 "row")<|Q1 "note") (QK<|JB true) QU)<|QK<|JB false
def Mg:List D->Option D:=Ql 4 1 HL
def He:QJ:=sQ (QO (QS<|lC (Q1 "")<|lC (Q1 " ")<|lC (Q1 "para")<|lC (Q1 "para ")<|lC (Q1 "row")<|lC (Q1 "row ")<|lC (Q1 "row  x")<|lC (Q1 "rows x")<|Jw (Q1 "note") (Q1 "note ") (Q1 "note x")<|Q1 "word")<|gS 1)<|sQ (QO (QG (eV 1)<|QS<|lC (Q1 "word ")<|lC (Q1 "word a b")<|lC (Q1 "word a ")<|lC (Q1 "key ")<|lC (Q1 "key a b")<|Jw (Q1 "key k") (Q1 "mark -") (Q1 "mark A")<|Q1 "mark a b")<|gS 1)<|sQ (QO (QG (eV 1)<|QS<|lC (Q1 "mark ")<|lC (Q1 "mark m")<|lC (Q1 "ref a |")<|lC (Q1 "ref - |")<|Jw (Q1 "ref a b") (Q1 "ref a b|c|d") (Q1 "ref a  |")<|Q1 "ref a | ")<|gS 1)<|sQ (QO (QG (eV 1)<|QS<|lC (Q1 "ref a |b c")<|lC (Q1 "ref |")<|lC (Q1 "ref A |")<|lC (Q1 "table")<|Jw (Q1 "table ") (Q1 "table a b") (Q1 "table -")<|Q1 "table a")<|gS 1)<|sQ (QO (QG (eV 1)<|QS<|lC (Q1 "table A")<|lC (Q1 "plates 0 -")<|lC (Q1 "plates 01 a")<|Jw (Q1 "plates 1") (Q1 "plates 1 ") (Q1 "plates -1 a")<|Q1 "plates +1 a")<|gS 1)<|sQ (QO (QG (eV 1)<|QS<|lC (Q1 "plates 1_0 a")<|lC (Q1 "plates 9 -")<|Jw (Q1 "plates 1 a b") (Q1 "chapter -") (Q1 "chapter - ")<|Q1 "chapter -  x")<|gS 1)<|sQ (QO (QG (eV 1)<|QS<|lC (Q1 "chapter a x ")<|lC (Q1 "chapter  x")<|Jw (Q1 "chapter - x y") (Q1 "Chapter - x") (Q1 "heading 0 - t")<|Q1 "heading 00 - t")<|gS 1)<|sQ (QO (QG (eV 1)<|QS<|lC (Q1 "heading - - t")<|lC (Q1 "heading 0 t")<|Jw (Q1 "heading 0 - ") (Q1 "heading 1 a  t") (Q1 "heading +1 - t")<|Q1 "heading -1 a t")<|gS 1)<|sQ (QO (QG (eV 1)<|QS<|lC (Q1 "heading 1_0 - t")<|lC (Q1 "heading 01 - t")<|Jw (Q1 "heading  - t") (Q1 "mark row") (Q1 "ref note para|word")<|Q1 "key ref")<|gS 1)<|QK<|QW (eV 1)<|Qa (eV 0)<|QD D.len<|eV 1
def TH:List D->Option D:=Ql 2 1 He
def Hk:QJ:=sQ (QO (eC<|.str " -|09azAZ_+.!~\"#$&'()*,/12345678:;<=>?@BCDEFGHIJKLMNOPQRSTUVWXY[\\]^`bcdefghijklmnopqrstuvwxy{}")<|gS 2)<|sQ (QO (QW (eV 2)<|Qa (Q4 D.fdiv (Q9 1 3)<|Q2 3)<|QW (QS<|J3 (Q2 8)<|QD D.len<|eV 2)<|Q4 D.fdiv (Qa (Q9 1 3)<|Q2 3)<|Q2 2)<|gS 3)<|sQ (QO (Qa (Q4 D.fdiv (Q9 1 2)<|Q2 3)<|QG (QD D.len<|eV 0)<|Q2 1)<|gS 4)<|sQ (QM (QF (Qa (Q9 1 2)<|Q2 3)<|Q2 0) (QO (Qa (Q4 D.fdiv (Q9 1 2)<|Q2 3)<|Q4 D.min2 (QG (QD D.len<|eV 0)<|Q2 1)<|Q2 12)<|gS 4) QU)<|sQ (QM (QF (Qa (Q9 1 4)<|Q2 3)<|Q2 0) (QK<|QG (QG (Qn (eV 0) Qx<|Qk<|eV 4)<|eV 3)<|Qn (eV 0) (Qk<|eV 4) Qx) QU)<|sQ (QM (QF (Qa (Q9 1 4)<|Q2 3)<|Q2 1) (QK<|QG (QG (Qn (eV 0) Qx<|Qk<|eV 4)<|eV 3)<|Qn (eV 0) (Qk<|QG (eV 4)<|Q2 1) Qx) QU)<|QK<|QG (Qn (eV 0) Qx<|Qk<|eV 4)<|Qn (eV 0) (Qk<|QG (eV 4)<|Q2 1) Qx
def Mj:List D->Option D:=Ql 5 2 Hk
def Hl:QJ:=sQ (QO (Qa (Q9 1 0)<|Q2 9)<|gS 2)<|sQ (QO (Qa (Q9 1 1)<|QD D.len<|eV 0)<|gS 3)<|sQ (QO (Qa (Q9 1 2)<|QD D.len<|eV 0)<|gS 4)<|sQ (QM (QF (eV 2)<|Q2 1) (QK<|QG (Qn (eV 0) Qx<|Qk<|eV 3)<|Qn (eV 0) (Qk<|QG (eV 3)<|Q2 1) Qx) QU)<|sQ (QM (QF (eV 2)<|Q2 2) (QK<|QG (QG (Qn (eV 0) Qx<|Qk<|eV 3)<|QS<|QT<|QW (eV 0)<|eV 3)<|Qn (eV 0) (Qk<|eV 3) Qx) QU)<|sQ (QM (QF (eV 2)<|Q2 3) (QK<|QG (QG (Qn (eV 0) Qx<|Qk<|eV 3)<|QS<|QT<|eK TH<|QT<|Q9 1 3)<|Qn (eV 0) (Qk<|QG (eV 3)<|Q2 1) Qx) QU)<|sQ (QM (QF (eV 2)<|Q2 4) (QK<|QG (QG (Qn (eV 0) Qx<|Qk<|eV 3)<|QS<|QT<|QW (eV 0)<|eV 4)<|Qn (eV 0) (Qk<|QG (eV 3)<|Q2 1) Qx) QU)<|sQ (QM (QF (eV 2)<|Q2 5) (QK<|JX 1 [0,4,3] (ZH<|QD D.len<|eV 0) (gS 0) (JB true)<|QW (eV 1)<|QW (QS<|Jk (eV 0) (eV 2)<|eV 3)<|QG (QD D.intB<|QF (eV 0)<|eV 3)<|JC (Q2 2)<|QD D.intB<|QH (QF (eV 0)<|eV 2)<|JQ (eV 3)<|eV 2) QU)<|sQ (QM (QF (eV 2)<|Q2 6) (QK<|QG (QG (Qn (eV 0) Qx<|Qk<|eV 3)<|QS<|QT<|eK Mj<|J3 (QW (eV 0)<|eV 3)<|eV 1)<|Qn (eV 0) (Qk<|QG (eV 3)<|Q2 1) Qx) QU)<|sQ (QM (QF (eV 2)<|Q2 7) (QK<|Qn (eV 0) Qx<|Qk<|eV 3) QU)<|sQ (QM (QF (eV 2)<|Q2 8) (QK<|QG (QG (Qn (eV 0) Qx<|Qk<|eV 3)<|QS<|QT<|eK TH<|QT<|Q9 1 3)<|Qn (eV 0) (Qk<|eV 3) Qx) QU)<|QK<|eV 0
def Mk:List D->Option D:=Ql 5 2 Hl
def Hg:QJ:=sQ (QO (eC .non)<|gS 1)<|sQ (Oz 1 2<|RU UX<|QT<|eV 0)<|QK<|eK Mh<|QT<|eV 1
def Mi:List D->Option D:=Ql 3 1 Hg
def G6:QJ:=sQ (QO (JX 1 [] (Zc<|eK Pc<|QT<|eK PZ<|QT<|eV 0) (gS 0) (JB true)<|QD (D.repl "|" "!")<|eV 0)<|gS 1)<|sQ (Z3 (ZH<|QD D.len<|eV 1) (gS 2)<|QM (Q4 (QX Jl) (QW (eV 1)<|eV 2)<|Q1 "ref ") (Tq 1 (eV 2)<|QG (QG (Qn (QW (eV 1)<|eV 2) Qx<|Qk<|QD D.neg<|Q2 1)<|Q1 "|")<|QW (QW (eV 1)<|eV 2)<|QD D.neg<|Q2 1) QU)<|sQ (QO (eK SH<|Jk (eV 0) (Q2 700)<|Q2 5)<|gS 3)<|sQ (QM (QF (eV 1)<|QS lN) (QO (QS<|QT<|eK TH<|QT<|Q9 3 3)<|gS 1) QU)<|sQ (QO (eK Mk<|J3 (eV 1)<|eV 3)<|gS 1)<|sQ (QM (eK Mg<|QT<|eV 1) (QK<|JB true) QU)<|sQ (QO (eK Pb<|QT<|eV 1)<|gS 4)<|sQ (QO (QD D.listOf<|eV 1)<|gS 5)<|sQ (QM (QH (JQ (eV 4)<|QS lN)<|V8 "int"<|Q9 4 0) (QK<|QH (QF (eK Mi<|QT<|eV 5)<|eV 4)<|QF (eV 5)<|eV 1) QU)<|sQ (QO (eK Mm<|QT<|eV 5)<|gS 6)<|QK<|QH (eK PY<|J3 (eV 6)<|eV 4)<|QH (eK PY<|J3 (eK Ms<|QT<|eV 6)<|eV 1)<|QF (eV 5)<|eV 1
def SN:List D->Option D:=Ql 7 1 G6
theorem toNat_inj:∀{a b:List Char},a.map Char.toNat=b.map Char.toNat->a=b|[],[],_=>rfl|[],_::_,h=>nomatch h|_::_,[],h=>nomatch h|a::x,b::y,h=>by rw[YK,YK]at h;obtain⟨h1,h2⟩:=List.cons.inj h;rw[toNat_inj h2,Char.toNat_inj.mp h1]
@[simp]theorem tg(a b:String):(Str.ofString a=Str.ofString b)=(a=b):=propext ⟨λh=>by rw[Str.ofString_eq_byList]at h;unfold Str.ofStringByList at h;have h2:(a.toList.map Char.toNat).toArray=(b.toList.map Char.toNat).toArray:=Str.mk.inj h;exact String.toList_inj.mp<|toNat_inj<|congrArg Array.toList h2,λh=>h▸rfl⟩
theorem Gi{α:Type}{g:JW}{c el:Q6}(d:α->D)(R:Q8->Prop)(p:α->Bool)(o:α->D):∀(xs:List α),(∀a∈xs,∀e,R e->∃e',g (d a) e=some e'/\R e'/\c e'=QL (p a)/\(p a=true->el e'=some (o a)))->∀e,R e->Y8 g c el (xs.map d) e=some ((xs.filter p).map o)|[],_,e,h=>rfl|a::xs,hb,e,h=>by obtain⟨e1,h1,r1,h2,h3⟩:=hb a JY e h;have ih:=Gi d R p o xs (λx hx=>hb x<|Qy _ hx) _ r1;show(g (d a) e).bind (λe1=>Zt (c e1) ((el e1).bind λx=>(Y8 g c el (xs.map d) e1).map λr=>x::r)<|Y8 g c el (xs.map d) e1)=_;rw[h1];show Zt (c e1) _ _=_;rw[h2,QbZ,ih];cases q:p a with|false=>rw[if_neg<|by decide,List.filter_cons_of_neg<|by simp[q]]|true=>rw[if_pos rfl,h3 q,List.filter_cons_of_pos q];rfl
theorem EI{α:Type}{g:JW}{b:QJ}(d:α->D):∀(xs:List α)(R:Nat->Q8->Prop),(∀i(hi:i<xs.length)e,R i e->∃e',((g (d xs[i]) e).bind b=some (.nx e')\/(g (d xs[i]) e).bind b=some (.ct e'))/\R (i+1) e')->∀e,R 0 e->∃e',Zz g b (xs.map d) e=some (.nx e')/\R xs.length e'
 |[],R,_,e,h=>⟨e,rfl,h⟩|a::xs,R,hb,e,h=>by
  obtain⟨e1,h1,r1⟩:=hb 0 (by simp) e h;obtain⟨e2,h2,r2⟩:=EI d xs (λi=>R<|i+1) (λi hi x hx=>hb (i+1) (by simpa using hi) x hx) _ r1;refine⟨e2,?_,r2⟩;show YN ((g (d a) e).bind b) (Zz g b<|xs.map d)=_;have nS:(g (d a) e).bind b=some (.nx e1)\/(g (d a) e).bind b=some (.ct e1):=h1;rcases nS with h1|h1;.rw[h1];exact h2
  .rw[h1];exact h2
def Sk{g:JW}{b:QJ}(n:Nat)(R:Nat->Q8->Prop)(h:∀i,i<n->∀e,R i e->∃e',((g (.int<|0+(i:Int)) e).bind b=some (.nx e')\/(g (.int<|0+(i:Int)) e).bind b=some (.ct e'))/\R (i+1) e'):∀e,R 0 e->∃e',Zz g b (rD 0 n) e=some (.nx e')/\R n e':=by
 intro e h0;have:=EI (g:=g) (b:=b) (λi:Nat=>D.int<|0+(i:Int)) (List.range n) R (λi hi e r=>by
  have q:(List.range n)[i]=i:=by simp
  rw[q];exact h i (by simpa using hi) e r) e h0;simpa[rD]using this
def st{a k:QJ}{e e1:Q8}{r:Option Fl}(h:a e=some (.nx e1))(hk:k e1=r):sQ a k e=r:=by unfold sQ;rw[h];exact hk
def Qt{a k:QJ}{e:Q8}{d:D}(h:a e=some (.rt d)):sQ a k e=some (.rt d):=by unfold sQ;rw[h];rfl
def QR{n k:Nat}{b:QJ}{ds:List D}{r:D}(hl:ds.length=k)(h:b (Jq n ds)=some (.rt r)):Ql n k b ds=some r:=by unfold Ql;rw[if_pos hl,h];rfl
def QgG{it:Za}{g:JW}{b k:QJ}{e:Q8}{r:Option Fl}(n:Nat)(R:Nat->Q8->Prop)(hit:it e=some (rD 0 n))(h0:R 0 e)(hb:∀i,i<n->∀e,R i e->∃e',((g (.int<|0+(i:Int)) e).bind b=some (.nx e')\/(g (.int<|0+(i:Int)) e).bind b=some (.ct e'))/\R (i+1) e')(hk:∀e',R n e'->k e'=r):sQ (Z3 it g b) k e=r:=by obtain⟨e',h1,h2⟩:=Sk n R hb e h0;refine st (e1:=e') ?_<|hk e' h2;unfold Z3;rw[hit];exact h1
def YQ{g:JW}{b:QJ}{d:D}{e e1:Q8}{r:Option Fl}(h:g d e=some e1)(hk:b e1=r):(g d e).bind b=r:=by rw[h];exact hk
def ret{a:Q6}{e:Q8}{d:D}(h:a e=some d):QK a e=some (.rt d):=by unfold QK;rw[h];rfl
def TC{β:Type}{dd:β->D}{P:β->Prop}{n k:Nat}{b:QJ}{ds:List D}(hl:ds.length=k)(h:∃x,b (Jq n ds)=some (.rt<|dd x)/\P x):∃x,Ql n k b ds=some (dd x)/\P x:=by obtain⟨x,h1,h2⟩:=h;exact⟨x,QR hl h1,h2⟩
def Ji{β:Type}{dd:β->D}{P:β->Prop}{a k:QJ}{e e1:Q8}(h:a e=some (.nx e1))(hk:∃x,k e1=some (.rt<|dd x)/\P x):∃x,sQ a k e=some (.rt<|dd x)/\P x:=by obtain⟨x,h1,h2⟩:=hk;exact⟨x,st h h1,h2⟩
def UH{α:Type}{n:Nat}{ao:List Nat}{it:Za}{g:JW}{c el:Q6}{e:Q8}(d:α->D)(xs:List α)(R:Q8->Prop)(p:α->Bool)(o:α->D)(hit:it e=some (xs.map d))(hl:xs.length<=Qz)(h0:R<|WR n ao e)(hb:∀a∈xs,∀e,R e->∃e',g (d a) e=some e'/\R e'/\c e'=QL (p a)/\(p a=true->el e'=some (o a))):JX n ao it g c el e=JJ ((xs.filter p).map o):=by unfold JX;rw[hit];show(if(xs.map d).length<=Qz then(Y8 g c el (xs.map d)<|WR n ao e).map D.lst else none)=_;rw[if_pos<|by rw[Qr];exact hl,Gi d R p o xs hb _ h0];rfl
def UY{α:Type}(xs:List α):xs.filter (λ_=>true)=xs:=by simp
def X4{a b:Q6}{e:Q8}{r:Option D}(ha:a e=QL false)(hb:b e=r):Jf a b e=r:=by unfold Jf;rw[ha];exact hb
def Sw{a b:Q6}{e:Q8}(ha:a e=QL true):Jf a b e=QL true:=by unfold Jf;rw[ha];rfl
def JE{a b:Q6}{e:Q8}{r:Option D}(ha:a e=QL true)(hb:b e=r):QH a b e=r:=by unfold QH;rw[ha];exact hb
def JT{a b:Q6}{e:Q8}(ha:a e=QL false):QH a b e=QL false:=by unfold QH;rw[ha];rfl
def Q0{g:D->D->Option D}{a b:Q6}{e:Q8}{x y:D}{r:Option D}(ha:a e=some x)(hb:b e=some y)(h:g x y=r):Q4 g a b e=r:=by unfold Q4;rw[ha,hb];exact h
def Qf{g:D->Option D}{a:Q6}{e:Q8}{x:D}{r:Option D}(ha:a e=some x)(h:g x=r):QD g a e=r:=by unfold QD;rw[ha];exact h
def Su{a:Q6}{e:Q8}{b:Bool}(ha:a e=QL b):Va a e=QL (!b):=by unfold Va;rw[ha];rfl
def YW{t:String}{a:Q6}{e:Q8}{x:D}{r:Option D}(ha:a e=some x)(h:D.inst t x=r):V8 t a e=r:=by unfold V8;rw[ha];exact h
def Qs{f:List D->Option D}{a:Q6}{e:Q8}{x:D}{r:Option D}(ha:a e=some x)(h:f [x]=r):eK f (lC a lN) e=r:=by unfold eK lC lN;rw[ha];exact h
def Zb{f:List D->Option D}{a b:Q6}{e:Q8}{x y:D}{r:Option D}(ha:a e=some x)(hb:b e=some y)(h:f [x,y]=r):eK f (lC a<|lC b lN) e=r:=by unfold eK lC lN;rw[ha,hb];exact h
def T3{f:List D->Option D}{a b c:Q6}{e:Q8}{x y z:D}{r:Option D}(ha:a e=some x)(hb:b e=some y)(hc:c e=some z)(h:f [x,y,z]=r):eK f (lC a<|lC b<|lC c lN) e=r:=by unfold eK lC lN;rw[ha,hb,hc];exact h
def Yz{i:Nat}{a:Q6}{e:Q8}{x d z:D}(hx:eV i e=some x)(ha:a e=some d)(h:D.app x d=some z):sP i a e=some (.nx<|e.set i<|some z):=by unfold sP;rw[hx,ha];show(D.app x d).map _=_;rw[h];rfl
def Mf{i:Nat}{a:Q6}{e:Q8}{x d z:D}(hx:eV i e=some x)(ha:a e=some d)(h:D.ext x d=some z):Wh i a e=some (.nx<|e.set i<|some z):=by unfold Wh;rw[hx,ha];show(D.ext x d).map _=_;rw[h];rfl
def QP{a:Q6}{g:JW}{e e1:Q8}{d:D}(h:a e=some d)(hg:g d e=some e1):QO a g e=some (.nx e1):=by unfold QO;rw[h];show(g d e).map _=_;rw[hg];rfl
def Qc{c:Q6}{a b:QJ}{e:Q8}{r:Option Fl}(h:c e=QL true)(ha:a e=r):QM c a b e=r:=by unfold QM;rw[h];exact ha
def QE{c:Q6}{a b:QJ}{e:Q8}{r:Option Fl}(h:c e=QL false)(ha:b e=r):QM c a b e=r:=by unfold QM;rw[h];exact ha
def UP(x y:Str):D.eqO (.str x) (.str y)=QL (decide<|x=y):=by simp[D.eqO,UM,Xc,D.cmp]
def VN{a b c:Q6}{e:Q8}{x y z:D}(ha:a e=some x)(hb:b e=some y)(hc:c e=some z):Qe (lC a<|lC b<|lC c lN) e=some (.tup [x,y,z]):=by unfold Qe lC lN;rw[ha,hb,hc];rfl
def YM{a b:Q6}{e:Q8}{x y:D}(ha:a e=some x)(hb:b e=some y):Qe (lC a<|lC b lN) e=some (.tup [x,y]):=by unfold Qe lC lN;rw[ha,hb];rfl
def U8{a b c d:Q6}{e:Q8}{x y z u:D}(ha:a e=some x)(hb:b e=some y)(hc:c e=some z)(hd:d e=some u):Qe (lC a<|lC b<|lC c<|lC d lN) e=some (.tup [x,y,z,u]):=by unfold Qe lC lN;rw[ha,hb,hc,hd];rfl
def JR{x y:Int}(h:x≠y):D.eqO (.int x) (.int y)=QL false:=by simp[D.eqO,Xa,UQ,D.cmp,h]
def ZM{x y:Int}(h:x=y):D.eqO (.int x) (.int y)=QL true:=by simp[D.eqO,Xa,UQ,D.cmp,h]
def LM{x y:Int}(h:¬x<y):D.lt (.int x) (.int y)=QL false:=by show some (D.bl<|decide<|x<y)=_;rw[J0 h]
def O4{x y:Int}(h:x<y):D.lt (.int x) (.int y)=QL true:=by show some (D.bl<|decide<|x<y)=_;rw[J2 h]
def Yh{a:Q6}{lo hi:Ut}{e:Q8}{x:D}{l h:Option Int}{r:Option D}(ha:a e=some x)(hl:lo e=some l)(hh:hi e=some h)(hc:XY x l h=r):Qn a lo hi e=r:=by unfold Qn;rw[ha,hl,hh];exact hc
def WQ{a:Q6}{e:Q8}{i:Int}(ha:a e=QA i):Qk a e=some (some i):=by unfold Qk;rw[ha];rfl
noncomputable abbrev cs(x:Str):List Nat:=x.cps.toList
def sx{x y:Str}(h:cs x=cs y):x=y:=Str.ext'<|by rw[<-toArray_toList (xs:=x.cps),<-toArray_toList (xs:=y.cps)];exact congrArg List.toArray h
def Z8(x y:Str):cs (x++y)=cs x++cs y:=by unfold cs;rw[Str.cps_append,Array.toList_append]
def Jz(x:Str):x.length=(cs x).length:=(Ow).symm
noncomputable def ZS(c:Nat):Nat->Nat->List Nat->List Nat|_,_,[]=>[]|n,i,a::l=>if a=c/\n≠0 then i::ZS c (n-1) (i+1) l else ZS c n (i+1) l
noncomputable def JV(c:Nat):Nat->List Nat->List (List Nat)|_,[]=>[[]]|n,a::l=>if a=c/\n≠0 then[]::JV c (n-1) l else(JV c n l).modifyHead (a::·)
open Builtin.Str in def Qdw(x:Str)(c lim:Nat):∀(l:List Nat)(i:Nat)(s:Array Nat×Nat),(cs x).drop i=l->i+l.length=x.length->s.2<=i->s.1.size<=lim->(forIn (List.range' i<|x.length+1-i) s<|StrLaws.occBody x ⟨#[c]⟩ x.length lim).run.fst.toList=s.1.toList++ZS c (lim-s.1.size) i l:=by intro l;induction l with
 |nil=>
  intro i s hd hl h1 h2;have hi:i=x.length:=by simpa using hl
  subst hi;rw[show x.length+1-x.length=1 by omega];have dP:¬(((s.fst.size<lim/\s.snd<=x.length)/\x.length+(⟨#[c]⟩:Str).length<=x.length)/\subAt x ⟨#[c]⟩ x.length=true):=by
   rintro⟨⟨_,h⟩,_⟩;have:(⟨#[c]⟩:Str).length=1:=rfl;omega
  have e:StrLaws.occBody x ⟨#[c]⟩ x.length lim x.length s=pure (ForInStep.yield (s.1,s.2)):=by unfold StrLaws.occBody;rw[if_neg dP]
  rw[range'_succ,forIn_cons,e];simp[ZS]|cons a l ih=>
  intro i s hd hl h1 h2;have d7:i<x.length:=by simp at hl;omega
  rw[show x.length+1-i=x.length+1-(i+1)+1 by omega,range'_succ,forIn_cons];have cY:(cs x).drop (i+1)=l:=by rw[<-drop_drop,hd];rfl
  have ha:(cs x)[i]?=some a:=by
   have:=congrArg (λt=>t[0]?) hd;simpa using this
  have hq:=StrLaws.subAt_one x c i;have hh:(cs x)[i]?=some c↔a=c:=by rw[ha];simp
  by_cases hc:a=c/\lim-s.1.size≠0
  .have jR:((s.fst.size<lim/\s.snd<=i)/\i+(⟨#[c]⟩:Str).length<=x.length)/\subAt x ⟨#[c]⟩ i=true:=by have:=hq.mpr<|hh.mpr hc.1;exact⟨⟨⟨by omega,h1⟩,this.1⟩,this.2⟩
   have e:StrLaws.occBody x ⟨#[c]⟩ x.length lim i s=pure (ForInStep.yield (s.1.push i,i+1)):=by unfold StrLaws.occBody;rw[if_pos jR];rfl
   rw[e];have:=ih (i+1) (s.1.push i,i+1) cY (by simp at hl;omega) (Qm _) (by simp;omega);show(forIn (List.range' (i+1)<|x.length+1-(i+1)) (s.1.push i,i+1)<|StrLaws.occBody x ⟨#[c]⟩ x.length lim).run.fst.toList=_;rw[this];show(s.1.push i).toList++ZS c (lim-(s.1.push i).size) (i+1) l=s.1.toList++ZS c (lim-s.1.size) i (a::l);rw[show ZS c (lim-s.1.size) i (a::l)=i::ZS c (lim-s.1.size-1) (i+1) l by rw[ZS,if_pos hc]];simp[Nat.sub_sub]
  .have dP:¬(((s.fst.size<lim/\s.snd<=i)/\i+(⟨#[c]⟩:Str).length<=x.length)/\subAt x ⟨#[c]⟩ i=true):=by
    rintro⟨⟨⟨h3,_⟩,h4⟩,h5⟩;exact hc ⟨hh.mp<|hq.mp ⟨h4,h5⟩,by omega⟩
   have e:StrLaws.occBody x ⟨#[c]⟩ x.length lim i s=pure (ForInStep.yield (s.1,s.2)):=by unfold StrLaws.occBody;rw[if_neg dP]
   rw[e];have:=ih (i+1) s cY (by simp at hl;omega) (by omega) h2;show(forIn (List.range' (i+1)<|x.length+1-(i+1)) s<|StrLaws.occBody x ⟨#[c]⟩ x.length lim).run.fst.toList=_;rw[this,show ZS c (lim-s.1.size) i (a::l)=ZS c (lim-s.1.size) (i+1) l by rw[ZS,if_neg hc]]
open Builtin.Str in def OB(x:Str)(c lim:Nat):occurrences x ⟨#[c]⟩ 0 x.length lim=ZS c lim 0 (cs x):=by rw[StrLaws.occ_eq,show x.length+1-0=x.length+1 by omega];have:=Qdw x c lim (cs x) 0 (#[],0) rfl (by rw[zero_add,<-Jz]) (Qm _) (by simp);simpa using this
open Builtin.Str
def SA(x:Str)(i j:Nat):cs (strSub x i j)=((cs x).drop i).take (j-i):=StrLaws.strSub_toList x i j
theorem KZ(c n:Nat)(l:List Nat):JV c n l≠[]:=by cases l with|nil=>simp[JV]|cons a l=>
  rw[JV];split;.simp
  .have:=KZ c n l;cases h:JV c n l with|nil=>exact absurd h this|cons p ps=>simp
def ES(l:List<|List Nat):l.modifyHead ([]++·)=l:=by cases l<;>simp
def Qe7(x:Str)(c:Nat):∀(l:List Nat)(n i a:Nat),(cs x).drop i=l->i+l.length=x.length->a<=i->(StrLaws.partsFrom x 1 a<|ZS c n i l).map cs=(JV c n l).modifyHead (((cs x).drop a).take (i-a)++·):=by
 intro l;induction l with
 |nil=>
  intro n i a hd hl ha;have hi:i=x.length:=by simpa using hl
  simp[ZS,StrLaws.partsFrom,JV,SA,hi]|cons b l ih=>
  intro n i a hd hl ha;have cY:(cs x).drop (i+1)=l:=by rw[<-drop_drop,hd];rfl
  have ee:i+1+l.length=x.length:=by simp at hl;omega
  rw[ZS,JV];by_cases hc:b=c/\n≠0;.rw[if_pos hc,if_pos hc,StrLaws.partsFrom,YK,ih (n-1) (i+1) (i+1) cY ee<|Qm _];simp only[sub_self,List.take_zero,ES,List.modifyHead_cons,Yv,SA]
  .rw[if_neg hc,if_neg hc,ih n (i+1) a cY ee<|by omega];have hb:(cs x)[i]?=some b:=by have:=congrArg (λt=>t[0]?) hd;simpa using this
   have e:((cs x).drop a).take (i+1-a)=((cs x).drop a).take (i-a)++[b]:=by
    rw[show i+1-a=i-a+1 by omega,List.take_succ];congr 1;rw[List.getElem?_drop,show a+(i-a)=i by omega,hb];rfl
   cases h:JV c n l with
   |nil=>exact absurd h<|KZ c n l|cons p ps=>simp[e]
def D3(x:Str)(c n:Nat):(partsBetween x (ZS c n 0<|cs x) 1).map cs=JV c n (cs x):=by rw[StrLaws.partsBetween_eq,Qe7 x c (cs x) n 0 0 rfl (by rw[zero_add,<-Jz])<|Qm _];simp only[sub_self,List.take_zero,ES]
def QcK(x:Str){c:Nat}(hc:c<256):¬Builtin.Str.strKind x<Builtin.Str.strKind ⟨#[c]⟩:=by
 have h1:Builtin.Str.strKind ⟨#[c]⟩=1:=by unfold Builtin.Str.strKind;rw[if_pos<|by simp[hc]]
 have h2:1<=Builtin.Str.strKind x:=by unfold Builtin.Str.strKind;split<;>(try split)<;>omega
 omega
theorem LN{f:Str->List Nat}(hf:∀a b,f a=f b->a=b):∀{xs ys:List Str},xs.map f=ys.map f->xs=ys|[],[],_=>rfl|[],_::_,h=>nomatch h|_::_,[],h=>nomatch h|a::xs,b::ys,h=>by rw[YK,YK]at h;obtain⟨h1,h2⟩:=List.cons.inj h;rw[hf a b h1,LN hf h2]
def Cm(x:Str)(c n:Nat)(hc:c<256):(if(decide (x.length<(⟨#[c]⟩:Str).length)||decide (Builtin.Str.strKind x<Builtin.Str.strKind ⟨#[c]⟩))=true then[x]else if(ZS c n 0<|cs x).isEmpty=true then[x]else partsBetween x (ZS c n 0<|cs x) 1).map cs=JV c n (cs x):=by
 by_cases h0:x.length<1
 .rw[if_pos<|by rw[or_eq_true];exact .inl<|J2 h0];have:cs x=[]:=List.length_eq_zero_iff.mp (by rw[<-Jz];omega);simp[this,JV]
 .rw[if_neg<|by rw[or_eq_true];rintro(h|h);exact h0<|of_decide_eq_true h;exact QcK x hc<|of_decide_eq_true h];split
  .rename_i he;have:=D3 x c n;rw[List.isEmpty_iff.mp he]at this;rw[<-this,StrLaws.partsBetween_eq];simp only[StrLaws.partsFrom,YK,map_nil,SA,We,sub_zero];rw[Jz,take_length]
  .exact D3 x c n
def Cj{x:Str}{c:Nat}{L:List Str}(hc:c<256)(h:JV c (x.length+1) (cs x)=L.map cs):Txt.split x ⟨#[c]⟩=L:=by refine LN (λa b e=>sx e) (f:=cs) ?_;rw[<-h,<-Cm x c _ hc];unfold Txt.split;rw[OB];rfl
def Qgz{x:Str}{c k:Nat}{L:List Str}(hc:c<256)(h:JV c k (cs x)=L.map cs):Txt.splitMax x ⟨#[c]⟩ k=L:=by refine LN (λa b e=>sx e) (f:=cs) ?_;rw[<-h,<-Cm x c _ hc];unfold Txt.splitMax;rw[show limitOf x (k:Int)=k by unfold limitOf;rw[if_neg<|by omega];rfl,OB];rfl
theorem Ck(c:Nat):∀l,JV c 0 l=[l]|[]=>rfl|a::l=>by rw[JV,if_neg<|by simp,Ck c l];rfl
theorem NC{c:Nat}:∀{l:List Nat}(n:Nat),c∉l->JV c n l=[l]|[],_,_=>rfl|a::l,n,h=>by rw[JV,if_neg λz=>h<|by simp[z.1],NC n λz=>h<|Qy _ z];rfl
theorem NA{c:Nat}:∀{w:List Nat}(n:Nat)(r:List Nat),c∉w->JV c (n+1) (w++c::r)=w::JV c n r|[],n,r,_=>by rw[nil_append,JV,if_pos ⟨rfl,by omega⟩];rfl|a::w,n,r,h=>by rw[List.cons_append,JV,if_neg λz=>h<|by simp[z.1],NA n r λz=>h<|Qy _ z];rfl
theorem Li(c:Nat):∀(l:List Nat)(n i:Nat),l.length<=n->(ZS c n i l).length=l.count c
 |[],_,_,_=>rfl|a::l,n,i,h=>by
  rw[ZS,List.count_cons];simp only[Jb]at h;by_cases e:a=c;.rw[if_pos ⟨e,by omega⟩,Jb,Li c l (n-1) (i+1)<|by omega,if_pos<|by simp[e]]
  .rw[if_neg λz=>e z.1,Li c l n (i+1)<|by omega,if_neg<|by simp[e]];rfl
def M8(x:Str)(c:Nat):Txt.count x ⟨#[c]⟩=((cs x).count c:Nat):=by unfold Txt.count;rw[OB,Li c (cs x) _ 0<|by rw[<-Jz];omega]
theorem DD{c:Nat}:∀(w:List Nat)(i:Nat)(r:List Nat),c∉w->∃t,ZS c 1 i (w++c::r)=(i+w.length)::t|[],i,r,_=>⟨_,by rw[nil_append,ZS,if_pos ⟨rfl,by omega⟩];rfl⟩|a::w,i,r,h=>by obtain⟨t,e⟩:=DD w (i+1) r λz=>h<|Qy _ z;exact⟨t,by rw[List.cons_append,ZS,if_neg λz=>h<|by simp[z.1],e,Jb];congr 1;omega⟩
def D0{x w r:Str}{c:Nat}(h:cs x=cs w++c::cs r)(hw:c∉cs w):Txt.partition x ⟨#[c]⟩=(w,⟨#[c]⟩,r):=by
 unfold Txt.partition;obtain⟨t,e⟩:=DD (cs w) 0 (cs r) hw;rw[OB,h,e];have hl:x.length=(cs w).length+(1+(cs r).length):=by rw[Jz,h,JZ,Jb];omega
 have h1:(⟨#[c]⟩:Str).length=1:=rfl;simp only[zero_add];refine Prod.ext (sx ?_)<|Prod.ext rfl<|sx ?_
 .show cs (strSub x 0 (cs w).length)=_;rw[SA,h];simp
 .show cs (strSub x ((cs w).length+1) x.length)=_;rw[SA,h,hl,show(cs w++c::cs r).drop ((cs w).length+1)=cs r by rw[<-drop_drop,List.drop_left];rfl];rw[List.take_of_length_le<|by omega]
def Ts(x y:Str):Txt.startswith x y=(cs y).isPrefixOf (cs x):=by
 unfold Txt.startswith;rw[StrLaws.subAt_eq,We,zero_add,Bool.eq_iff_iff,Ja,beq_iff_eq,q_58,List.prefix_iff_eq_take,decide_eq_true_iff,Jz,Jz];constructor;.rintro⟨_,h⟩;exact h.symm
 .intro h;refine⟨?_,h.symm⟩;have:=congrArg List.length h;rw[X7]at this;omega
def Gk(x:Str)(c:Nat):Txt.contains x ⟨#[c]⟩=decide (c∈cs x):=StrLaws.found_one x c
noncomputable def ZB(n:Nat):Str:=Str.ofString<|toString (n:Int)
def T4(n:Nat):cs (ZB n)=(Nat.toDigits 10 n).map Char.toNat:=W.KIN.signs_num n
def MD:∀d:Nat,d<10->(Nat.digitChar d).toNat=48+d:=by decide
def Eh(n:Nat):∀c∈cs<|ZB n,48<=c/\c<=57:=by rw[T4];induction n using Nat.strongRecOn with|_ m ih=>
  intro c hc;by_cases h:m<10
  .rw[Nat.toDigits_of_lt_base h]at hc;have:c=(Nat.digitChar m).toNat:=by simpa using hc
   rw[this,MD m h];omega
  .have hm:m%10<10:=Nat.mod_lt m (by decide);have t:Nat.toDigits 10 (m/10)++Nat.toDigits 10 (m%10)=Nat.toDigits 10 (10*(m/10)+m%10):=Nat.toDigits_append_toDigits (by decide) (by omega) hm;rw[Nat.div_add_mod]at t;rw[<-t,Jj,Nat.toDigits_of_lt_base hm]at hc;rcases q_8.mp hc with z|z;.exact ih (m/10) (by omega) c z
   .have:c=(Nat.digitChar<|m%10).toNat:=by simpa using z
    rw[this,MD _ hm];omega
def Ei{n:Nat}(hn:n≠0):∃c r,cs (ZB n)=c::r/\c≠48:=by rw[T4];induction n using Nat.strongRecOn with|_ m ih=>
  by_cases h:m<10
  .rw[Nat.toDigits_of_lt_base h];exact⟨_,[],rfl,by rw[MD m h];omega⟩
  .have hm:m%10<10:=Nat.mod_lt m (by decide);have t:Nat.toDigits 10 (m/10)++Nat.toDigits 10 (m%10)=Nat.toDigits 10 (10*(m/10)+m%10):=Nat.toDigits_append_toDigits (by decide) (by omega) hm;rw[Nat.div_add_mod]at t;obtain⟨c,r,e,hc⟩:=ih (m/10) (by omega) (by omega);exact⟨c,_,by rw[<-t,Jj,e];rfl,hc⟩
def Qdt(n:Nat):cs (ZB n)≠[]:=by
 rcases Nat.eq_zero_or_pos n with rfl|h;.decide
 .obtain⟨c,r,e,_⟩:=Ei (n:=n) (by omega);rw[e];simp
def LW{n:Nat}(h:n<10^60):(ZB n).length<=60:=by rw[Jz,T4,Qr];exact(RN (by decide)<|by decide).mpr h
def Ej{n:Nat}(h:n<10^250):(ZB n).length<=250:=by rw[Jz,T4,Qr];exact(RN (by decide)<|by decide).mpr h
def Qds{n:Nat}(h:n<10^250):intText? (ZB n)=some (n:Int):=by rw[PySem.intText_digits (λc hc=>Eh n c hc) (Qdt n)<|ZU (Ej h)<|by decide];rw[show(ZB n).cps.toList=(Nat.toDigits 10 n).map Char.toNat from T4 n,W.KIN.val_back]
def sg(c:Nat):Prop:=32<=c/\c<=126/\c≠37
def Sgn(x:Str):Prop:=(∀c∈cs x,sg c)/\x.length<=100
def Lab(x:Str):Prop:=(∀c∈cs x,97<=c/\c<=122)/\cs x≠[]/\x.length<=40
def BLab(x:Str):Prop:=x=""\/Lab x
def Rz(x:Str):Prop:=Sgn x/\cs x≠[]/\32∉cs x
def Ttl(x:Str):Prop:=Sgn x/\cs x≠[]/\(cs x).head?≠some 32/\(cs x).getLast?≠some 32
noncomputable def Je(x:Str):Str:=if x=""then "-"else x
def O0(a b:Nat):D.leS (.str ⟨#[a]⟩) (.str ⟨#[b]⟩)=QL (decide<|a<=b):=by
 show some (D.bl<|! decide ([b]<[a]))=_;congr 2;by_cases h:a<=b;.rw[J2 h,J0<|by simp[List.cons_lt_cons_iff];omega];rfl
 .rw[J0 h,J2<|by simp[List.cons_lt_cons_iff];omega];rfl
def Xn(x y:Str):D.neO (.str x) (.str y)=QL (!decide (x=y)):=by simp[D.neO,UM,Xc,D.cmpN]
def Ai{g g':D->D->Option D}{a b c:Q6}{e:Q8}{x y z:D}{r:Option D}(ha:a e=some x)(hb:b e=some y)(h:g x y=QL true)(hc:c e=some z)(h':g' y z=r):Xb g g' a b c e=r:=by unfold Xb;rw[ha,hb];show Zt (g x y) _ _=_;rw[h,hc];exact h'
def Qck{c:Nat}(h:sg c):Pf [.str ⟨#[c]⟩]=QL true:=by
 refine QR rfl<|ret<|JE (Ai (x:=.str ⟨#[32]⟩) (z:=.str ⟨#[126]⟩) rfl rfl ?_ rfl ?_)<|Q0 (x:=.int c) (Qf rfl rfl) rfl ?_;.rw[O0,J2 h.1]
 .rw[O0,J2 h.2.1]
 .have:(c:Int)≠37:=by have:=h.2.2;omega
  simp[D.neO,Xa,UQ,D.cmpN,this]
def HJ{x:Str}(h:∀c∈cs x,c<128):x.cps.all (·<128)=true:=by rw[<-Array.all_toList,q_24];intro c hc;exact J2<|h c hc
theorem GX{α:Type}:∀(xs:List α),V5 ((xs.filter λ_=>true).map λ_=>D.bl true)=some (xs.map λ_=>true)|[]=>rfl|a::xs=>by rw[UY];have:=GX xs;rw[UY]at this;show(V5<|xs.map λ_=>D.bl true).map _=_;rw[this];rfl
def A2{i:Nat}{el:Q6}{x:Str}{e:Q8}(he:eV i e=QI x)(ha:∀c∈cs x,c<128)(hl:x.length<=100000)(h:∀c∈cs x,el [some<|.str ⟨#[c]⟩]=QL true):QD D.allL (JX 1 [] (Zs<|eV i) (gS 0) (JB true) el) e=QL true:=by
 have hc:JX 1 [] (Zs<|eV i) (gS 0) (JB true) el e=JJ (((cs x).filter λ_=>true).map λ_=>D.bl true):=by
  refine UH (λc=>D.str ⟨#[c]⟩) (cs x) (λe=>∃v,e=[v]) (λ_=>true) (λ_=>.bl true) ?_ (by rw[<-Jz];show _<=16777216;omega) ⟨none,rfl⟩ ?_
  .unfold Zs;rw[he];show(if x.cps.all (·<128)=true then some<|x.cps.toList.map λc=>D.str ⟨#[c]⟩else none)=_;rw[if_pos<|HJ ha]
  .rintro c hc e⟨v,rfl⟩;exact⟨_,rfl,⟨_,rfl⟩,rfl,λ_=>h c hc⟩
 refine Qf hc ?_;show(V5 _).map _=_;rw[GX];show some (D.bl<|((cs x).map λ_=>true).all id)=_;simp
def Sgn.as{x:Str}(h:Sgn x):∀c∈cs x,c<128:=λc hc=>by have:=h.1 c hc;unfold sg at this;omega
def Qdo{x:Str}(h:cs x≠[]):x≠"":=λz=>h<|by rw[z];rfl
def QgU{x:Str}(h:BLab x):x=""/\Je x="-"\/Lab x/\x≠""/\Je x=x/\x≠"-":=by
 rcases h with rfl|h;.exact .inl ⟨rfl,rfl⟩
 .have n:=Qdo h.2.1;refine .inr ⟨h,n,if_neg n,λz=>?_⟩;have:=h.1 45 (by rw[z];decide);omega
def W3{c a b:Q6}{e:Q8}{t:Bool}{r:Option D}(hc:c e=QL t)(ha:t=true->a e=r)(hb:t=false->b e=r):WU c a b e=r:=by unfold WU;rw[hc];cases t with|true=>exact ha rfl|false=>exact hb rfl
inductive It where|word(x:Str)(ns:List Str)|ref(l a b:Str)|mark(l:Str)|key(x:Str)
inductive Bo where|chap(t l:Str)|head(t:Str)(k:Nat)(l:Str)|tab(rs:List Str)(l:Str)|plat(n:Nat)(l:Str)|para(is:List It)
noncomputable def QB(xs:List Str):D:=.lst<|xs.map .str
def It.d:It->D|.word w ns=>.tup [.str "word",.str w,QB ns]|.ref l a b=>.tup [.str "ref",.str l,.str a,.str b]|.mark l=>.tup [.str "mark",.str l]|.key w=>.tup [.str "key",.str w]
def Bo.d:Bo->D|.chap t l=>.tup [.str "chapter",.str t,.str l]|.head t k l=>.tup [.str "heading",.str t,.int k,.str l]|.tab rs l=>.tup [.str "table",QB rs,.str l]|.plat n l=>.tup [.str "plates",.int n,.str l]|.para is=>.tup [.str "para",.lst<|is.map It.d]
def RT(x:Str):Prop:=Sgn x/\32∉cs x
def It.ok:It->Prop|.word x ns=>Rz x/\(∀n∈ns,Sgn n)/\ns.length<=2|.ref l a b=>Lab l/\RT a/\RT b|.mark l=>Lab l|.key x=>Rz x
def Bo.ok:Bo->Prop|.chap t l=>Ttl t/\BLab l|.head t k l=>Ttl t/\k<10^60/\BLab l|.tab rs l=>(∀r∈rs,Sgn r)/\rs≠[]/\rs.length<=50/\BLab l|.plat n l=>0<n/\n<10^60/\BLab l|.para is=>(∀i∈is,i.ok)/\is.length<=100
noncomputable def It.w:It->Prop|.word x ns=>x.length<=2000/\(∀n∈ns,n.length<=2000)/\ns.length<=100000|.ref l a b=>l.length<=2000/\a.length<=2000/\b.length<=2000|.mark l=>l.length<=2000|.key x=>x.length<=2000
def Bo.w:Bo->Prop|.chap t l=>t.length<=2000/\l.length<=2000|.head t k l=>t.length<=2000/\k<10^250/\l.length<=2000|.tab rs l=>(∀r∈rs,r.length<=2000)/\rs.length<=100000/\l.length<=2000|.plat n l=>n<10^250/\l.length<=2000|.para is=>∀i∈is,i.w
noncomputable def It.rows:It->List Str|.word x ns=>("word "++x)::ns.map λn=>"note "++n|.ref l a b=>["ref "++l++" "++a++"|"++b]|.mark l=>["mark "++l]|.key x=>["key "++x]
def Bo.first:Bo->Str|.chap t l=>"chapter "++Je l++" "++t|.head t k l=>"heading "++ZB k++" "++Je l++" "++t|.tab rs l=>"table "++Je l|.plat n l=>"plates "++ZB n++" "++Je l|.para is=>"para"
def Bo.more:Bo->List Str|.tab rs l=>rs.map λr=>"row "++r|.para is=>is.flatMap It.rows|_=>[]
def Bo.rows(b:Bo):List Str:=b.first::b.more
def Js{x y:Str}(h:x.length+y.length<=100000):D.add (.str x) (.str y)=QI (x++y):=if_pos<|by show _<=16777216;omega
def la(x y:Str):(x++y).length=x.length+y.length:=Str.length_append x y
def Lab.le{x:Str}(h:Lab x):x.length<=40:=h.2.2
theorem BLab.le{x:Str}(h:BLab x):x.length<=40:=by rcases h with rfl|h;decide;exact h.le
def B6{x:Str}(h:x.length<=2000):(Je x).length<=2000:=by unfold Je;split;decide;exact h
def E6{i:Nat}{k t:Str}{ds:List D}{e:Q8}(he:eV i e=some (.tup<|.str k::ds)):QF (Z6 (eV i) 0) (eC<|.str t) e=QL (decide<|k=t):=by refine Q0 (x:=.str k) (Q0 he rfl ?_) rfl<|UP k t;show((JD (ds.length+1) 0).bind λj=>(.str k::ds)[j]?)=_;unfold JD;rw[if_pos<|by omega,if_pos<|by omega];rfl
def kT{i:Nat}{t:Str}{ds:List D}{e:Q8}(he:eV i e=some (.tup<|.str t::ds)):QF (Z6 (eV i) 0) (eC<|.str t) e=QL true:=by rw[E6 he,J2 rfl]
def kF{i:Nat}{k t:Str}{ds:List D}{e:Q8}(he:eV i e=some (.tup<|.str k::ds))(hn:decide (k=t)=false:=by decide):QF (Z6 (eV i) 0) (eC<|.str t) e=QL false:=by rw[E6 he,hn]
def X0{a:Q6}{e:Q8}{x:D}(h:a e=some x):QS (lC a lN) e=some (.lst [x]):=by unfold QS lC lN;rw[h];rfl
def Lj{it:Za}{pre:Str}{xs:List Str}{e:Q8}(hit:it e=some (xs.map .str))(hp:pre.length<=10)(hx:∀x∈xs,x.length<=2000)(hl:xs.length<=100000):JX 1 [] it (gS 0) (JB true) (QG (eC<|.str pre)<|eV 0) e=some (QB<|xs.map λx=>pre++x):=by rw[UH D.str xs (λe=>∃v,e=[v]) (λ_=>true) (λx=>.str<|pre++x) hit (by show _<=16777216;omega) ⟨none,rfl⟩<|by rintro x hm e⟨v,rfl⟩;exact⟨_,rfl,⟨_,rfl⟩,rfl,λ_=>Q0 rfl rfl<|Js<|by have:=hx x hm;omega⟩,UY];unfold QB;rw[map_map];rfl
def Nn{xs ys:List D}(h:xs.length+ys.length<=2000000):D.add (.lst xs) (.lst ys)=JJ (xs++ys):=if_pos<|by show _<=16777216;omega
def Fu{i:It}(h:i.w):SK [i.d]=some (QB i.rows):=by cases i with
 |word x ns=>
  obtain⟨hx,hn,hl⟩:=h;refine QR rfl<|Qt<|Qc (kT rfl)<|ret<|Q0 (x:=.lst [.str<|"word "++x]) (y:=QB<|ns.map λn=>"note "++n) (X0<|Q0 rfl (Q0 rfl rfl rfl)<|Js ?_) (Lj ?_ (by decide) (λn hm=>hn n hm)<|by omega) ?_;.show 5+x.length<=_;omega
  .exact rfl
  .rw[show QB (ns.map λn=>"note "++n)=.lst ((ns.map λn=>("note "++n:Str)).map .str)from rfl,Nn<|by simp;omega];rfl|ref l a b=>
  obtain⟨hl,ha,hb⟩:=h;have e4:("ref ":Str).length=4:=rfl;have e1:(" ":Str).length=1:=rfl;have e2:("|":Str).length=1:=rfl;refine QR rfl<|st (QE (kF rfl) rfl)<|Qt<|Qc (kT rfl)<|ret<|X0 ?_;refine Q0 (Q0 (Q0 (Q0 (Q0 rfl (Q0 rfl rfl rfl)<|Js ?_) rfl<|Js ?_) (Q0 rfl rfl rfl)<|Js ?_) rfl<|Js ?_) (Q0 rfl rfl rfl)<|Js ?_;all_goals first|omega|(simp only[la];omega)
 |mark l=>have hl:l.length<=2000:=h;refine QR rfl<|st (QE (kF rfl) rfl)<|st (QE (kF rfl) rfl)<|ret<|X0<|Q0 (x:=.str "mark ") (Q0 (x:=.str "mark") (Q0 rfl rfl rfl) rfl rfl) (Q0 rfl rfl rfl)<|Js ?_;show 5+l.length<=_;omega|key x=>have hl:x.length<=2000:=h;refine QR rfl<|st (QE (kF rfl) rfl)<|st (QE (kF rfl) rfl)<|ret<|X0<|Q0 (x:=.str "key ") (Q0 (x:=.str "key") (Q0 rfl rfl rfl) rfl rfl) (Q0 rfl rfl rfl)<|Js ?_;show 4+x.length<=_;omega
def QcS{i:It}(h:i.w):Pa [i.d]=some (QB i.rows):=Fu h
noncomputable def Bo.lab:Bo->Str|.chap _ l|.head _ _ l|.tab _ l|.plat _ l=>l|.para _=>""
def Bo.lab_w{b:Bo}(h:b.w):b.lab.length<=2000:=by cases b with|chap t l=>exact h.2|head t k l=>exact h.2.2|tab rs l=>exact h.2.2|plat n l=>exact h.2|para is=>show("":Str).length<=2000;decide
def EA(b:Bo):TM [b.d]=QI b.lab:=by cases b with|para is=>exact QR rfl<|ret<|W3 (t:=true) (kT rfl) (λ_=>rfl) λh=>nomatch h|_=>exact QR rfl<|ret<|W3 (t:=false) (kF rfl) (λh=>nomatch h) λ_=>Q0 rfl (Qf rfl rfl) rfl
def Rj{e:Q8}{b:Bo}(he:eV 0 e=some b.d):WU (QF (eK TM<|QT<|eV 0)<|Q1 "") (Q1 "-") (eK TM<|QT<|eV 0) e=QI (Je b.lab):=by
 refine W3 (Q0 (Qs he<|EA b) rfl<|UP _ _) (λh=>?_) λh=>?_;.unfold Je;rw[if_pos<|of_decide_eq_true h];rfl
 .unfold Je;rw[if_neg<|of_decide_eq_false h];exact Qs he<|EA b
def TQ{x:Str}(h:x.length<=100000):WW (.str x)=some x:=if_pos h
def Fd{n:Nat}(h:n<10^250):WW (.int n)=some (ZB n):=by simp only[WW];rw[if_pos ⟨by omega,by omega⟩];rfl
def Xe{v:Q6}{r:List WM}{e:Q8}{acc x:Str}{d:D}{o:Option Str}(hv:v e=some d)(hx:WW d=some x)(h:Vz r e (acc++x)=o):Vz (.inr v::r) e acc=o:=by show((v e).bind λd=>(WW d).bind λx=>Vz r e<|acc++x)=o;rw[hv];show(WW d).bind _=o;rw[hx];exact h
def Xf{a:Str}{r:List WM}{e:Q8}{acc:Str}{o:Option Str}(h:Vz r e (acc++a)=o):Vz (.inl a::r) e acc=o:=h
def Pj{ps:List WM}{e:Q8}{x:Str}(h:Vz ps e Str.empty=some x):UO ps e=QI x:=by unfold UO;rw[h];rfl
def Ttl.le{x:Str}(h:Ttl x):x.length<=100:=h.1.2
def em(x:Str):Str.empty++x=x:=Str.empty_append x
def QbI{b:Bo}(h:b.w):Ml [b.d]=QI b.first:=by
 have tl:=B6<|Bo.lab_w h;cases b with
 |chap t l=>
  have t2:=h.1;have tl:(Je l).length<=2000:=tl;refine QR rfl<|st (QP (Q0 rfl rfl rfl) rfl)<|st (QP (Q0 rfl rfl rfl) rfl)<|st (QP (Rj (b:=.chap t l) rfl) rfl)<|Qt<|Qc (Q0 rfl rfl rfl)<|ret<|Pj ?_;refine Xf<|Xe rfl (TQ ?_)<|Xf<|Xe rfl (TQ<|by omega) ?_;.show(Je l).length<=_;omega
  .rw[em];rfl|head t k l=>
  have t2:=h.1;have tl:(Je l).length<=2000:=tl;refine QR rfl<|st (QP (Q0 rfl rfl rfl) rfl)<|st (QP (Q0 rfl rfl rfl) rfl)<|st (QP (Rj (b:=.head t k l) rfl) rfl)<|st (QE (Q0 rfl rfl rfl) rfl)<|Qt<|Qc (Q0 rfl rfl rfl)<|st (QP (Q0 rfl rfl rfl) rfl)<|ret<|Pj ?_;refine Xf<|Xe rfl (Fd h.2.1)<|Xf<|Xe rfl (TQ ?_)<|Xf<|Xe rfl (TQ<|by omega) ?_;.show(Je l).length<=_;omega
  .rw[em];rfl|tab rs l=>
  have tl:(Je l).length<=2000:=tl;refine QR rfl<|st (QP (Q0 rfl rfl rfl) rfl)<|st (QP (Q0 rfl rfl rfl) rfl)<|st (QP (Rj (b:=.tab rs l) rfl) rfl)<|st (QE (Q0 rfl rfl rfl) rfl)<|st (QE (Q0 rfl rfl rfl) rfl)<|st (QE (Q0 rfl rfl rfl) rfl)<|ret<|W3 (t:=true) (Q0 rfl rfl rfl) (λ_=>Pj ?_) λh=>nomatch h;refine Xf<|Xe rfl (TQ ?_) ?_;.show(Je l).length<=_;omega
  .rw[em];rfl|plat n l=>
  have tl:(Je l).length<=2000:=tl;refine QR rfl<|st (QP (Q0 rfl rfl rfl) rfl)<|st (QP (Q0 rfl rfl rfl) rfl)<|st (QP (Rj (b:=.plat n l) rfl) rfl)<|st (QE (Q0 rfl rfl rfl) rfl)<|st (QE (Q0 rfl rfl rfl) rfl)<|Qt<|Qc (Q0 rfl rfl rfl)<|ret<|Pj ?_;refine Xf<|Xe rfl (Fd h.1)<|Xf<|Xe rfl (TQ ?_) ?_;.show(Je l).length<=_;omega
  .rw[em];rfl|para is=>exact QR rfl<|st (QP (Q0 rfl rfl rfl) rfl)<|st (QP (Q0 rfl rfl rfl) rfl)<|st (QP (Rj (b:=.para is) rfl) rfl)<|st (QE (Q0 rfl rfl rfl) rfl)<|st (QE (Q0 rfl rfl rfl) rfl)<|st (QE (Q0 rfl rfl rfl) rfl)<|ret<|W3 (t:=false) (Q0 rfl rfl rfl) (λh=>nomatch h) λ_=>rfl
def It.ok_w{i:It}(h:i.ok):i.w:=by cases i with|word x ns=>exact⟨by have:=h.1.1.2;omega,λn hn=>by have:=(h.2.1 n hn).2;omega,by have:=h.2.2;omega⟩|ref l a b=>exact⟨by have:=h.1.le;omega,by have:=h.2.1.1.2;omega,by have:=h.2.2.1.2;omega⟩|mark l=>show l.length<=2000;have:=Lab.le h;omega|key x=>show x.length<=2000;have:=h.1.2;omega
def B7{k:Nat}(h:k<10^60):k<10^250:=ZW h<|by decide
theorem Bo.ok_w{b:Bo}(h:b.ok):b.w:=by cases b with|chap t l=>exact⟨by have:=h.1.le;omega,by have:=h.2.le;omega⟩|head t k l=>exact⟨by have:=h.1.le;omega,B7 h.2.1,by have:=h.2.2.le;omega⟩|tab rs l=>exact⟨λr hr=>by have:=(h.1 r hr).2;omega,by have:=h.2.2.1;omega,by have:=h.2.2.2.le;omega⟩|plat n l=>exact⟨B7 h.2.1,by have:=h.2.2.le;omega⟩|para is=>exact λi hi=>It.ok_w<|h.1 i hi
theorem Iz{α V:Type}{g:JW}{b:QJ}(d:α->D)(f:α->List D)(M:Nat)(E:List D->V->Q8):∀(xs:List α)(acc:List D)(v:V),acc.length+(xs.flatMap f).length<=M->(∀a∈xs,∀acc v,acc.length+(f a).length<=M->∃v',(g (d a)<|E acc v).bind b=some (.nx<|E (acc++f a) v'))->∃v',Zz g b (xs.map d) (E acc v)=some (.nx<|E (acc++xs.flatMap f) v')|[],acc,v,_,_=>⟨v,by rw[List.flatMap_nil,Yv];rfl⟩|a::xs,acc,v,hM,hb=>by rw[flatMap_cons,JZ]at hM;obtain⟨v1,h1⟩:=hb a JY acc v (by omega);obtain⟨v2,h2⟩:=Iz d f M E xs (acc++f a) v1 (by rw[JZ];omega) λx hx=>hb x<|Qy _ hx;refine⟨v2,?_⟩;show YN ((g (d a)<|E acc v).bind b) (Zz g b<|xs.map d)=_;rw[h1,flatMap_cons,<-Zw];exact h2
def P0{α V:Type}{it:Za}{g:JW}{b:QJ}{e:Q8}(d:α->D)(f:α->List D)(M:Nat)(E:List D->V->Q8)(xs:List α)(acc:List D)(v:V)(he:e=E acc v)(hit:it e=some (xs.map d))(hM:acc.length+(xs.flatMap f).length<=M)(hb:∀a∈xs,∀acc v,acc.length+(f a).length<=M->∃v',(g (d a)<|E acc v).bind b=some (.nx<|E (acc++f a) v')):∃v',Z3 it g b e=some (.nx<|E (acc++xs.flatMap f) v'):=by obtain⟨v',h⟩:=Iz d f M E xs acc v hM hb;refine⟨v',?_⟩;unfold Z3;rw[hit,he];exact h
def QgF{α V:Type}{it:Za}{g:JW}{b k:QJ}{e:Q8}{r:Option Fl}(d:α->D)(f:α->List D)(M:Nat)(E:List D->V->Q8)(xs:List α)(acc:List D)(v:V)(he:e=E acc v)(hit:it e=some (xs.map d))(hM:acc.length+(xs.flatMap f).length<=M)(hb:∀a∈xs,∀acc v,acc.length+(f a).length<=M->∃v',(g (d a)<|E acc v).bind b=some (.nx<|E (acc++f a) v'))(hk:∀v,k (E (acc++xs.flatMap f) v)=r):sQ (Z3 it g b) k e=r:=by obtain⟨v',h⟩:=P0 d f M E xs acc v he hit hM hb;exact st h<|hk v'
def Me{xs ys:List D}(h:xs.length+ys.length<=2000000):D.ext (.lst xs) (.lst ys)=JJ (xs++ys):=if_pos<|by show _<=16777216;omega
def Gb{xs ys:List D}(h:xs.length+ys.length<=2000000):D.cat (.lst xs) (.lst ys)=JJ (xs++ys):=if_pos<|by show _<=16777216;omega
def VQ{xs:List D}{d:D}(h:xs.length+1<=2000000):D.app (.lst xs) d=JJ (xs++[d]):=if_pos<|by show _<16777216;omega
noncomputable def sD(xs:List Str):List D:=xs.map .str
def Wg(xs:List Str):(sD xs).length=xs.length:=Qr ..
def Qgb(xs ys:List Str):sD (xs++ys)=sD xs++sD ys:=Jj
def Xz{α:Type}(f:α->List Str)(xs:List α):xs.flatMap (λa=>sD<|f a)=sD (xs.flatMap f):=by unfold sD;rw[List.map_flatMap]
def It.rows_len{i:It}(h:i.ok):i.rows.length<=3:=by cases i with|word x ns=>have:=h.2.2;simp[It.rows];omega|_=>simp[It.rows]
theorem Mu{α:Type}{f:α->List Str}{B:Nat}:∀{xs:List α},(∀a∈xs,(f a).length<=B)->(xs.flatMap f).length<=xs.length*B|[],_=>by simp|a::xs,h=>by have h1:=h a JY;have h2:=Mu (xs:=xs) λx hx=>h x<|Qy _ hx;rw[flatMap_cons,JZ,Jb,add_mul];omega
theorem Bo.rows_len{b:Bo}(h:b.ok):b.rows.length<=301:=by cases b with|para is=>have h1:=Mu (xs:=is) (f:=It.rows) λi hi=>It.rows_len<|h.1 i hi;have h2:=h.2;show(is.flatMap It.rows).length+1<=_;have:is.length*3<=100*3:=Nat.mul_le_mul_right _ h2;omega|tab rs l=>have:=h.2.2.1;simp[Bo.rows,Bo.more];omega|_=>simp[Bo.rows,Bo.more]
noncomputable def Bo.items:Bo->List It|.para is=>is|_=>[]
def Qcs(b:Bo):SM [b.d]=JJ (b.items.map It.d):=by cases b with|para is=>exact QR rfl<|ret<|W3 (t:=true) (kT rfl) (λ_=>Q0 rfl rfl rfl) λh=>nomatch h|_=>exact QR rfl<|ret<|W3 (t:=false) (kF rfl) (λh=>nomatch h) λ_=>rfl
def Bo.items_w{b:Bo}(h:b.w):∀i∈b.items,i.w:=by cases b with|para is=>exact h|_=>exact λi hi=>by cases hi
def Qcr(b:Bo):(b.items.flatMap It.rows).length<=b.rows.length:=by cases b with|para is=>show _<=(is.flatMap It.rows).length+1;exact le_succ _|_=>exact Zm _
def AM{b:Bo}(h:b.w)(hl:b.rows.length<=200000):SJ [b.d]=some (QB b.rows):=by
 have il:=Qcr b;have fin:∀(acc:List Str),acc.length<=200001->acc++b.items.flatMap It.rows=b.rows->sQ (Z3 (Zc<|eK SM<|QT<|eV 0) (gS 2)<|Wh 1<|eK SK<|QT<|eV 2) (QK<|eV 1) [some b.d,JJ<|sD acc,none]=some (.rt<|QB b.rows):=λacc ha hr=>by
  have hi:=Bo.items_w h;obtain⟨v',e⟩:=P0 (it:=Zc<|eK SM<|QT<|eV 0) (g:=gS 2) (b:=Wh 1<|eK SK<|QT<|eV 2) (e:=[some b.d,JJ<|sD acc,none]) It.d (λi=>sD i.rows) 500000 (λl(v:Option D)=>[some b.d,JJ l,v]) b.items (sD acc) none rfl (by unfold Zc;rw[Qs (x:=b.d) rfl<|Qcs b];rfl) (by rw[Wg,Xz,Wg];omega) λi hm l v hb=>⟨some i.d,YQ rfl<|Mf rfl (Qs rfl<|Fu<|hi i hm)<|Me (ys:=sD i.rows)<|by omega⟩;refine st e<|ret ?_;show some (D.lst _)=_;rw[Xz,<-Qgb,hr];rfl
 refine QR rfl<|st (QP (X0<|Qs rfl<|QbI h) rfl) ?_;cases b with
 |tab rs l=>
  refine st (Qc (kT rfl)<|Mf rfl (Lj (xs:=rs) rfl (by decide) (λr hr=>h.1 r hr)<|by have:=h.2.1;omega)<|Me (ys:=sD<|rs.map λr=>"row "++r)<|by rw[Wg,Qr];have:=h.2.1;simp;omega) ?_;exact fin ((Bo.tab rs l).first::rs.map λr=>"row "++r) (by have:=h.2.1;simp;omega)<|by simp[Bo.items,Bo.rows,Bo.more]|para is=>exact st (QE (kF rfl) rfl)<|fin [(Bo.para is).first] (by simp) rfl|chap t l=>exact st (QE (kF rfl) rfl)<|fin [(Bo.chap t l).first] (by simp) rfl|head t k l=>exact st (QE (kF rfl) rfl)<|fin [(Bo.head t k l).first] (by simp) rfl|plat n l=>exact st (QE (kF rfl) rfl)<|fin [(Bo.plat n l).first] (by simp) rfl
abbrev BookOk(bs:List Bo):Prop:=(∀b∈bs,b.ok)/\bs.length<=100
def Jp(bs:List Bo):List Str:=bs.flatMap Bo.rows
def VR(x:Str):Bool:=Txt.startswith x "ref "&&decide (1<(cs x).count 124)
def V4:Nat->List Str->Int|_,[]=>-1|n,x::xs=>if VR x=true then n else V4 (n+1) xs
def A8{a:Q6}{e:Q8}{x:Str}(ha:a e=QI x):QH (Q4 (QX Jl) a<|Q1 "ref ") (Q4 D.gt (Q4 (QX YE) a<|Q1 "|")<|Q2 1) e=QL (VR x):=by
 have h1:Q4 (QX Jl) a (Q1 "ref ") e=QL (Txt.startswith x "ref "):=Q0 ha rfl rfl;have h2:Q4 D.gt (Q4 (QX YE) a<|Q1 "|") (Q2 1) e=QL (decide<|1<(cs x).count 124):=by
  refine Q0 (x:=.int ((cs x).count 124:Nat)) (Q0 (y:=.str ⟨#[124]⟩) ha rfl ?_) rfl ?_;.show some (D.int<|Txt.count x ⟨#[124]⟩)=_;rw[M8]
  .show some (D.bl<|decide<|(1:Int)<((cs x).count 124:Nat))=_;congr 2;exact decide_eq_decide.mpr<|by omega
 unfold VR;cases hs:Txt.startswith x "ref "with
 |true=>rw[hs]at h1;rw[JE h1 h2];rfl|false=>rw[hs]at h1;rw[JT h1];rfl
abbrev Tw(bs:List Bo):Prop:=(∀b∈bs,b.w)/\(Jp bs).length<=200000
def Lz{bs:List Bo}(h:BookOk bs):(Jp bs).length<=30100:=by have h1:=Mu (xs:=bs) (f:=Bo.rows) λb hb=>Bo.rows_len<|h.1 b hb;have:bs.length*301<=100*301:=Nat.mul_le_mul_right _ h.2;unfold Jp;omega
def BookOk.w{bs:List Bo}(h:BookOk bs):Tw bs:=⟨λb hb=>Bo.ok_w<|h.1 b hb,by have:=Lz h;omega⟩
def To{bs:List Bo}{b:Bo}(h:b∈bs):b.rows.length<=(Jp bs).length:=by obtain⟨l1,l2,rfl⟩:=List.append_of_mem h;unfold Jp;rw[List.flatMap_append,flatMap_cons,JZ,JZ];omega
def Qhj{bs:List Bo}(h:Tw bs)(a b:Option D):∃v,Z3 (Zc<|eV 0) (gS 2) (Wh 1<|eK SJ<|QT<|eV 2) [JJ<|bs.map Bo.d,some<|.lst [],none,a,b]=some (.nx [JJ<|bs.map Bo.d,some<|QB<|Jp bs,v,a,b]):=by obtain⟨v',e⟩:=P0 (it:=Zc<|eV 0) (g:=gS 2) (b:=Wh 1<|eK SJ<|QT<|eV 2) (e:=[JJ<|bs.map Bo.d,some<|.lst [],none,a,b]) Bo.d (λi=>sD i.rows) 1100000 (λl(v:Option D)=>[JJ<|bs.map Bo.d,JJ l,v,a,b]) bs [] none rfl rfl (by rw[Xz,Wg];have:=h.2;unfold Jp at this;simp only[length_nil];omega) λi hm l v hb=>⟨some i.d,YQ rfl<|Mf rfl (Qs rfl<|AM (h.1 i hm)<|by have:=To hm;have:=h.2;omega)<|Me (ys:=sD i.rows)<|by omega⟩;refine⟨v',?_⟩;rw[e,nil_append,Xz];rfl
theorem GL{A B C:Option D}(z:QJ):∀(xs:List Str)(n:Nat)(a b:Option D),(V4 n xs=-1->∃a' b',Zz (Yn [gS 3,gS 4]) (QM (QH (Q4 (QX Jl) (eV 4)<|Q1 "ref ")<|Q4 D.gt (Q4 (QX YE) (eV 4)<|Q1 "|")<|Q2 1) z QU) (Vu n<|xs.map .str) [A,B,C,a,b]=some (.nx [A,B,C,a',b']))/\∀k:Nat,V4 n xs=k->(∀x,z [A,B,C,QA k,QI x]=some (.rz 6<|.int k))->Zz (Yn [gS 3,gS 4]) (QM (QH (Q4 (QX Jl) (eV 4)<|Q1 "ref ")<|Q4 D.gt (Q4 (QX YE) (eV 4)<|Q1 "|")<|Q2 1) z QU) (Vu n<|xs.map .str) [A,B,C,a,b]=some (.rz 6<|.int k)
 |[],n,a,b=>⟨λ_=>⟨a,b,rfl⟩,λk h=>by simp[V4]at h⟩|x::xs,n,a,b=>by
  have hc:=A8 (a:=eV 4) (e:=[A,B,C,QA n,QI x]) (x:=x) rfl;have go:∀r k,QM (QH (Q4 (QX Jl) (eV 4)<|Q1 "ref ")<|Q4 D.gt (Q4 (QX YE) (eV 4)<|Q1 "|")<|Q2 1) z QU [A,B,C,QA n,QI x]=r->YN r k=YN ((Yn [gS 3,gS 4] (.tup [.int n,.str x]) [A,B,C,a,b]).bind<|QM (QH (Q4 (QX Jl) (eV 4)<|Q1 "ref ")<|Q4 D.gt (Q4 (QX YE) (eV 4)<|Q1 "|")<|Q2 1) z QU) k:=λr k h=>by show _=YN (QM _ _ _ [A,B,C,QA n,QI x]) k;rw[h]
  have ih:=GL (A:=A) (B:=B) (C:=C) z xs (n+1) (QA n)<|QI x;cases hb:VR x with
  |true=>
   have e:V4 n (x::xs)=n:=by rw[V4,if_pos hb]
   refine⟨λh=>by rw[e]at h;omega,λk h hz=>?_⟩;rw[e]at h;have hk:n=k:=by omega
   subst hk;show YN ((Yn [gS 3,gS 4] (.tup [.int n,.str x]) [A,B,C,a,b]).bind _) _=_;rw[<-go _ _<|Qc (by rw[hc,hb])<|hz x];rfl|false=>
   have e:V4 n (x::xs)=V4 (n+1) xs:=by rw[V4,if_neg<|by rw[hb];decide]
   have step:∀k,YN ((Yn [gS 3,gS 4] (.tup [.int n,.str x]) [A,B,C,a,b]).bind<|QM (QH (Q4 (QX Jl) (eV 4)<|Q1 "ref ")<|Q4 D.gt (Q4 (QX YE) (eV 4)<|Q1 "|")<|Q2 1) z QU) k=k [A,B,C,QA n,QI x]:=λk=>by rw[<-go _ k<|QE (by rw[hc,hb]) rfl];rfl
   refine⟨λh=>?_,λk h hz=>?_⟩
   .obtain⟨a',b',h1⟩:=ih.1 (by rw[<-e];exact h);refine⟨a',b',?_⟩;show YN _ _=_;rw[step];exact h1
   .have h1:=ih.2 k (by rw[<-e];exact h) hz;show YN _ _=_;rw[step];exact h1
def Qhk{bs:List Bo}(h:Tw bs)(hb:V4 0 (Jp bs)=-1):Ms [.lst<|bs.map Bo.d]=some (QB<|Jp bs):=by
 obtain⟨v,e⟩:=Qhj h none none;refine QR rfl<|st (QP rfl rfl)<|st e ?_;obtain⟨a',b',h1⟩:=(GL (A:=JJ<|bs.map Bo.d) (B:=some<|QB<|Jp bs) (C:=v) Uq (Jp bs) 0 none none).1 hb;have h2:RV 1 (Z3 (Xg<|eV 1) (Yn [gS 3,gS 4])<|QM (QH (Q4 (QX Jl) (eV 4)<|Q1 "ref ")<|Q4 D.gt (Q4 (QX YE) (eV 4)<|Q1 "|")<|Q2 1) Uq QU) [JJ<|bs.map Bo.d,some<|QB<|Jp bs,v,none,none]=some (.nx [none,some<|QB<|Jp bs,none,none,none]):=by
  unfold RV;have h3:Z3 (Xg<|eV 1) (Yn [gS 3,gS 4]) (QM (QH (Q4 (QX Jl) (eV 4)<|Q1 "ref ")<|Q4 D.gt (Q4 (QX YE) (eV 4)<|Q1 "|")<|Q2 1) Uq QU) [JJ<|bs.map Bo.d,some<|QB<|Jp bs,v,none,none]=some (.nx [JJ<|bs.map Bo.d,some<|QB<|Jp bs,v,a',b']):=h1;rw[h3];rfl
 exact st h2<|ret rfl
def QfQ{c:Nat}{a:Q6}{e:Q8}{d:D}{r:Option Fl}(ha:a e=some d)(h:D.blkO c d=r):Ur c a e=r:=by unfold Ur;rw[ha];exact h
def AD{k:Nat}(hk:k<10^60):D.blkO 6 (.int k)=some (.rz 6<|.int k):=by simp only[D.blkO];rw[if_pos ⟨by omega,by omega⟩]
def Pz(l:Str):TJ [.str l]=QI (Je l):=by
 by_cases h:l="";.subst h;exact QR rfl<|Qt<|Qc (Q0 rfl rfl rfl) rfl
 .refine QR rfl<|st (QE (Q0 rfl rfl<|by rw[UP,J0 h]) rfl) ?_;unfold Je;rw[if_neg h];rfl
def Cq{k:Nat}(h:k<10^60):D.strI (.int k)=QI (ZB k):=by simp only[D.strI];rw[if_pos<|show(k:Int).natAbs<2^1900 from lt_trans (show(k:Int).natAbs<10^60 from h)<|by decide+kernel];rfl
def EL{a b c d:Q6}{e:Q8}{x y z u:D}(ha:a e=some x)(hb:b e=some y)(hc:c e=some z)(hd:d e=some u):QS (lC a<|lC b<|lC c<|lC d lN) e=some (.lst [x,y,z,u]):=by unfold QS lC lN;rw[ha,hb,hc,hd];rfl
def Qcz{a b c d:Str}(ha:a.length<=2000)(hb:b.length<=2000)(hc:c.length<=2000)(hd:d.length<=2000):D.joinS " " (.lst [.str a,.str b,.str c,.str d])=QI (Str.join " " [a,b,c,d]):=by show(if[a,b,c,d].length<=500/\∀y∈[a,b,c,d],y.length<=2000 then some<|D.str<|Str.join " " [a,b,c,d]else none)=_;rw[if_pos ⟨by simp,by simp[ha,hb,hc,hd]⟩]
def QcA(a b c d:Str):Str.join " " [a,b,c,d]=a++" "++b++" "++c++" "++d:=by show a++" "++(b++" "++(c++" "++d))=_;simp only[Str.append_assoc]
def QcT{bs:List Bo}(h:BookOk bs):Pc [.lst<|bs.map Bo.d]=some (QB<|Jp bs):=by
 refine QR rfl<|st (QP rfl rfl) ?_;refine QgF (V:=Option D×Option D) Bo.d (λi=>sD i.rows) 1100000 (λl v=>[JJ<|bs.map Bo.d,JJ l,v.1,v.2]) bs [] (none,none) rfl rfl (by rw[Xz,Wg];have:=Lz h;unfold Jp at this;simp only[length_nil];omega) (λb hm l v hb=>?_) λv=>by rw[nil_append,Xz];rfl
 .have ok:=h.1 b hm;have tl:=B6<|Bo.lab_w<|Bo.ok_w ok;have skip:∀{c:Q6}{a k:QJ}{e:Q8}{r:Option Fl},c e=QL false->k e=r->sQ (QM c a QU) k e=r:=λhc hk=>st (QE hc rfl) hk;have h1r:1<=(sD b.rows).length:=by rw[Wg];simp[Bo.rows]
  have lim:l.length+1<=2000000:=by omega
  cases b with
  |chap t lb=>
   have t2:=ok.1.le;have tl:(Je lb).length<=2000:=tl;have e8:("chapter ":Str).length=8:=rfl;have e1:(" ":Str).length=1:=rfl;refine⟨(some (Bo.chap t lb).d,v.2),YQ rfl ?_⟩;refine st (Qc (kT rfl)<|Yz rfl (Q0 (Q0 (Q0 rfl (Qs (Q0 rfl rfl rfl)<|Pz lb)<|Js<|by omega) rfl<|Js<|by rw[la];omega) (Q0 rfl rfl rfl)<|Js<|by rw[la,la];omega)<|VQ lim) ?_;exact skip (kF rfl)<|skip (kF rfl)<|skip (kF rfl)<|QE (kF rfl) rfl|head t k lb=>have t2:=ok.1.le;have tl:(Je lb).length<=2000:=tl;have nl:=LW ok.2.1;refine⟨(some (Bo.head t k lb).d,v.2),YQ rfl<|skip (kF rfl) ?_⟩;refine st (Qc (kT rfl)<|Yz rfl (Qf (EL rfl (Qf (Q0 rfl rfl rfl)<|Cq ok.2.1) (Qs (Q0 rfl rfl rfl)<|Pz lb)<|Q0 rfl rfl rfl)<|Qcz (by decide) (by omega) (by omega)<|by omega)<|VQ lim) ?_;refine skip (kF rfl)<|skip (kF rfl)<|QE (kF rfl) ?_;rw[QcA];rfl|plat n lb=>have tl:(Je lb).length<=2000:=tl;have nl:=LW ok.2.1;have e8:("plates ":Str).length=7:=rfl;have e1:(" ":Str).length=1:=rfl;refine⟨(some (Bo.plat n lb).d,v.2),YQ rfl<|skip (kF rfl)<|skip (kF rfl) ?_⟩;refine st (Qc (kT rfl)<|Yz rfl (Q0 (Q0 (Q0 rfl (Qf (Q0 rfl rfl rfl)<|Cq ok.2.1)<|Js<|by omega) rfl<|Js<|by rw[la];omega) (Qs (Q0 rfl rfl rfl)<|Pz lb)<|Js<|by rw[la,la];omega)<|VQ lim) ?_;exact skip (kF rfl)<|QE (kF rfl) rfl|tab rs lb=>
   have tl:(Je lb).length<=2000:=tl;have e8:("table ":Str).length=6:=rfl;refine⟨(some (Bo.tab rs lb).d,v.2),YQ rfl<|skip (kF rfl)<|skip (kF rfl)<|skip (kF rfl) ?_⟩;refine st (Qc (kT rfl)<|st (Yz rfl (Q0 rfl (Qs (Q0 rfl rfl rfl)<|Pz lb)<|Js<|by omega)<|VQ lim)<|QP (Q0 rfl (Lj (xs:=rs) rfl (by decide) (λr hr=>by have:=(ok.1 r hr).2;omega)<|by have:=ok.2.2.1;omega)<|Gb (ys:=sD<|rs.map λr=>"row "++r) ?_) rfl)<|QE (kF rfl) ?_
   .have:(sD (Bo.tab rs lb).rows).length=(sD<|rs.map λr=>("row "++r:Str)).length+1:=by rw[Wg,Wg];rfl
    rw[JZ,RM];omega
   .show some (Fl.nx [_,JJ<|l++[.str<|"table "++Je lb]++sD (rs.map λr=>"row "++r),_,_])=_;rw[Zw];rfl|para is=>
   have il:=ok.2;have lsum:(sD (Bo.para is).rows).length=1+(is.flatMap It.rows).length:=by rw[Wg];show(is.flatMap It.rows).length+1=_;omega
   obtain⟨w,hw⟩:=P0 (V:=Option D) (it:=Zc<|Q9 2 1) (g:=gS 3) (b:=QO (Q4 D.cat (eV 1)<|eK Pa<|QT<|eV 3)<|gS 1) (e:=[JJ<|bs.map Bo.d,JJ<|l++[.str "para"],some (Bo.para is).d,v.2]) It.d (λi=>sD i.rows) 1200000 (λl v=>[JJ<|bs.map Bo.d,JJ l,some (Bo.para is).d,v]) is (l++[.str "para"]) v.2 rfl rfl (by rw[JZ,RM,Xz,Wg];omega) λi hm l v hb=>⟨some i.d,YQ rfl<|QP (Q0 rfl (Qs rfl<|QcS<|It.ok_w<|ok.1 i hm)<|Gb (ys:=sD i.rows)<|by omega) rfl⟩;refine⟨(some (Bo.para is).d,w),YQ rfl<|skip (kF rfl)<|skip (kF rfl)<|skip (kF rfl)<|skip (kF rfl)<|Qc (kT rfl)<|st (Yz rfl rfl<|VQ lim) ?_⟩;rw[show l++sD (Bo.para is).rows=l++[.str "para"]++is.flatMap λi=>sD i.rows by rw[Xz,Zw];rfl];exact hw
def Pp{xs:List D}{i:Nat}{d:D}(h:xs[i]?=some d):D.ix (.lst xs) (.int<|0+(i:Int))=some d:=by have hi:=(q_33.mp h).1;show((JD xs.length<|0+(i:Int)).bind λk=>xs[k]?)=_;unfold JD;rw[if_pos<|by omega,if_pos<|by omega];show xs[(0+(i:Int)).toNat]?=_;rw[show(0+(i:Int)).toNat=i by omega];exact h
inductive Al:Nat->D->Prop|str(n:Nat)(x:Str):Al n<|.str x|int(n:Nat)(i:Int):Al n<|.int i|tup{n:Nat}{ds:List D}(hl:ds.length<=2000000)(h:∀d∈ds,Al n d):Al (n+1)<|.tup ds|lst{n:Nat}{ds:List D}(hl:ds.length<=2000000)(h:∀d∈ds,Al n d):Al (n+1)<|.lst ds
theorem Al.eq{n:Nat}{d:D}(h:Al n d):D.eq d d=some true/\D.dep d<=n:=by
 have many:∀{n:Nat}{ds:List D},(∀d∈ds,D.eq d d=some true/\D.dep d<=n)->D.eqL ds ds=some true/\D.depL ds<=n:=λ{n ds}h=>by induction ds with
  |nil=>exact⟨PR,by rw[FH];omega⟩|cons d ds ih=>obtain⟨a1,a2⟩:=h d JY;obtain⟨b1,b2⟩:=ih λx hx=>h x<|Qy _ hx;exact⟨by rw[Qbz,a1,b1];rfl,by rw[PK];omega⟩
 induction h with
 |str n x=>exact⟨by rw[Xc,J2 rfl],by rw[UM];omega⟩|int n i=>exact⟨by rw[UQ,J2 rfl],by rw[Xa];omega⟩|tup hl h ih=>obtain⟨a,b⟩:=many ih;exact⟨by rw[QbB,a],by rw[MI];omega⟩|lst hl h ih=>obtain⟨a,b⟩:=many ih;exact⟨by rw[PV,a],by rw[SD];omega⟩
def Al.ne{n:Nat}{d:D}(h:Al n d)(hn:n<=40):D.neO d d=QL false:=by obtain⟨a,b⟩:=h.eq;unfold D.neO;rw[if_pos<|by omega,a];rfl
theorem Al.eqO{n:Nat}{d:D}(h:Al n d)(hn:n<=40):D.eqO d d=QL true:=by obtain⟨a,b⟩:=h.eq;unfold D.eqO;rw[if_pos<|by omega,a];rfl
def Al.mono{n m:Nat}{d:D}(h:Al n d)(hm:n<=m):Al m d:=by induction h generalizing m with|str n x=>exact .str _ x|int n i=>exact .int _ i|@tup n ds hl h ih=>obtain⟨k,rfl⟩:∃k,m=k+1:=⟨m-1,by omega⟩;exact .tup hl λd hd=>ih d hd<|by omega|@lst n ds hl h ih=>obtain⟨k,rfl⟩:∃k,m=k+1:=⟨m-1,by omega⟩;exact .lst hl λd hd=>ih d hd<|by omega
def EY{x:Int}:D.neO (.int x) (.int x)=QL false:=by simp[D.neO,Xa,UQ,D.cmpN]
def WI{a:Q6}{e:Q8}{n:Nat}(h:a e=QA n)(hn:n<=2000000):ZH a e=some (rD 0 n):=by unfold ZH;rw[h];show(if((n:Nat):Int).natAbs<4611686018427387904 then some<|rD 0 ((n:Nat):Int).toNat else none)=_;rw[if_pos<|by omega,Xs]
def ixT{xs:List D}{i:Nat}{d:D}(h:xs[i]?=some d):D.ix (.tup xs) (.int<|0+(i:Int))=some d:=Pp h
def HE{g:List D->Option D}{d:D}{ds:List D}{k:QJ}{r:Option Fl}(hl:D.len d=QA ds.length)(hn:ds.length<=2000000)(hx:∀(i:Nat)(x:D),ds[i]?=some x->D.ix d (.int<|0+(i:Int))=some x)(hg:∀x∈ds,g [x,x]=QL true)(hk:∀v,k [some d,some d,v]=r):sQ (Z3 (ZH<|QD D.len<|eV 1) (gS 2)<|QM (Va<|eK g<|J3 (QW (eV 0)<|eV 2)<|QW (eV 1)<|eV 2) (QK<|JB false) QU) k [some d,some d,none]=r:=by
 refine QgG ds.length (λ_ e=>∃v,e=[some d,some d,v]) (WI (Qf rfl hl) hn) ⟨none,rfl⟩ ?_ ?_
 .rintro i hi e⟨v,rfl⟩;have h1:=hx i ds[i]<|ZQ hi;refine⟨[some d,some d,QA<|0+(i:Int)],.inl<|YQ rfl<|QE (Su (b:=true)<|Zb (Q0 rfl rfl h1) (Q0 rfl rfl h1)<|hg _<|getElem_mem hi) rfl,_,rfl⟩
 .rintro e⟨v,rfl⟩;exact hk v
def Bz{n:Nat}{d:D}(h:Al n d):PJ 3 2 P4 (n+1) [d,d]=QL true:=by induction h with|str n x=>refine QR rfl<|Qt<|Qc (YW rfl rfl)<|ret<|JE (YW rfl rfl)<|Q0 rfl rfl ?_;rw[UP,J2 rfl]|int n i=>exact QR rfl<|st (QE (YW rfl rfl) rfl)<|Qt<|Qc (YW rfl rfl)<|ret<|JE (YW rfl rfl)<|JE (Su (b:=false)<|YW rfl rfl)<|Q0 rfl rfl<|ZM rfl|@tup n ds hl h ih=>exact QR rfl<|st (QE (YW rfl rfl) rfl)<|st (QE (YW rfl rfl) rfl)<|st (QE (YW rfl rfl)<|QE (Su (b:=true)<|YW rfl rfl) rfl)<|st (QE (Q0 (Qf rfl rfl) (Qf rfl rfl) EY) rfl)<|HE (d:=.tup ds) (ds:=ds) rfl hl (λi x hx=>ixT hx) ih λv=>ret rfl|@lst n ds hl h ih=>exact QR rfl<|st (QE (YW rfl rfl) rfl)<|st (QE (YW rfl rfl) rfl)<|st (Qc (YW rfl rfl)<|QE (Su (b:=true)<|YW rfl rfl) rfl)<|st (QE (Q0 (Qf rfl rfl) (Qf rfl rfl) EY) rfl)<|HE (d:=.lst ds) (ds:=ds) rfl hl (λi x hx=>Pp hx) ih λv=>ret rfl
def HD{d:D}(h:Al 6 d):PY [d,d]=QL true:=Bz h
def Nq{xs:List Str}(h:xs.length<=2000000):Al 1<|QB xs:=.lst (by rw[Qr];exact h) λd hd=>by obtain⟨x,_,rfl⟩:=q_26.mp hd;exact .str 0 x
def HC{i:It}(h:i.w):Al 2 i.d:=by cases i with
 |word x ns=>
  have hn:=h.2.2;refine .tup (by simp) λd hd=>?_;simp only[q_7,WH,or_false]at hd;rcases hd with rfl|rfl|rfl;.exact .str _ _
  .exact .str _ _
  .exact Nq<|by omega|_=>
  refine .tup (by simp) λd hd=>?_;simp only[q_7,WH,or_false]at hd;rcases hd with rfl|rfl|rfl|rfl<;>exact .str _ _
theorem TV{α:Type}{f:α->List Str}(hf:∀a,1<=(f a).length):∀xs:List α,xs.length<=(xs.flatMap f).length|[]=>Zm _|a::xs=>by have h1:=hf a;have h2:=TV hf xs;rw[flatMap_cons,JZ,Jb];omega
def LC(i:It):1<=i.rows.length:=by cases i<;>simp[It.rows]
def GV(b:Bo):1<=b.rows.length:=by simp[Bo.rows]
def By{b:Bo}(h:b.w)(hl:b.rows.length<=200000):Al 4 b.d:=by cases b with
 |para is=>
  have hn:is.length<=200000:=by have h1:=TV LC is;have:(is.flatMap It.rows).length+1<=200000:=hl;omega
  refine .tup (by simp) λd hd=>?_;simp only[q_7,WH,or_false]at hd;rcases hd with rfl|rfl;.exact .str _ _
  .exact .lst (by rw[Qr];omega) λd hd=>by
    obtain⟨i,hi,rfl⟩:=q_26.mp hd;exact HC<|h i hi|tab rs l=>
  have hn:=h.2.1;refine .tup (by simp) λd hd=>?_;simp only[q_7,WH,or_false]at hd;rcases hd with rfl|rfl|rfl;.exact .str _ _
  .exact(Nq<|by omega).mono<|by omega
  .exact .str _ _|_=>
  refine .tup (by simp) λd hd=>?_;simp only[q_7,WH,or_false]at hd;rcases hd with rfl|rfl|rfl|rfl<;>first|exact .str _ _|exact .int _ _
def HB{bs:List Bo}(h:Tw bs):Al 6<|.lst<|bs.map Bo.d:=Al.mono (n:=5) (.lst (by rw[Qr];have h1:=TV GV bs;have:=h.2;unfold Jp at this;omega) λd hd=>by obtain⟨b,hb,rfl⟩:=q_26.mp hd;exact By (h.1 b hb)<|by have:=To hb;have:=h.2;omega)<|by omega
def It.im:It->Im|.word x ns=>.wd x ns|i=>.pl i.d
def Bo.bk:Bo->Wd.Bk|.tab rs l=>.tb rs<|.str l|.para is=>.pa<|is.map It.im|b=>.pl b.d
def Qb2(i:It):YA i.im=i.d:=by cases i<;>rfl
def GS(b:Bo):Jx b.bk=b.d:=by cases b with|para is=>show D.tup [.str "para",.lst<|(is.map It.im).map YA]=_;rw[map_map,show YA∘It.im=It.d from funext Qb2];rfl|_=>rfl
def lQ(f:Wd.Bk->Option Bool)(m:BM)(b:Wd.Bk):Z9 f (m++[b])=f b:=by unfold Z9;simp
def lU(f:Wd.Bk->Wd.Bk)(m:BM)(b:Wd.Bk):ZJ f (m++[b])=m++[f b]:=by unfold ZJ;simp
def Pq(ds:List D)(d:D):D.ix (.lst<|ds++[d]) (.int<|-1)=some d:=by show((JD (ds++[d]).length<|-1).bind λk=>(ds++[d])[k]?)=_;unfold JD;rw[if_neg<|by omega,if_pos<|by simp;omega];simp[show(-1+((ds.length:Int)+1)).toNat=ds.length by omega]
def gtT{n:Nat}(h:0<n):D.gt (.int n) (.int 0)=QL true:=by show some (D.bl<|decide<|(0:Int)<n)=_;rw[J2<|by omega]
theorem MG:∀xs:List Str,D.depL (xs.map .str)=0|[]=>FH|x::xs=>by rw[YK,PK,MG xs,UM];rfl
def MY(x:D)(xs:List D):D.eqL (x::xs) []=some false:=by rw[D.eqL];all_goals simp
def Tr{x y:Str}(hx:∀c∈cs x,sg c)(hy:∀c∈cs y,sg c):∀c∈cs<|x++y,sg c:=λc hc=>by
 rw[Z8]at hc;rcases q_8.mp hc with z|z;.exact hx c z
 .exact hy c z
def U1{l:List Nat}(h:l.all (λc=>decide (32<=c)&&decide (c<=126)&&decide (c≠37))=true):∀c∈l,sg c:=λc hc=>by have:=q_24.mp h c hc;simp only[Ja,decide_eq_true_eq]at this;exact⟨this.1.1,this.1.2,this.2⟩
theorem Lab.sg{x:Str}(h:Lab x):∀c∈cs x,sg c:=λc hc=>by have:=h.1 c hc;exact⟨by omega,by omega,by omega⟩
def Qdv(n:Nat):∀c∈cs<|ZB n,sg c:=λc hc=>by have:=Eh n c hc;exact⟨by omega,by omega,by omega⟩
def bT{cv:Q6}{ba bb:Zf}{e:Q8}{m:BM}{r:Option<|Bool×BM}(h:cv (Tv e m)=QL true)(ha:ba e m=r):V2 cv ba bb e m=r:=by unfold V2;rw[h];exact ha
def bF{cv:Q6}{ba bb:Zf}{e:Q8}{m:BM}{r:Option<|Bool×BM}(h:cv (Tv e m)=QL false)(hb:bb e m=r):V2 cv ba bb e m=r:=by unfold V2;rw[h];exact hb
def sw{a r b:Str}{t:Bool}(h:(cs b).isPrefixOf (cs a++cs r)=t):Txt.startswith (a++r) b=t:=by rw[Ts,Z8];exact h
def sp:(" ":Str)=⟨#[32]⟩:=rfl
def N9{i n:Nat}{e:Q8}{x:Str}{L:List Str}(he:eV i e=QI x)(hl:x.length<=100000)(hn:n<1000)(h:JV 32 n (cs x)=L.map cs):Q4 (QX<|XG n) (eV i) (Q1 " ") e=some (QB L):=by refine Q0 he rfl ?_;show XG n x ⟨#[32]⟩=_;unfold XG;rw[if_pos ⟨rfl,hl,hn⟩,Qgz (by decide) h];rfl
def Qgy{c:Nat}{a:Q6}{e:Q8}{x s:Str}{L:List Str}(hs:s=⟨#[c]⟩)(hc:c<256)(he:a e=QI x)(hl:x.length<=100000)(h:JV c (x.length+1) (cs x)=L.map cs):Q4 (QX ZE) a (eC<|.str s) e=some (QB L):=by refine Q0 he rfl ?_;subst hs;show ZE x ⟨#[c]⟩=_;unfold ZE;rw[if_pos ⟨rfl,hl⟩,Cj hc h];rfl
def Vr(x y:Str):cs (x++" "++y)=cs x++32::cs y:=by rw[Z8,Z8,Zw];rfl
def XU(a b c:Str):a++b++c=a++(b++c):=Str.append_assoc a b c
def Qb5{i:Nat}{e:Q8}{x w r:Str}(he:eV i e=QI x)(hl:x.length<=100000)(h:cs x=cs w++32::cs r)(hw:32∉cs w):Z6 (Q4 (QX Vj) (eV i)<|Q1 " ") 2 e=QI r:=by refine Q0 (Q0 he rfl ?_) rfl<|show D.ix (.tup<|[w,⟨#[32]⟩,r].map .str) (.int 2)=_ from rfl;show Vj x ⟨#[32]⟩=_;unfold Vj;rw[if_pos ⟨rfl,hl⟩,D0 h hw]
def It.free:It->Prop|.ref l a b=>124∉cs l/\124∉cs a/\124∉cs b|_=>True
def QfY{l a b:Str}:"ref "++l++" "++a++"|"++b="ref "++(l++(" "++(a++("|"++b)))):=by simp only[XU]
theorem LD{s:Str}{a:Nat}:∀{ps:List Str},a∈cs (Str.join s ps)->a∈cs s\/∃p∈ps,a∈cs p
 |[],h=>absurd h<|by show a∉[];simp|[p],h=>.inr ⟨p,by simp,h⟩|p::q::ps,h=>by
  have h':a∈cs (p++s++Str.join s (q::ps)):=h;rw[Z8,Z8]at h';rcases q_8.mp h' with z|z
  .rcases q_8.mp z with z|z;.exact .inr ⟨p,by simp,z⟩
   .exact .inl z
  .rcases LD z with z|⟨r,hr,z⟩;.exact .inl z
   .exact .inr ⟨r,Qy _ hr,z⟩
theorem ER{s:Str}{a:Nat}:∀{ps:List Str}{p:Str},p∈ps->a∈cs p->a∈cs (Str.join s ps)
 |[q],p,hp,ha=>by rw[q_1.mp hp]at ha;exact ha|q::r::ps,p,hp,ha=>by
  show a∈cs (q++s++Str.join s (r::ps));rw[Z8,Z8];rcases q_7.mp hp with rfl|h;.exact Y2 _<|Y2 _ ha
  .exact Ze _<|ER h ha
theorem E4{s t:Str}(h:s.length=t.length):∀ps:List Str,(Str.join s ps).length=(Str.join t ps).length|[]=>rfl|[p]=>rfl|p::q::ps=>by show(p++s++Str.join s (q::ps)).length=(p++t++Str.join t (q::ps)).length;rw[la,la,la,la,E4 h<|q::ps,h]
def Xm{i j:Int}(h:-2^64<j/\j<2^64):D.mulA (.int i) (.int j)=QA (i*j):=by show D.mul (.int i) (.int j)=_;exact Qdk h
def Vi{i j:Int}(h:-2^64<i/\i<2^64):D.mulA (.int i) (.int j)=QA (i*j):=by show D.mul (.int i) (.int j)=_;exact Qdj h
def Qq{i j:Int}(h:0<j):D.mod (.int i) (.int j)=QA (i%j):=Qdc h
def ZR{i j:Int}(h:0<j/\j<1073741824):D.fdiv (.int i) (.int j)=QA (i/j):=QbE h
noncomputable def iL(xs:List Int):D:=.lst<|xs.map .int
def SV{xs:List Int}{j:Int}(h0:0<=j)(h1:j<xs.length):∃x∈xs,D.ix (iL xs) (.int j)=QA x:=by
 have hj:j.toNat<xs.length:=by omega
 refine⟨xs[j.toNat],getElem_mem hj,?_⟩;show((JD (xs.map D.int).length j).bind λk=>(xs.map D.int)[k]?)=_;unfold JD;rw[if_pos h0,if_pos<|by rw[Qr];exact h1];show(xs.map D.int)[j.toNat]?=_;rw[WG,ZQ hj];rfl
def Dr(x:Int):Prop:=0<=x/\x<2147483629
def MN(ns:List Int){turn:Int}{many:Nat}(ht:0<=turn/\turn<=2000)(hm:many<=1000):∃xs:List Int,SH [.scr ns,.int turn,.int many]=some (iL xs)/\xs.length=many/\∀x∈xs,Dr x:=by
 refine TC (P:=λxs:List Int=>xs.length=many/\∀x∈xs,Dr x) rfl ?_;obtain⟨cells,hc,cp⟩:∃cells:List Int,QG (Qn (eV 0) Qx<|Qk<|Q2 63) (QS<|QT<|eV 1) [some<|.scr ns,QA turn,QA many,none,none,none,none,none]=some (iL cells)/\0<cells.length:=by
  refine⟨Jt ns none (some 63)++[turn],?_,by simp⟩;refine Q0 (x:=.lst<|(Jt ns none<|some 63).map .int) (Yh rfl rfl rfl rfl) (X0 rfl) ?_;have hl:(Jt ns none<|some 63).length<=63:=by unfold Jt;rw[X7];show min (min (Int.toNat 63) _-0) _<=63;omega
  rw[Nn<|by rw[Qr];simp;omega];unfold iL;rw[Jj];rfl
 refine Ji (QP hc rfl)<|Ji (QP rfl rfl) ?_;let R:Nat->Q8->Prop:=λi e=>∃(xs:List Int)(a b c:Option D),e=[some<|.scr ns,QA turn,QA many,some<|iL cells,some<|iL xs,a,b,c]/\xs.length=i/\∀x∈xs,Dr x;have h0:R 0 [some<|.scr ns,QA turn,QA many,some<|iL cells,some<|.lst [],none,none,none]:=⟨[],none,none,none,rfl,rfl,λ_ h=>nomatch h⟩;have step:∀i,i<many->∀e,R i e->∃e',((gS 5 (.int<|0+(i:Int)) e).bind (sQ (QO (QG (JC (JC (QG (eV 5)<|eV 1)<|QG (eV 5)<|eV 1)<|Q2 7919)<|Q2 104729)<|gS 6)<|sQ (QO (Qa (JC (QG (Qa (QW (eV 3)<|Qa (eV 5)<|QD D.len<|eV 3)<|Q2 2147483647)<|eV 6)<|Q2 48271)<|Q2 2147483647)<|gS 7)<|sP 4<|Qa (QG (JC (eV 7)<|eV 7)<|JC (Q2 69621)<|eV 5)<|Q2 2147483629)=some (.nx e')\/(gS 5 (.int<|0+(i:Int)) e).bind (sQ (QO (QG (JC (JC (QG (eV 5)<|eV 1)<|QG (eV 5)<|eV 1)<|Q2 7919)<|Q2 104729)<|gS 6)<|sQ (QO (Qa (JC (QG (Qa (QW (eV 3)<|Qa (eV 5)<|QD D.len<|eV 3)<|Q2 2147483647)<|eV 6)<|Q2 48271)<|Q2 2147483647)<|gS 7)<|sP 4<|Qa (QG (JC (eV 7)<|eV 7)<|JC (Q2 69621)<|eV 5)<|Q2 2147483629)=some (.ct e'))/\R (i+1) e':=by
  rintro i hi e⟨xs,a,b,c,rfl,hl,hx⟩;have hlen:D.len (iL cells)=QA (cells.length:Nat):=by show some (D.int ((cells.map D.int).length:Nat))=_;rw[Qr]
  obtain⟨q,_,hq⟩:=SV (xs:=cells) (j:=(0+(i:Int))%(cells.length:Nat)) (RO _<|by omega)<|RP _ (by omega);have hb:∀y:Int,-2^64<y%2147483647/\y%2147483647<2^64:=λy=>by have:=RO y (b:=2147483647) (by omega);have:=RP y (b:=2147483647) (by omega);omega
  refine⟨_,.inl<|YQ rfl<|st (QP (Q0 (Q0 (Q0 (Q0 rfl rfl rfl) (Q0 rfl rfl rfl)<|Xm<|by omega) rfl<|Xm<|by decide) rfl rfl) rfl)<|st (QP (Q0 (Q0 (Q0 (Q0 (Q0 rfl (Q0 rfl (Qf rfl hlen)<|Qq<|by omega) hq) rfl<|Qq<|by decide) rfl rfl) rfl<|Xm<|by decide) rfl<|Qq<|by decide) rfl)<|Yz rfl (Q0 (Q0 (Q0 rfl rfl<|Xm<|hb _) (Q0 rfl rfl<|Vi<|by decide) rfl) rfl<|Qq<|by decide)<|VQ (xs:=xs.map .int) ?_,?_⟩;.rw[Qr];omega
  .refine⟨xs++[_],_,_,_,by unfold iL;rw[Jj];rfl,by rw[JZ,hl];rfl,λx h=>?_⟩;rcases q_8.mp h with z|z;.exact hx x z
   .rw[q_1.mp z];exact⟨RO _<|by omega,RP _<|by omega⟩
 obtain⟨e',h1,xs,a,b,c,rfl,hl,hx⟩:=Sk many R step _ h0;refine⟨xs,st (e1:=[some<|.scr ns,QA turn,QA many,some<|iL cells,some<|iL xs,a,b,c]) ?_<|ret rfl,hl,hx⟩;unfold Z3;rw[WI (n:=many) rfl<|by omega];exact h1
def Tx(n:Nat)(x:Str):Prop:=x.length=n/\∀c∈cs x,sg c/\c≠32
def E1{x:Str}{j:Int}(hl:x.length<=1000)(h0:0<=j)(h1:j<x.length):∃c∈cs x,D.ix (.str x) (.int j)=some (.str ⟨#[c]⟩):=by
 have hj:j.toNat<x.cps.size:=by show j.toNat<x.length;omega
 refine⟨x.cps[j.toNat],by unfold cs;exact Array.mem_toList_iff.mpr<|Array.getElem_mem hj,?_⟩;show(if x.length<=Qz then(JD x.length j).bind λk=>(x.cps[k]?).map λc=>D.str ⟨#[c]⟩else none)=_;rw[if_pos<|by show _<=16777216;omega];unfold JD;rw[if_pos h0,if_pos h1];show(x.cps[j.toNat]?).map _=_;rw[Lm hj];rfl
def A4{c:Nat}(h:c∈cs "!\"#$&'()*+,-./0123456789:;<=>?@ABCDEFGHIJKLMNOPQRSTUVWXYZ[\\]^_`abcdefghijklmnopqrstuvwxyz{|}~"):sg c/\c≠32:=by
 have:(cs "!\"#$&'()*+,-./0123456789:;<=>?@ABCDEFGHIJKLMNOPQRSTUVWXYZ[\\]^_`abcdefghijklmnopqrstuvwxyz{|}~").all (λc=>decide (32<=c)&&decide (c<=126)&&decide (c≠37)&&decide (c≠32))=true:=by decide+kernel
 have:=q_24.mp this c h;simp only[Ja,decide_eq_true_eq]at this;exact⟨⟨this.1.1.1,this.1.1.2,this.1.2⟩,this.2⟩
def QgX(d:Int){n:Nat}(hn:n<=1000):∃x,Yl [.int d,.int n]=QI x/\Tx n x:=by
 refine TC (dd:=D.str) (P:=Tx n) rfl ?_;obtain⟨AL,hA,lA,cA⟩:∃AL:Str,"!\"#$&'()*+,-./0123456789:;<=>?@ABCDEFGHIJKLMNOPQRSTUVWXYZ[\\]^_`abcdefghijklmnopqrstuvwxyz{|}~"=AL/\AL.length=93/\∀c∈cs AL,sg c/\c≠32:=⟨_,rfl,by decide+kernel,λc hc=>A4 hc⟩;unfold Nx;rw[hA];refine Ji (QP rfl rfl)<|Ji (QP rfl rfl) ?_;let R:Nat->Q8->Prop:=λi e=>∃(d:Int)(x:Str)(v:Option D),e=[QA d,QA n,QI AL,QI x,v]/\Tx i x;have h0:R 0 [QA d,QA n,QI AL,QI "",none]:=⟨d,"",none,rfl,rfl,λc h=>absurd h<|by show c∉[];simp⟩;obtain⟨e',h1,d',x,v,rfl,hx⟩:=Sk (g:=gS 4) (b:=sQ (QO (Qa (QG (QG (JC (eV 0)<|Q2 48271)<|JC (Q2 11)<|eV 4)<|Q2 7)<|Q2 2147483647)<|gS 0)<|QO (QG (eV 3)<|QW (eV 2)<|Qa (eV 0)<|QD D.len<|eV 2)<|gS 3) n R (by
  rintro i hi e⟨d,x,v,rfl,hl,hc⟩;have hlen:D.len (.str AL)=QA 93:=by show(if AL.length<=Qz then some<|D.int AL.length else none)=_;rw[if_pos<|by rw[lA];decide,lA];rfl
  obtain⟨c,hm,hq⟩:=E1 (x:=AL) (j:=(d*48271+11*(0+(i:Int))+7)%2147483647%93) (by omega) (RO _<|by omega) (by rw[lA];exact RP _<|by omega);refine⟨_,.inl<|YQ rfl<|st (QP (Q0 (Q0 (Q0 (Q0 rfl rfl<|Xm<|by decide) (Q0 rfl rfl<|Vi<|by decide) rfl) rfl rfl) rfl<|Qq<|by decide) rfl)<|QP (Q0 rfl (Q0 rfl (Q0 rfl (Qf rfl hlen)<|Qq<|by decide) hq)<|Js ?_) rfl,?_⟩;.show x.length+1<=_;omega
  .refine⟨_,x++⟨#[c]⟩,_,rfl,by rw[la,hl];rfl,λc' h=>?_⟩;rw[Z8]at h;rcases q_8.mp h with z|z;.exact hc c' z
   .rw[q_1.mp z];exact cA c hm) _ h0;refine⟨x,st (e1:=[QA d',QA n,QI AL,QI x,v]) ?_<|ret rfl,hx⟩;unfold Z3;rw[WI (n:=n) rfl<|by omega];exact h1
def Tx.sgn{n:Nat}{x:Str}(h:Tx n x)(hn:n<=100):Sgn x:=⟨λc hc=>(h.2 c hc).1,by rw[h.1];exact hn⟩
def Tx.no{n:Nat}{x:Str}(h:Tx n x):32∉cs x:=λz=>(h.2 32 z).2 rfl
def Tx.ne{n:Nat}{x:Str}(h:Tx n x)(hn:0<n):cs x≠[]:=λz=>by have:=h.1;rw[Jz,z]at this;simp at this;omega
def Tx.wrd{n:Nat}{x:Str}(h:Tx n x)(h0:0<n)(hn:n<=100):Rz x:=⟨h.sgn hn,h.ne h0,h.no⟩
def Tx.rt{n:Nat}{x:Str}(h:Tx n x)(hn:n<=100):RT x:=⟨h.sgn hn,h.no⟩
def W5{xs:List D}{j:Int}(h0:0<=j)(h1:j<xs.length):∃x∈xs,D.ix (.lst xs) (.int j)=some x:=by
 have hj:j.toNat<xs.length:=by omega
 refine⟨xs[j.toNat],getElem_mem hj,?_⟩;show((JD xs.length j).bind λk=>xs[k]?)=_;unfold JD;rw[if_pos h0,if_pos h1];exact ZQ hj
def Jg{i j:Int}(h:0<j):0<=i%j/\i%j<j:=⟨RO _<|by omega,RP _ h⟩
def U6(d:Int){j:Int}(h0:0<=j)(h1:j<=1000):∃x,Yl [.int d,.int j]=QI x/\Tx j.toNat x:=by obtain⟨n,rfl⟩:=Tj h0;exact QgX d<|by omega
def Di(d:Int):∃x,Wu [.int d]=QI x/\Sgn x:=by
 have s0:∀x∈[D.str "",.str "",.str " ",.str "  "],∃y:Str,x=.str y/\(∀c∈cs y,sg c)/\y.length<=2:=λx hx=>by simp only[q_7,WH,or_false]at hx;rcases hx with rfl|rfl|rfl|rfl<;>exact⟨_,rfl,U1<|by decide,by decide⟩
 have h4:=Jg (i:=d) (j:=4) (by decide);have h7:=Jg (i:=d/4) (j:=7) (by decide);have h3:=Jg (i:=d/28) (j:=3) (by decide);obtain⟨x1,m1,e1⟩:=W5 (xs:=[D.str "",.str "",.str " ",.str "  "]) h4.1 h4.2;obtain⟨y1,rfl,g1,l1⟩:=s0 x1 m1;obtain⟨x2,m2,e2⟩:=W5 (xs:=[D.str "",.str "",.str " "]) h3.1 h3.2;obtain⟨y2,rfl,g2,l2⟩:=s0 x2 (by simp only[q_7,WH,or_false]at m2⊢;rcases m2 with h|h|h<;>simp[h]);obtain⟨t,et,ht⟩:=U6 d h7.1 (by omega);have hl:=ht.1;refine⟨y1++t++y2,QR rfl<|st (QP (Q0 rfl (Q0 rfl rfl<|Qq<|by decide) e1) rfl)<|ret<|Q0 (Q0 rfl (Zb rfl (Q0 (Q0 rfl rfl<|ZR<|by decide) rfl<|Qq<|by decide) et)<|Js<|by omega) (Q0 rfl (Q0 (Q0 rfl rfl<|ZR<|by decide) rfl<|Qq<|by decide) e2)<|Js<|by rw[la];omega,Tr (Tr g1 λc hc=>(ht.2 c hc).1) g2,by rw[la,la];omega⟩
def Tx.ttl{n:Nat}{x:Str}(h:Tx n x)(h0:0<n)(hn:n<=100):Ttl x:=⟨h.sgn hn,h.ne h0,λz=>h.no<|List.mem_of_mem_head?<|by rw[z];rfl,λz=>h.no<|List.mem_of_getLast? z⟩
def QgY(d:Int):∃x,Pd [.int d]=QI x/\Ttl x:=by
 have h7:=Jg (i:=d/3) (j:=7) (by decide);have h5:=Jg (i:=d/21) (j:=5) (by decide);obtain⟨t,et,ht⟩:=U6 d (j:=1+d/3%7) (by omega) (by omega);obtain⟨u,eu,hu⟩:=U6 (d/5) (j:=1+d/21%5) (by omega) (by omega);have hl:=ht.1;have ee:=hu.1;have one:=QP (g:=gS 1) (e:=[QA d,none]) (Zb (f:=Yl) (a:=eV 0) (b:=QG (Q2 1)<|Qa (Q4 D.fdiv (eV 0)<|Q2 3)<|Q2 7) rfl (Q0 rfl (Q0 (Q0 rfl rfl<|ZR<|by decide) rfl<|Qq<|by decide) rfl) et) rfl;have e1:(" ":Str).length=1:=rfl;by_cases h3:d%3=0
 .refine⟨t++" "++u,QR rfl<|st one<|st (Qc (Q0 (Q0 rfl rfl<|Qq<|by decide) rfl<|ZM h3)<|QP (Q0 (Q0 rfl rfl<|Js<|by omega) (Zb (Q0 rfl rfl<|ZR<|by decide) (Q0 rfl (Q0 (Q0 rfl rfl<|ZR<|by decide) rfl<|Qq<|by decide) rfl) eu)<|Js<|by rw[la];omega) rfl)<|ret rfl,?_⟩;have tt:=ht.ttl (by omega) (by omega);have uu:=hu.ttl (by omega) (by omega);refine⟨⟨Tr (Tr tt.1.1<|U1<|by decide) uu.1.1,by rw[la,la];omega⟩,?_,?_,?_⟩;.rw[Vr];simp
  .rw[Vr];cases hc:cs t with
   |nil=>exact absurd hc tt.2.1|cons a r=>have:=tt.2.2.1;rw[hc]at this;simpa using this
  .obtain⟨z,hz⟩:∃z,(cs u).getLast?=some z:=⟨_,List.getLast?_eq_some_getLast uu.2.1⟩;have:=uu.2.2.2;rw[hz]at this;rw[Vr,show cs t++32::cs u=cs t++[32]++cs u by simp,List.getLast?_append,hz];exact this
 .exact⟨t,QR rfl<|st one<|st (QE (Q0 (Q0 rfl rfl<|Qq<|by decide) rfl<|JR h3) rfl)<|ret rfl,ht.ttl (by omega)<|by omega⟩
def Qc3:∀i:Nat,i<26->("abcdefghijklmnopqrstuvwxyz":Str).cps[i]?=some (97+i):=by decide+kernel
def LJ{j:Int}(h:0<=j/\j<26):D.ix (.str "abcdefghijklmnopqrstuvwxyz") (.int j)=some (.str ⟨#[97+j.toNat]⟩):=by
 have hl:("abcdefghijklmnopqrstuvwxyz":Str).length=26:=by decide+kernel
 have hc:=Qc3 j.toNat (by omega);generalize("abcdefghijklmnopqrstuvwxyz":Str)=z at*;show(if z.length<=Qz then(JD z.length j).bind λk=>(z.cps[k]?).map λc=>D.str ⟨#[c]⟩else none)=_;rw[if_pos<|by rw[hl];decide,hl];unfold JD;rw[if_pos h.1,if_pos<|show j<((26:Nat):Int)from h.2];show(z.cps[j.toNat]?).map _=_;rw[hc];rfl
def Ab(x:Str):Prop:=∀c∈cs x,97<=c/\c<=122
def Nm{x y:Str}(hx:Ab x)(hy:Ab y):Ab<|x++y:=λc hc=>by
 rw[Z8]at hc;rcases q_8.mp hc with z|z;.exact hx c z
 .exact hy c z
def Iy{x:Str}(h:Ab x)(lo hi:Option Int):Ab (cutS x lo hi)/\(cutS x lo hi).length<=x.length:=by
 refine⟨λc hc=>h c ?_,?_⟩
 .have fP:c∈Jt (cs x) lo hi:=hc;exact mem_of_mem_drop<|mem_of_mem_take fP
 .show(Jt (cs x) lo hi).length<=_;rw[Jz];unfold Jt;rw[X7,X8];omega
def Cu(L:List Str):Wi (L.map .str)=some L:=by induction L with|nil=>rfl|cons x L ih=>show(Wi<|L.map .str).map (x::·)=_;rw[ih];rfl
theorem E2{B:Nat}:∀(L:List Str),(∀x∈L,x.length<=B)->(Str.join "" L).length<=L.length*B|[],_=>Zm _|[x],h=>by have:=h x (by simp);simp only[RM,Nat.one_mul];exact this|x::y::L,h=>by have h1:=h x (by simp);have h2:=E2 (y::L) λz hz=>h z<|Qy _ hz;have e0:("":Str).length=0:=rfl;show(x++""++Str.join "" (y::L)).length<=_;rw[la,la,Jb,add_mul];omega
def QcP(k:Nat){d:Int}(hk:k<=1000)(hd:Dr d):∃x,TF [.int k,.int d]=QI x/\Lab x:=by
 have nR:=Jg (i:=d) (j:=10) (by decide);obtain⟨n,hn⟩:=Tj nR.1;have nl:n<10:=by omega
 let el:Nat->Str:=λj=>⟨#[97+((d/150+(0+(j:Int))*(0+(j:Int)))%26).toNat]⟩;have h9:JX 1 [2,1] (ZH<|Qa (eV 1)<|Q2 10) (gS 0) (JB true) (QW (eV 1)<|Qa (QG (Q4 D.fdiv (eV 2)<|Q2 150)<|JC (eV 0)<|eV 0)<|Q2 26) [QA k,QA d,QI "abcdefghijklmnopqrstuvwxyz",none,none,none]=some (QB<|(List.range n).map el):=by
  rw[UH (λi:Nat=>D.int<|0+(i:Int)) (List.range n) (λe=>∃v,e=[v,QI "abcdefghijklmnopqrstuvwxyz",QA d]) (λ_=>true) (λi=>.str<|el i) (by rw[WI (n:=n) (Q0 rfl rfl<|by rw[Qq<|by decide,hn])<|by omega];rfl) (by rw[Xu];show n<=16777216;omega) ⟨none,rfl⟩<|by rintro i hi e⟨v,rfl⟩;have hi:=List.mem_range.mp hi;exact⟨_,rfl,⟨_,rfl⟩,rfl,λ_=>Q0 rfl (Q0 (Q0 (Q0 rfl rfl<|ZR<|by decide) (Q0 rfl rfl<|Xm<|by omega) rfl) rfl<|Qq<|by decide)<|LJ<|Jg<|by decide⟩,UY];unfold QB;rw[map_map];rfl
 have jI:∀x∈(List.range n).map el,Ab x/\x.length=1:=λx hx=>by
  obtain⟨i,hi,rfl⟩:=q_26.mp hx;refine⟨λc hc=>?_,rfl⟩;have h26:=Jg (i:=d/150+(0+(i:Int))*(0+(i:Int))) (j:=26) (by decide);rw[q_1.mp<|show c∈[97+((d/150+(0+(i:Int))*(0+(i:Int)))%26).toNat]from hc];omega
 have hlen:((List.range n).map el).length=n:=by rw[Qr,Xu]
 generalize(List.range n).map el=L at*;have hj:D.joinS "" (QB L)=QI (Str.join "" L):=by
  show((Wi<|L.map .str).bind λN=>if N.length<=500/\∀y∈N,y.length<=2000 then some<|D.str<|Str.join "" N else none)=_;rw[Cu];show(if L.length<=500/\∀y∈L,y.length<=2000 then _ else none)=_;rw[if_pos ⟨by omega,λy hy=>by rw[(jI y hy).2];decide⟩]
 have aB:Ab<|Str.join "" L:=λc hc=>by
  rcases LD hc with h|⟨p,hp,h⟩;.exact absurd h<|by show c∉[];simp
  .exact(jI p hp).1 c h
 have lB:(Str.join "" L).length<=10:=by
  have:=E2 (B:=1) L λx hx=>by rw[(jI x hx).2];omega
  omega
 generalize Str.join "" L=ae at*;have hl:D.len (.str ae)=QA ae.length:=by show(if ae.length<=Qz then _ else none)=_;rw[if_pos<|by show _<=16777216;omega]
 have kI:=Jg (i:=(k:Int)) (j:=26) (by decide);have lD:=Jg (i:=(k:Int)/26+d) (j:=26) (by decide);have hG:∀(lo hi:Option Int),XY (.str ae) lo hi=QI (cutS ae lo hi):=λlo hi=>if_pos (by show _<=16777216;omega);have ch:∀{j:Int},0<=j/\j<26->Ab ⟨#[97+j.toNat]⟩:=λ{j}h c hc=>by rw[q_1.mp<|show c∈[97+j.toNat]from hc];omega
 obtain⟨a1,b1⟩:=Iy aB none<|some<|d/11%(ae.length+1);obtain⟨a2,b2⟩:=Iy aB (some<|d/11%(ae.length+1)) none;refine⟨_,QR rfl<|st (QP rfl rfl)<|st (QP (Qf h9 hj) rfl)<|st (QP (Q0 (Q0 rfl rfl<|ZR<|by decide) (Q0 (Qf rfl hl) rfl rfl)<|Qq<|by omega) rfl)<|st (QP (Q0 (Q0 rfl (Q0 rfl rfl<|Qq<|by decide)<|LJ kI) (Q0 rfl (Q0 (Q0 (Q0 rfl rfl<|ZR<|by decide) rfl rfl) rfl<|Qq<|by decide)<|LJ lD)<|Js<|by show 1+1<=_;decide) rfl)<|ret<|Q0 (Q0 (Yh rfl rfl (WQ rfl)<|hG _ _) rfl<|Js ?_) (Yh rfl (WQ rfl) rfl<|hG _ _)<|Js ?_,Nm (Nm a1<|Nm (ch kI)<|ch lD) a2,?_,?_⟩;.rw[la];show _+(1+1)<=_;omega
 .rw[la,la];show _+(1+1)+_<=_;omega
 .rw[Z8,Z8,Z8];intro z;simp at z
 .rw[la,la,la];show _+(1+1)+_<=_;omega
noncomputable def Um(d:Int):Str:=(Di d).choose
def Lx(d:Int):Wu [.int d]=QI (Um d)/\Sgn (Um d):=(Di d).choose_spec
def Dj{it:Za}{el:Q6}{e:Q8}{S:D}(n:Nat)(f:Nat->Int)(hn:n<=1000)(hit:it e=some (rD 0 n))(hc:WR 1 [2] e=[none,some S])(he:∀i,i<n->el [QA<|0+(i:Int),some S]=QA (f i)):JX 1 [2] it (gS 0) (JB true) (eK Wu<|QT el) e=some (QB<|(List.range n).map λi=>Um<|f i):=by rw[UH (λi:Nat=>D.int<|0+(i:Int)) (List.range n) (λe=>∃v,e=[v,some S]) (λ_=>true) (λi=>.str<|Um<|f i) (by rw[hit];rfl) (by rw[Xu];show n<=16777216;omega) ⟨none,hc⟩<|by rintro i hi e⟨v,rfl⟩;exact⟨_,rfl,⟨_,rfl⟩,rfl,λ_=>Qs (he i<|List.mem_range.mp hi) (Lx _).1⟩,UY];unfold QB;rw[map_map];rfl
def JH(a b c d:Int):D:=iL [a,b,c,d]
def Qcv(a b c d:Int):D.ix (JH a b c d) (.int 0)=QA a:=rfl
def Vd(a b c d:Int):D.ix (JH a b c d) (.int 1)=QA b:=rfl
def Yo(a b c d:Int):D.ix (JH a b c d) (.int 2)=QA c:=rfl
def Wy(a b c d:Int):D.ix (JH a b c d) (.int 3)=QA d:=rfl
def DE:D.pow (.int 10) (.int 38)=QA (10^38):=Qfz ⟨by decide,by decide,by decide⟩
noncomputable def Bo.np:Bo->Prop|.para _=>False|_=>True
def AK{kd:Int}{l:Str}{a b c d:Int}(hl:BLab l)(hk:0<=kd/\kd<4)(hb:Dr b)(hc:Dr c)(hd:Dr d):∃B:Bo,UT [.int kd,.str l,JH a b c d]=some B.d/\B.ok/\B.np:=by
 unfold Dr at hb hc hd;obtain⟨t,et,ht⟩:=QgY d;by_cases k0:kd=0;.subst k0;exact⟨.chap t l,QR rfl<|Qt<|Qc (Q0 rfl rfl<|ZM rfl)<|ret<|VN rfl (Qs (Q0 rfl rfl<|Wy a b c d) et) rfl,⟨ht,hl⟩,trivial⟩
 by_cases k1:kd=1
 .subst k1;have c4:=Jg (i:=c) (j:=4) (by decide);have lE:=Jg (i:=c/4) (j:=4) (by decide);obtain⟨x,hx,ex⟩:=W5 (xs:=[D.int<|c%4,.int<|c%4,.int c,.int<|10^38+d]) lE.1 lE.2;obtain⟨k,rfl,kb⟩:∃k:Nat,x=.int k/\k<10^60:=by
   simp only[q_7,WH,or_false]at hx;rcases hx with rfl|rfl|rfl|rfl;.exact⟨(c%4).toNat,by rw[Xx c4.1],by omega⟩
   .exact⟨(c%4).toNat,by rw[Xx c4.1],by omega⟩
   .exact⟨c.toNat,by rw[Xx hc.1],by omega⟩
   .exact⟨(10^38+d).toNat,by rw[Xx<|by omega],by omega⟩
  refine⟨.head t k l,QR rfl<|st (QE (Q0 rfl rfl<|JR<|by decide) rfl)<|Qt<|Qc (Q0 rfl rfl<|ZM rfl)<|st (QP (Q0 (EL (Q0 (Q0 rfl rfl<|Yo a b c d) rfl<|Qq<|by decide) (Q0 (Q0 rfl rfl<|Yo a b c d) rfl<|Qq<|by decide) (Q0 rfl rfl<|Yo a b c d)<|Q0 (Q0 rfl rfl DE) (Q0 rfl rfl<|Wy a b c d) rfl) (Q0 (Q0 (Q0 rfl rfl<|Yo a b c d) rfl<|ZR<|by decide) rfl<|Qq<|by decide) ex) rfl)<|ret<|U8 rfl (Qs (Q0 rfl rfl<|Wy a b c d) et) rfl rfl,⟨ht,kb,hl⟩,trivial⟩
 by_cases k2:kd=2
 .subst k2;have c4:=Jg (i:=c) (j:=4) (by decide);have c45:=Jg (i:=c/64) (j:=45) (by decide);have fin:∀n:Nat,0<n->n<=50->QK (Qe<|lC (Q1 "table")<|lC (JX 1 [2] (ZH<|eV 4) (gS 0) (JB true)<|eK Wu<|QT<|QG (Q9 1 3)<|JC (JC (Q2 977)<|eV 0)<|eV 0)<|QT<|eV 1) [QA 2,QI l,some<|JH a b c d,none,QA n,none,none]=some (.rt (Bo.tab ((List.range n).map λi:Nat=>Um<|d+977*(0+(i:Int))*(0+(i:Int))) l).d)/\(Bo.tab ((List.range n).map λi:Nat=>Um<|d+977*(0+(i:Int))*(0+(i:Int))) l).ok:=λn h0 hn=>by
   refine⟨ret<|VN rfl (Dj (S:=JH a b c d) n _ (by omega) (WI rfl<|by omega) rfl λi hi=>Q0 (Q0 rfl rfl<|Wy a b c d) (Q0 (Q0 rfl rfl<|Vi<|by decide) rfl<|Xm<|by omega) rfl) rfl,?_,?_,?_,hl⟩;.intro r hr;obtain⟨i,_,rfl⟩:=q_26.mp hr;exact(Lx _).2
   .intro z;have:=congrArg List.length z;simp at this;omega
   .rw[Qr,Xu];omega
  have pre:∀{r:Option Fl},sQ (QM (QF (Qa (Q4 D.fdiv (Q9 2 2)<|Q2 4)<|Q2 16)<|Q2 0) (QO (QG (Q2 5)<|Qa (Q4 D.fdiv (Q9 2 2)<|Q2 64)<|Q2 45)<|gS 4) QU) (QK<|Qe<|lC (Q1 "table")<|lC (JX 1 [2] (ZH<|eV 4) (gS 0) (JB true)<|eK Wu<|QT<|QG (Q9 1 3)<|JC (JC (Q2 977)<|eV 0)<|eV 0)<|QT<|eV 1) [QA 2,QI l,some<|JH a b c d,none,QA<|1+c%4,none,none]=r->∀B:Bo,r=some (.rt B.d)->UT [.int 2,.str l,JH a b c d]=some B.d:=λ{r}h B hr=>by refine QR rfl<|st (QE (Q0 rfl rfl<|JR<|by decide) rfl)<|st (QE (Q0 rfl rfl<|JR<|by decide) rfl)<|Qt<|Qc (Q0 rfl rfl<|ZM rfl)<|st (QP (Q0 rfl (Q0 (Q0 rfl rfl<|Yo a b c d) rfl<|Qq<|by decide) rfl) rfl)<|h.trans hr
  by_cases kZ:c/4%16=0
  .obtain⟨f1,f2⟩:=fin (5+c/64%45).toNat (by omega) (by omega);rw[Xx<|by omega]at f1;exact⟨_,pre (st (Qc (Q0 (Q0 (Q0 (Q0 rfl rfl<|Yo a b c d) rfl<|ZR<|by decide) rfl<|Qq<|by decide) rfl<|ZM kZ)<|QP (Q0 rfl (Q0 (Q0 (Q0 rfl rfl<|Yo a b c d) rfl<|ZR<|by decide) rfl<|Qq<|by decide) rfl) rfl) f1) _ rfl,f2,trivial⟩
  .obtain⟨f1,f2⟩:=fin (1+c%4).toNat (by omega) (by omega);rw[Xx<|by omega]at f1;exact⟨_,pre (st (QE (Q0 (Q0 (Q0 (Q0 rfl rfl<|Yo a b c d) rfl<|ZR<|by decide) rfl<|Qq<|by decide) rfl<|JR kZ) rfl) f1) _ rfl,f2,trivial⟩
 .have k3:kd=3:=by omega
  subst k3;have c4:=Jg (i:=c) (j:=4) (by decide);have d12:=Jg (i:=d) (j:=12) (by decide);obtain⟨x,hx,ex⟩:=W5 (xs:=[D.int 5,.int 5,.int 5,.int 13]) c4.1 c4.2;obtain⟨q,rfl,q0,q1⟩:∃q:Int,x=.int q/\0<q/\q<=13:=by
   simp only[q_7,WH,or_false]at hx;rcases hx with rfl|rfl|rfl|rfl<;>exact⟨_,rfl,by decide,by decide⟩
  have cq:=Jg (i:=c/4) (j:=q) q0;have fin:∀(low:Int)(v:Option D),0<=low->low<=10^40->QK (Qe<|Jk (Q1 "plates") (Q4 D.max2 (Q2 1)<|DH (eV 5)<|Qa (Q9 2 3)<|Q2 12)<|eV 1) [QA 3,QI l,some<|JH a b c d,none,none,QA low,v]=some (.rt (Bo.plat (if low-d%12>1 then low-d%12 else 1).toNat l).d)/\(Bo.plat (if low-d%12>1 then low-d%12 else 1).toNat l).ok:=λlow v h0 h1=>by
   refine⟨ret<|VN rfl (Q0 rfl (Q0 rfl (Q0 (Q0 rfl rfl<|Wy a b c d) rfl<|Qq<|by decide) rfl) ?_) rfl,?_,?_,hl⟩;.show some (D.int<|if low-d%12>1 then low-d%12 else 1)=_;rw[Xx<|by split<;>omega]
   .split<;>omega
   .split<;>omega
  let R:Nat->Q8->Prop:=λi e=>∃(y:Int)(v:Option D),e=[QA 3,QI l,some<|JH a b c d,none,none,QA y,v]/\0<=y/\y<=10^i;obtain⟨e',h1,y,v,rfl,y0,y1⟩:=Sk (g:=gS 6) (b:=QO (JC (eV 5)<|Q2 10)<|gS 5) (c/4%q).toNat R (by rintro i hi e⟨y,v,rfl,y0,y1⟩;refine⟨_,.inl<|YQ rfl<|QP (Q0 rfl rfl<|Xm<|by decide) rfl,_,_,rfl,by omega,?_⟩;rw[Int.pow_succ];omega) [QA 3,QI l,some<|JH a b c d,none,none,QA 1,none] ⟨1,none,rfl,by decide,by decide⟩;have yb:y<=10^40:=Int.le_trans y1 (by
   have:(c/4%q).toNat<=40:=by omega
   exact_mod_cast Nat.pow_le_pow_right (by decide) this);have hit:ZH (Qa (Q4 D.fdiv (Q9 2 2)<|Q2 4)<|Q4 D.ix (QS<|Jw (Q2 5) (Q2 5) (Q2 5)<|Q2 13)<|Qa (Q9 2 2)<|Q2 4) [QA 3,QI l,some<|JH a b c d,none,none,QA 1,none]=some (rD 0 (c/4%q).toNat):=WI (Q0 (Q0 (Q0 rfl rfl<|Yo a b c d) rfl<|ZR<|by decide) (Q0 rfl (Q0 (Q0 rfl rfl<|Yo a b c d) rfl<|Qq<|by decide) ex)<|by rw[Qq q0,Xx cq.1]) (by omega);have hf:∀{k:QJ}{r:Option Fl},k [QA 3,QI l,some<|JH a b c d,none,none,QA y,v]=r->sQ (Z3 (ZH<|Qa (Q4 D.fdiv (Q9 2 2)<|Q2 4)<|Q4 D.ix (QS<|Jw (Q2 5) (Q2 5) (Q2 5)<|Q2 13)<|Qa (Q9 2 2)<|Q2 4) (gS 6)<|QO (JC (eV 5)<|Q2 10)<|gS 5) k [QA 3,QI l,some<|JH a b c d,none,none,QA 1,none]=r:=λ{k r}hk=>st (by unfold Z3;rw[hit];exact h1) hk;by_cases h8:b/2%8=0;.obtain⟨f1,f2⟩:=fin (10^38+c) v (by omega) (by omega);exact⟨_,QR rfl<|st (QE (Q0 rfl rfl<|JR<|by decide) rfl)<|st (QE (Q0 rfl rfl<|JR<|by decide) rfl)<|st (QE (Q0 rfl rfl<|JR<|by decide) rfl)<|st (QP rfl rfl)<|hf<|st (Qc (Q0 (Q0 (Q0 (Q0 rfl rfl<|Vd a b c d) rfl<|ZR<|by decide) rfl<|Qq<|by decide) rfl<|ZM h8)<|QP (Q0 (Q0 rfl rfl DE) (Q0 rfl rfl<|Yo a b c d) rfl) rfl) f1,f2,trivial⟩
  .obtain⟨f1,f2⟩:=fin y v y0 yb;exact⟨_,QR rfl<|st (QE (Q0 rfl rfl<|JR<|by decide) rfl)<|st (QE (Q0 rfl rfl<|JR<|by decide) rfl)<|st (QE (Q0 rfl rfl<|JR<|by decide) rfl)<|st (QP rfl rfl)<|hf<|st (QE (Q0 (Q0 (Q0 (Q0 rfl rfl<|Vd a b c d) rfl<|ZR<|by decide) rfl<|Qq<|by decide) rfl<|JR h8) rfl) f1,f2,trivial⟩
inductive RI where|it(i:It)|rf(n:Int)(a b:Str)
def RI.d:RI->D|.it i=>i.d|.rf n a b=>.tup [.str "ref",.int n,.str a,.str b]
noncomputable def It.nr:It->Prop|.ref _ _ _=>False|_=>True
def RI.ok:RI->Prop|.it i=>i.ok/\i.nr|.rf n a b=>0<=n/\RT a/\RT b/\a.length<=90
def SO{x y:Int}(h:¬y<x):D.gt (.int x) (.int y)=QL false:=by show some (D.bl<|decide<|y<x)=_;rw[J0 h]
def SQ{x y:Int}(h:y<x):D.gt (.int x) (.int y)=QL true:=by show some (D.bl<|decide<|y<x)=_;rw[J2 h]
def Qc6{a b c d f:Q6}{e:Q8}{x y z u w:D}(ha:a e=some x)(hb:b e=some y)(hc:c e=some z)(hd:d e=some u)(hf:f e=some w):QS (lC a<|lC b<|lC c<|lC d<|lC f lN) e=some (.lst [x,y,z,u,w]):=by unfold QS lC lN;rw[ha,hb,hc,hd,hf];rfl
def Qcq{kd:Int}{l:Str}{a b c d:Int}(hl:kd=11->Lab l)(hk:4<kd/\kd<13)(hb:Dr b)(hc:Dr c)(hd:Dr d):∃I:RI,SI [.int kd,.str l,JH a b c d]=some I.d/\I.ok:=by
 unfold Dr at hb hc hd;by_cases iB:kd=11;.subst iB;exact⟨.it<|.mark l,QR rfl<|Qt<|Qc (Q0 rfl rfl<|ZM rfl)<|ret<|YM rfl rfl,hl rfl,trivial⟩
 by_cases gA:kd=12
 .subst gA;have b5:=Jg (i:=b) (j:=5) (by decide);have b3:=Jg (i:=b) (j:=3) (by decide);obtain⟨t,et,ht⟩:=U6 (3+b%5) (j:=1+b%3) (by omega) (by omega);exact⟨.it<|.key t,QR rfl<|st (QE (Q0 rfl rfl<|JR<|by decide) rfl)<|Qt<|Qc (Q0 rfl rfl<|ZM rfl)<|ret<|YM rfl<|Zb (Q0 rfl (Q0 (Q0 rfl rfl<|Vd a b c d) rfl<|Qq<|by decide) rfl) (Q0 rfl (Q0 (Q0 rfl rfl<|Vd a b c d) rfl<|Qq<|by decide) rfl) et,ht.wrd (by omega)<|by omega,trivial⟩
 by_cases k8:8<kd
 .have c9:=Jg (i:=c/9) (j:=4) (by decide);have d9:=Jg (i:=d/9) (j:=4) (by decide);obtain⟨t,et,ht⟩:=U6 c (j:=c/9%4) (by omega) (by omega);obtain⟨u,eu,hu⟩:=U6 d (j:=d/9%4) (by omega) (by omega);exact⟨.rf b t u,QR rfl<|st (QE (Q0 rfl rfl<|JR iB) rfl)<|st (QE (Q0 rfl rfl<|JR gA) rfl)<|Qt<|Qc (Q0 rfl rfl<|SQ k8)<|ret<|U8 rfl (Q0 rfl rfl<|Vd a b c d) (Zb (Q0 rfl rfl<|Yo a b c d) (Q0 (Q0 (Q0 rfl rfl<|Yo a b c d) rfl<|ZR<|by decide) rfl<|Qq<|by decide) et)<|Zb (Q0 rfl rfl<|Wy a b c d) (Q0 (Q0 (Q0 rfl rfl<|Wy a b c d) rfl<|ZR<|by decide) rfl<|Qq<|by decide) eu,hb.1,ht.rt<|by omega,hu.rt<|by omega,by have:=ht.1;omega⟩
 .have d5:=Jg (i:=d) (j:=5) (by decide);obtain⟨x,hx,ex⟩:=W5 (xs:=[D.int 0,.int 0,.int 0,.int 1,.int 2]) d5.1 d5.2;obtain⟨n,rfl,nb⟩:∃n:Nat,x=.int n/\n<=2:=by
   simp only[q_7,WH,or_false]at hx;rcases hx with rfl|rfl|rfl|rfl|rfl;.exact⟨0,rfl,by omega⟩
   .exact⟨0,rfl,by omega⟩
   .exact⟨0,rfl,by omega⟩
   .exact⟨1,rfl,by omega⟩
   .exact⟨2,rfl,by omega⟩
  let ns:List Str:=(List.range n).map λi:Nat=>Um<|d+977*(0+(i:Int));have fin:∀m:Int,0<m->m<=100->∃w,Rz w/\sQ (QO (JX 1 [2] (ZH<|Q4 D.ix (QS<|lC (Q2 0)<|Jw (Q2 0) (Q2 0) (Q2 1)<|Q2 2)<|Qa (Q9 2 3)<|Q2 5) (gS 0) (JB true)<|eK Wu<|QT<|QG (Q9 1 3)<|JC (Q2 977)<|eV 0)<|gS 4) (QK<|Qe<|Jk (Q1 "word") (eK Yl<|J3 (Q9 2 2)<|eV 3)<|eV 4) [QA kd,QI l,some<|JH a b c d,QA m,none]=some (.rt (It.word w ns).d):=λm m0 m1=>by obtain⟨w,ew,hw⟩:=U6 c (j:=m) (by omega) (by omega);refine⟨w,hw.wrd (by omega)<|by omega,st (QP (Dj (S:=JH a b c d) n (λi=>d+977*(0+(i:Int))) (by omega) (WI (Q0 (Qc6 rfl rfl rfl rfl rfl) (Q0 (Q0 rfl rfl<|Wy a b c d) rfl<|Qq<|by decide) ex)<|by omega) rfl λi hi=>Q0 (Q0 rfl rfl<|Wy a b c d) (Q0 rfl rfl<|Vi<|by decide) rfl) rfl)<|ret<|VN rfl (Zb (Q0 rfl rfl<|Yo a b c d) rfl ew) rfl⟩
  have iq:(∀r∈ns,Sgn r)/\ns.length<=2:=by
   refine⟨λr hr=>?_,by show((List.range n).map _).length<=2;rw[Qr,Xu];omega⟩;obtain⟨i,_,rfl⟩:=q_26.mp hr;exact(Lx _).2
  have b9:=Jg (i:=b) (j:=9) (by decide);have b70:=Jg (i:=b/288) (j:=70) (by decide);by_cases kX:b/9%32=0
  .obtain⟨w,hw,f1⟩:=fin (10+b/288%70) (by omega) (by omega);exact⟨.it<|.word w ns,QR rfl<|st (QE (Q0 rfl rfl<|JR iB) rfl)<|st (QE (Q0 rfl rfl<|JR gA) rfl)<|st (QE (Q0 rfl rfl<|SO k8) rfl)<|st (QP (Q0 rfl (Q0 (Q0 rfl rfl<|Vd a b c d) rfl<|Qq<|by decide) rfl) rfl)<|st (Qc (Q0 (Q0 (Q0 (Q0 rfl rfl<|Vd a b c d) rfl<|ZR<|by decide) rfl<|Qq<|by decide) rfl<|ZM kX)<|QP (Q0 rfl (Q0 (Q0 (Q0 rfl rfl<|Vd a b c d) rfl<|ZR<|by decide) rfl<|Qq<|by decide) rfl) rfl) f1,⟨hw,iq.1,iq.2⟩,trivial⟩
  .obtain⟨w,hw,f1⟩:=fin (1+b%9) (by omega) (by omega);exact⟨.it<|.word w ns,QR rfl<|st (QE (Q0 rfl rfl<|JR iB) rfl)<|st (QE (Q0 rfl rfl<|JR gA) rfl)<|st (QE (Q0 rfl rfl<|SO k8) rfl)<|st (QP (Q0 rfl (Q0 (Q0 rfl rfl<|Vd a b c d) rfl<|Qq<|by decide) rfl) rfl)<|st (QE (Q0 (Q0 (Q0 (Q0 rfl rfl<|Vd a b c d) rfl<|ZR<|by decide) rfl<|Qq<|by decide) rfl<|JR kX) rfl) f1,⟨hw,iq.1,iq.2⟩,trivial⟩
inductive PB where|bo(b:Bo)|pa(is:List RI)
def PB.d:PB->D|.bo b=>b.d|.pa is=>.tup [.str "para",.lst<|is.map RI.d]
def PB.bk:PB->Wd.Bk|.bo b=>.pl b.d|.pa is=>.pa<|is.map λi=>.pl i.d
def PB.ok:PB->Prop|.bo b=>b.ok/\b.np|.pa is=>(∀i∈is,i.ok)/\is.length<=90
def Qfa(p:PB):Jx p.bk=p.d:=by cases p with|bo b=>rfl|pa is=>show D.tup [.str "para",.lst<|(is.map λi=>Im.pl i.d).map YA]=_;rw[map_map];rfl
def Qf5{labs:List Str}(hL:∀x∈labs,Lab x)(hn:labs.length<=1000){r:RI}(h:r.ok):∃i:It,i.ok/\∀(T dr:Option D)(l:List D)(v:Option D),l.length+1<=2000000->QM (QH (QF (Q9 4 0)<|Q1 "ref")<|Q4 D.gt (QD D.len<|eV 1)<|Q2 0) (sP 3<|Qe<|Jw (Q1 "ref") (QW (eV 1)<|Qa (Q9 4 1)<|QD D.len<|eV 1) (Q9 4 2)<|Q9 4 3) (QM (QF (Q9 4 0)<|Q1 "ref") (sP 3<|Qe<|Jk (Q1 "word") (QG (Q1 "of")<|Q9 4 2)<|QS lN)<|sP 3<|eV 4) [T,some<|QB labs,dr,JJ l,some r.d]=some (.nx [T,some<|QB labs,dr,JJ<|l++[i.d],some r.d]):=by
 have hlen:D.len (QB labs)=QA (labs.length:Nat):=by show some (D.int ((labs.map D.str).length:Nat))=_;rw[Qr]
 cases r with
 |it i=>
  obtain⟨ok,nr⟩:=h;refine⟨i,ok,λT dr l v hl=>?_⟩;cases i with
  |ref a b c=>exact nr.elim|word x ns=>exact QE (JT<|kF rfl)<|QE (kF rfl)<|Yz rfl rfl<|VQ hl|mark x=>exact QE (JT<|kF rfl)<|QE (kF rfl)<|Yz rfl rfl<|VQ hl|key x=>exact QE (JT<|kF rfl)<|QE (kF rfl)<|Yz rfl rfl<|VQ hl
 |rf n a b=>
  obtain⟨n0,ha,hb,al⟩:=h;by_cases he:labs=[]
  .subst he;refine⟨.word ("of"++a) [],⟨⟨⟨Tr (U1<|by decide) ha.1.1,by rw[la];show 2+_<=_;omega⟩,by rw[Z8];intro z;simp at z;exact absurd z.1<|by decide,by rw[Z8];intro z;rcases q_8.mp z with z|z;exact absurd z (by decide);exact ha.2 z⟩,λ_ h=>(by cases h),Zm _⟩,λT dr l v hl=>?_⟩;exact QE (JE (kT rfl)<|Q0 (Qf rfl rfl) rfl rfl)<|Qc (kT rfl)<|Yz rfl (VN rfl (Q0 rfl (Q0 rfl rfl rfl)<|Js<|by show 2+_<=_;omega) rfl)<|VQ hl
  .have hp:0<labs.length:=q_40.mpr he;have m:=Jg (i:=n) (j:=(labs.length:Nat)) (by omega);obtain⟨x,hx,ex⟩:=W5 (xs:=labs.map D.str) (j:=n%(labs.length:Nat)) m.1 (by rw[Qr];exact m.2);obtain⟨y,hy,rfl⟩:=q_26.mp hx;exact⟨.ref y a b,⟨hL y hy,ha,hb⟩,λT dr l v hl=>Qc (JE (kT rfl)<|Q0 (Qf rfl hlen) rfl<|SQ<|by omega)<|Yz rfl (U8 rfl (Q0 rfl (Q0 (Q0 rfl rfl rfl) (Qf rfl hlen)<|Qq<|by omega) ex) (Q0 rfl rfl rfl)<|Q0 rfl rfl rfl)<|VQ hl⟩
def Pk(k a b:Str):D.inO (.str k) (.tup [.str a,.str b])=QL (decide (a=k)||decide (b=k)):=by show(if Zq (.str k)=true/\[D.str a,D.str b].all Zq=true then some<|D.bl<|inD (.str k) [.str a,.str b]else none)=_;rw[if_pos ⟨rfl,rfl⟩];unfold inD;unfold inD;unfold inD;rw[Xc,Xc,Bool.or_false];congr 2;cases decide<|a=k<;>cases decide<|b=k<;>rfl
def S9:QJ:=QM (QH (QF (Q9 4 0)<|Q1 "ref")<|Q4 D.gt (QD D.len<|eV 1)<|Q2 0) (sP 3<|Qe<|Jw (Q1 "ref") (QW (eV 1)<|Qa (Q9 4 1)<|QD D.len<|eV 1) (Q9 4 2)<|Q9 4 3)<|QM (QF (Q9 4 0)<|Q1 "ref") (sP 3<|Qe<|Jk (Q1 "word") (QG (Q1 "of")<|Q9 4 2)<|QS lN)<|sP 3<|eV 4
theorem Gf{labs:List Str}(hL:∀x∈labs,Lab x)(hn:labs.length<=1000){T dr:Option D}:∀(is:List RI)(l:List D)(v:Option D),(∀r∈is,r.ok)->l.length+is.length<=1000000->∃js:List It,(∀j∈js,j.ok)/\js.length=is.length/\∃v',Zz (gS 4) S9 (is.map RI.d) [T,some<|QB labs,dr,JJ l,v]=some (.nx [T,some<|QB labs,dr,JJ<|l++js.map It.d,v'])
 |[],l,v,_,_=>⟨[],λ_ h=>(by cases h),rfl,v,by rw[show l++List.map It.d []=l from Yv l];rfl⟩|r::is,l,v,h,hl=>by
  rw[Jb]at hl;obtain⟨i,mn,hi⟩:=Qf5 hL hn<|h r JY;obtain⟨js,ok,jl,v',hv⟩:=Gf hL hn (T:=T) (dr:=dr) is (l++[i.d]) (some r.d) (λx hx=>h x<|Qy _ hx) (by rw[JZ];simp;omega);refine⟨i::js,λj hj=>?_,by rw[Jb,Jb,jl],v',?_⟩
  .rcases q_7.mp hj with rfl|hj;.exact mn
   .exact ok j hj
  .show YN (S9 [T,some<|QB labs,dr,JJ l,some r.d]) _=_;rw[show S9 [T,some<|QB labs,dr,JJ l,some r.d]=_ from hi T dr l v<|by omega];show Zz (gS 4) S9 (is.map RI.d) [T,some<|QB labs,dr,JJ<|l++[i.d],some r.d]=_;rw[hv,YK,Zw];rfl
def nk{i:Nat}{k t:Str}{ds:List D}{e:Q8}(he:eV i e=some (.tup<|.str k::ds)):JQ (Z6 (eV i) 0) (eC<|.str t) e=QL (!decide (k=t)):=by refine Q0 (x:=.str k) (Q0 he rfl ?_) rfl<|Xn k t;show((JD (ds.length+1) 0).bind λj=>(.str k::ds)[j]?)=_;unfold JD;rw[if_pos<|by omega,if_pos<|by omega];rfl
noncomputable def It.k:It->Str|.word _ _=>"word"|.ref _ _ _=>"ref"|.mark _=>"mark"|.key _=>"key"
def Fs(i:It):D.ix i.d (.int 0)=QI i.k:=by cases i<;>rfl
def Ak{labs:List Str}(hL:∀x∈labs,Lab x)(hn:labs.length<=1000){p:PB}(h:p.ok){dr:Int}(hd:Dr dr):∃b:Bo,SG [p.d,QB labs,.int dr]=some b.d/\b.ok:=by cases p with
 |bo b=>
  refine⟨b,?_,h.1⟩;have np:=h.2;cases b with
  |para is=>exact np.elim|chap t l=>exact QR rfl<|Qt<|Qc (by rw[nk rfl];rfl)<|ret rfl|head t k l=>exact QR rfl<|Qt<|Qc (by rw[nk rfl];rfl)<|ret rfl|tab rs l=>exact QR rfl<|Qt<|Qc (by rw[nk rfl];rfl)<|ret rfl|plat n l=>exact QR rfl<|Qt<|Qc (by rw[nk rfl];rfl)<|ret rfl
 |pa is=>
  obtain⟨hi,il⟩:=h;obtain⟨js,ok,jl,v',hv⟩:=Gf hL hn (T:=some (PB.pa is).d) (dr:=QA dr) is [] none hi (by simp;omega);rw[nil_append]at hv;have hf:Z3 (Zc<|Q9 0 1) (gS 4) S9 [some (PB.pa is).d,some<|QB labs,QA dr,some<|.lst [],none]=some (.nx [some (PB.pa is).d,some<|QB labs,QA dr,JJ<|js.map It.d,v']):=hv;have d6:=Jg (i:=dr) (j:=6) (by decide);obtain⟨t,et,ht⟩:=U6 dr (j:=1+dr%6) (by omega) (by omega);have hlen:D.len (.lst<|js.map It.d)=QA (js.length:Nat):=by show some (D.int ((js.map It.d).length:Nat))=_;rw[Qr]
  have pre:∀(ks:List It)(w:Option D),QM (QH (Q4 D.gt (QD D.len<|eV 3)<|Q2 0)<|Q4 D.inO (Z6 (QW (eV 3)<|QD D.neg<|Q2 1) 0)<|Qe<|J3 (Q1 "mark")<|Q1 "key") (sP 3<|Qe<|Jk (Q1 "word") (eK Yl<|J3 (eV 2)<|QG (Q2 1)<|Qa (eV 2)<|Q2 6)<|QS lN) QU [some (PB.pa is).d,some<|QB labs,QA dr,JJ<|js.map It.d,v']=some (.nx [some (PB.pa is).d,some<|QB labs,QA dr,JJ<|ks.map It.d,v'])->SG [(PB.pa is).d,QB labs,.int dr]=some (Bo.para ks).d:=λks w hw=>QR rfl<|st (QE (by rw[nk rfl];rfl) rfl)<|st (QP rfl rfl)<|st hf<|st hw<|ret<|YM rfl rfl;have okj:js.length<=90:=by omega
  rcases Xv js with rfl|⟨js0,j,e⟩;.exact⟨.para [],pre [] none<|QE (JT<|Q0 (Qf rfl rfl) rfl rfl) rfl,λ_ h=>(by cases h),by simp⟩
  .rw[Xw]at e;have hj:∀e',eV 3 e'=JJ (js.map It.d)->Q4 D.inO (Z6 (QW (eV 3)<|QD D.neg<|Q2 1) 0) (Qe<|J3 (Q1 "mark")<|Q1 "key") e'=QL (decide ("mark"=j.k)||decide ("key"=j.k)):=λe' he=>by refine Q0 (Q0 (Q0 he (Qf rfl rfl)<|show D.ix (.lst<|js.map It.d) (.int<|-1)=some j.d from ?_) rfl<|Fs j) (YM rfl rfl)<|Pk _ _ _;rw[e,Jj];exact Pq _ _
   have hg:∀e',eV 3 e'=JJ (js.map It.d)->Q4 D.gt (QD D.len<|eV 3) (Q2 0) e'=QL true:=λe' he=>Q0 (Qf he hlen) rfl<|SQ (by rw[e];first|(simp;done)|(simp;omega));cases hq:decide (("mark":Str)=j.k)||decide (("key":Str)=j.k)with|false=>exact⟨.para js,pre js none<|QE (JE (hg _ rfl)<|by rw[hj _ rfl,hq]) rfl,ok,by omega⟩|true=>
    refine⟨.para<|js++[.word t []],pre (js++[.word t []]) none<|Qc (JE (hg _ rfl)<|by rw[hj _ rfl,hq]) ?_,λx hx=>?_,by rw[JZ];simp;omega⟩;.rw[Jj];exact Yz rfl (VN rfl (Zb rfl (Q0 rfl (Q0 rfl rfl<|Qq<|by decide) rfl) et) rfl)<|VQ<|by rw[Qr];omega
    .rcases q_8.mp hx with z|z;.exact ok x z
     .rw[q_1.mp z];exact⟨ht.wrd (by omega)<|by omega,λ_ h=>(by cases h),Zm _⟩
theorem M7{α β:Type}{g:JW}{el:Q6}(d:α->D)(dd:β->D)(P:β->Prop)(R:Q8->Prop):∀(xs:List α),(∀a∈xs,∀e,R e->∃e' b,g (d a) e=some e'/\R e'/\el e'=some (dd b)/\P b)->∀e,R e->∃bs:List β,Y8 g (JB true) el (xs.map d) e=some (bs.map dd)/\bs.length=xs.length/\∀b∈bs,P b
 |[],_,e,h=>⟨[],rfl,rfl,λ_ h=>by cases h⟩|a::xs,hb,e,h=>by
  obtain⟨e1,b,h1,r1,h2,h3⟩:=hb a JY e h;obtain⟨bs,h4,h5,h6⟩:=M7 d dd P R xs (λx hx=>hb x<|Qy _ hx) e1 r1;refine⟨b::bs,?_,by rw[Jb,Jb,h5],λx hx=>?_⟩
  .show(g (d a) e).bind (λe1=>Zt (JB true e1) ((el e1).bind λx=>(Y8 g (JB true) el (xs.map d) e1).map λr=>x::r)<|Y8 g (JB true) el (xs.map d) e1)=_;rw[h1];show(el e1).bind _=_;rw[h2];show(Y8 g (JB true) el (xs.map d) e1).map _=_;rw[h4];rfl
  .rcases q_7.mp hx with rfl|hx;.exact h3
   .exact h6 x hx
def bS{μ:Type}{a b:Z7 μ}{e e1:Q8}{m m1:μ}{r:Option<|Q8×μ}(h:a e m=some (e1,m1))(hk:b e1 m1=r):Zn a b e m=r:=by unfold Zn;rw[h];exact hk
def bO{μ:Type}{s:QJ}{e e':Q8}{m:μ}(h:s e=some (.nx e'))(hl:e.length<=1000)(ee:e'.length<=1000):V3 s e m=some (e',m):=by unfold V3;rw[h];exact if_pos ⟨hl,ee⟩
def S6{μ:Type}{vw:Q8->μ->Q8}{cv:Q6}{ba bb:Z7 μ}{e:Q8}{m:μ}{r:Option<|Q8×μ}(hl:e.length<=1000)(h:cv (vw e m)=QL true)(ha:ba e m=r):Y6 vw cv ba bb e m=r:=by unfold Y6;rw[if_pos hl,h];exact ha
def UE{μ:Type}{vw:Q8->μ->Q8}{cv:Q6}{ba bb:Z7 μ}{e:Q8}{m:μ}{r:Option<|Q8×μ}(hl:e.length<=1000)(h:cv (vw e m)=QL false)(ha:bb e m=r):Y6 vw cv ba bb e m=r:=by unfold Y6;rw[if_pos hl,h];exact ha
def Av{xs:List Int}{i:Nat}(h:4*i+4<=xs.length):∃a b c d,a∈xs/\b∈xs/\c∈xs/\d∈xs/\XY (iL xs) (some<|4*(0+(i:Int))) (some<|4*(0+(i:Int))+4)=some (JH a b c d):=by
 refine⟨xs[4*i],xs[4*i+1],xs[4*i+2],xs[4*i+3],getElem_mem _,getElem_mem _,getElem_mem _,getElem_mem _,?_⟩;show some (D.lst<|Jt (xs.map D.int) (some<|4*(0+(i:Int)))<|some<|4*(0+(i:Int))+4)=_;have s1:∀n:Nat,ZC n 0 (some<|4*(0+(i:Int)))=min (4*i) n:=λn=>by
  show(if 4*(0+(i:Int))<0 then(4*(0+(i:Int))+(n:Int)).toNat else min (4*(0+(i:Int))).toNat n)=_;rw[if_neg<|by omega,show(4*(0+(i:Int))).toNat=4*i by omega]
 have s2:∀n m:Nat,ZC n m (some<|4*(0+(i:Int))+4)=min (4*i+4) n:=λn m=>by
  show(if 4*(0+(i:Int))+4<0 then(4*(0+(i:Int))+4+(n:Int)).toNat else min (4*(0+(i:Int))+4).toNat n)=_;rw[if_neg<|by omega,show(4*(0+(i:Int))+4).toNat=4*i+4 by omega]
 unfold Jt;rw[s1,s2,Qr,show min (4*i) xs.length=4*i by omega,show min (4*i+4) xs.length-4*i=4 by omega];rw[<-map_drop,<-map_take];unfold JH iL;congr 3;rw[XA<|by omega,XA<|by omega,XA<|by omega,XA<|by omega];rfl
structure Inv27(i:Nat)(ps:List PB)(labs:List Str):Prop where
 pl:ps.length<=i
 ok:∀p∈ps,p.ok
 it:∀is,PB.pa is∈ps->is.length<=i
 ll:labs.length<=i
 lb:∀x∈labs,Lab x
def Cf{i:Nat}{ps:List PB}{labs:List Str}(h:Inv27 i ps labs)(hi:i<=1000):ZO (ps.map PB.bk)=true:=by unfold ZO;rw[Qr,J2<|by have:=h.pl;omega,Bool.true_and,all_map,q_24];intro p hp;cases p with|bo b=>rfl|pa is=>show(decide ((is.map λi=>Im.pl i.d).length<100000)&&(is.map λi=>Im.pl i.d).all Rc)=true;rw[Qr,J2<|by have:=h.it is hp;omega,Bool.true_and,all_map,q_24];exact λ_ _=>rfl
def BI(ps:List PB):Qh (ps.map PB.bk)=.lst (ps.map PB.d):=by unfold Qh;rw[map_map,show Jx∘PB.bk=PB.d from funext Qfa]
noncomputable def L9:PB->Bool|.pa _=>true|.bo _=>false
def lastPa(ps:List PB):Bool:=(ps.getLast?.map L9).getD false
def pk(p:PB)(h:p.ok):∃k r,p.d=.tup (.str k::r)/\decide (k="para")=L9 p:=by cases p with|pa is=>exact⟨_,_,rfl,rfl⟩|bo b=>cases b with|para is=>exact h.2.elim|chap t l=>exact⟨_,_,rfl,rfl⟩|head t k l=>exact⟨_,_,rfl,rfl⟩|tab rs l=>exact⟨_,_,rfl,rfl⟩|plat n l=>exact⟨_,_,rfl,rfl⟩
def Au{ps:List PB}(hp:∀p∈ps,p.ok){e:Q8}(he:eV 3 e=JJ (ps.map PB.d)):Jf (QF (QD D.len<|eV 3)<|Q2 0) (JQ (Z6 (QW (eV 3)<|QD D.neg<|Q2 1) 0)<|Q1 "para") e=QL (!lastPa ps):=by
 rcases Xv ps with rfl|⟨dY,p,e'⟩;.exact Sw<|Q0 (Qf he rfl) rfl rfl
 .rw[Xw]at e';have hlen:D.len (.lst<|ps.map PB.d)=QA (ps.length:Nat):=by show some (D.int ((ps.map PB.d).length:Nat))=_;rw[Qr]
  obtain⟨k,r,hk,hd⟩:=pk p<|hp p (by rw[e'];simp);refine X4 (Q0 (Qf he hlen) rfl<|JR<|by rw[e'];simp;omega) ?_;have hx:D.ix (.lst<|ps.map PB.d) (.int<|-1)=some p.d:=by rw[e',Jj];exact Pq _ _
  rw[hk]at hx;have:lastPa ps=decide (k="para"):=by rw[hd];unfold lastPa;rw[e'];simp
  rw[this];refine Q0 (x:=.str k) (Q0 (Q0 he (Qf rfl rfl) hx) rfl ?_) rfl<|Xn k "para";show((JD (r.length+1) 0).bind λj=>(.str k::r)[j]?)=_;unfold JD;rw[if_pos<|by omega,if_pos<|by omega];rfl
def Inv27.snoc{i:Nat}{ps:List PB}{labs:List Str}(h:Inv27 i ps labs){p:PB}(ok:p.ok)(hp:∀is,p=.pa is->is.length<=i+1):Inv27 (i+1) (ps++[p]) labs:=by
 refine⟨by rw[JZ];have:=h.pl;simp;omega,λq hq=>?_,λis hq=>?_,by have:=h.ll;omega,h.lb⟩
 .rcases q_8.mp hq with z|z;.exact h.ok q z
  .rw[q_1.mp z];exact ok
 .rcases q_8.mp hq with z|z;.have:=h.it is z;omega
  .exact hp is (q_1.mp z).symm
def Inv27.up{i:Nat}{ps:List PB}{labs:List Str}(h:Inv27 i ps labs):Inv27 (i+1) ps labs:=⟨by have:=h.pl;omega,h.ok,λis hs=>by have:=h.it is hs;omega,by have:=h.ll;omega,h.lb⟩
def S7:Z7 BL:=Zn (V3<|QO (Qn (eV 2) (Qk<|JC (Q2 4)<|eV 5)<|Qk<|QG (JC (Q2 4)<|eV 5)<|Q2 4)<|gS 6)<|Zn (V3<|QO (Qa (Q9 6 0)<|Q2 13)<|gS 7)<|Zn (V3<|QO (Q1 "")<|gS 8)<|Zn (Y6 (ZZ 3 4) (Jf (QF (eV 7)<|Q2 11)<|QH (Q4 D.lt (eV 7)<|Q2 4)<|QF (Qa (Q9 6 1)<|Q2 2)<|Q2 0) (Zn (Uy (ZZ 3 4) 8<|eK TF<|J3 (QD D.len<|eV 4)<|QW (eV 2)<|JC (Q2 4)<|eV 1)<|S3<|eV 8)<|λe m=>some (e,m))<|Zn (Y6 (ZZ 3 4) (Q4 D.lt (eV 7)<|Q2 4) (P2<|eK UT<|Jk (eV 7) (eV 8)<|eV 6)<|Y6 (ZZ 3 4) (Jf (QF (eV 7)<|Q2 4)<|Jf (QF (QD D.len<|eV 3)<|Q2 0)<|JQ (Z6 (QW (eV 3)<|QD D.neg<|Q2 1) 0)<|Q1 "para") UC<|λe m=>some (e,m))<|Y6 (ZZ 3 4) (Q4 D.gt (eV 7)<|Q2 4) (Nv<|eK SI<|Jk (eV 7) (eV 8)<|eV 6)<|λe m=>some (e,m)
def QgH{S:Option D}{n i:Nat}{xs:List Int}(hn:n<=63)(hx:∀x∈xs,Dr x)(hl:xs.length=4*n+1)(hi:i<n){ps:List PB}{labs:List Str}(inv:Inv27 i ps labs)(v6 v7 v8:Option D):∃(ip:List PB)(ay:List Str)(w6 w7 w8:Option D),Inv27 (i+1) ip ay/\S7 [S,QA n,some<|iL xs,none,none,QA<|0+(i:Int),v6,v7,v8] (ps.map PB.bk,labs)=some ([S,QA n,some<|iL xs,none,none,QA<|0+(i:Int),w6,w7,w8],(ip.map PB.bk,ay)):=by
 obtain⟨a,b,c,d,ma,mb,mc,md,j5⟩:=Av (xs:=xs) (i:=i) (by omega);have da:=hx a ma;have db:=hx b mb;have dc:=hx c mc;have dd:=hx d md;obtain⟨dr,iW,jE⟩:=SV (xs:=xs) (j:=4*(n:Int)) (by omega) (by omega);have oh:=hx dr iW;have ka:=Jg (i:=a) (j:=13) (by decide);have sh:=Cf inv (by omega);have hll:=inv.ll;have aQ:=inv.pl;have vw:∀(labs:List Str)(A B C D':Option D),ZZ 3 4 [S,QA n,some<|iL xs,none,none,A,B,C,D'] (ps.map PB.bk,labs)=[S,QA n,some<|iL xs,JJ<|ps.map PB.d,some<|QB labs,A,B,C,D']:=λlabs A B C D'=>by
  show[S,QA n,some<|iL xs,some<|Qh<|ps.map PB.bk,some<|QB labs,A,B,C,D']=_;rw[BI]
 have fT:∀{k:Z7 BL}{r:Option<|Q8×BL},k [S,QA n,some<|iL xs,none,none,QA<|0+(i:Int),some<|JH a b c d,QA<|a%13,QI ""] (ps.map PB.bk,labs)=r->Zn (V3<|QO (Qn (eV 2) (Qk<|JC (Q2 4)<|eV 5)<|Qk<|QG (JC (Q2 4)<|eV 5)<|Q2 4)<|gS 6) (Zn (V3<|QO (Qa (Q9 6 0)<|Q2 13)<|gS 7)<|Zn (V3<|QO (Q1 "")<|gS 8) k) [S,QA n,some<|iL xs,none,none,QA<|0+(i:Int),v6,v7,v8] (ps.map PB.bk,labs)=r:=λ{k r}hk=>bS (bO (QP (Yh rfl (WQ<|Q0 rfl rfl<|Vi<|by decide) (WQ<|Q0 (Q0 rfl rfl<|Vi<|by decide) rfl rfl) j5) rfl) (by simp)<|by simp)<|bS (bO (QP (Q0 (Q0 rfl rfl<|Qcv a b c d) rfl<|Qq<|by decide) rfl) (by simp)<|by simp)<|bS (bO (QP rfl rfl) (by simp)<|by simp) hk;generalize hk:a%13=kd at*;obtain⟨l,ay,jf,gF,inv2,f6⟩:∃(l:Str)(ay:List Str),BLab l/\(kd=11->Lab l)/\Inv27 (i+1) ps ay/\∀{k:Z7 BL}{r:Option<|Q8×BL},k [S,QA n,some<|iL xs,none,none,QA<|0+(i:Int),some<|JH a b c d,QA kd,QI l] (ps.map PB.bk,ay)=r->Zn (Y6 (ZZ 3 4) (Jf (QF (eV 7)<|Q2 11)<|QH (Q4 D.lt (eV 7)<|Q2 4)<|QF (Qa (Q9 6 1)<|Q2 2)<|Q2 0) (Zn (Uy (ZZ 3 4) 8<|eK TF<|J3 (QD D.len<|eV 4)<|QW (eV 2)<|JC (Q2 4)<|eV 1)<|S3<|eV 8)<|λe m=>some (e,m)) k [S,QA n,some<|iL xs,none,none,QA<|0+(i:Int),some<|JH a b c d,QA kd,QI ""] (ps.map PB.bk,labs)=r:=by
  have hc:∃q:Bool,(kd=11->q=true)/\Jf (QF (eV 7)<|Q2 11) (QH (Q4 D.lt (eV 7)<|Q2 4)<|QF (Qa (Q9 6 1)<|Q2 2)<|Q2 0) (ZZ 3 4 [S,QA n,some<|iL xs,none,none,QA<|0+(i:Int),some<|JH a b c d,QA kd,QI ""] (ps.map PB.bk,labs))=QL q:=by
   rw[vw];by_cases gm:kd=11;.exact⟨true,λ_=>rfl,Sw<|Q0 rfl rfl<|ZM gm⟩
   .by_cases h4:kd<4
    .by_cases h2:b%2=0;.exact⟨true,λ_=>rfl,X4 (Q0 rfl rfl<|JR gm)<|JE (Q0 rfl rfl<|O4 h4)<|Q0 (Q0 (Q0 rfl rfl<|Vd a b c d) rfl<|Qq<|by decide) rfl<|ZM h2⟩
     .exact⟨false,λz=>absurd z gm,X4 (Q0 rfl rfl<|JR gm)<|JE (Q0 rfl rfl<|O4 h4)<|Q0 (Q0 (Q0 rfl rfl<|Vd a b c d) rfl<|Qq<|by decide) rfl<|JR h2⟩
    .exact⟨false,λz=>absurd z gm,X4 (Q0 rfl rfl<|JR gm)<|JT<|Q0 rfl rfl<|LM h4⟩
  obtain⟨q,iR,hq⟩:=hc;cases q with
  |false=>exact⟨"",labs,.inl rfl,λz=>absurd (iR z)<|by decide,inv.up,λ{k r}hk=>bS (UE (by simp) hq rfl) hk⟩|true=>
   obtain⟨lb,nZ,cN⟩:=QcP labs.length (d:=dr) (by omega) oh;have hlen:D.len (QB labs)=QA (labs.length:Nat):=by show some (D.int ((labs.map D.str).length:Nat))=_;rw[Qr]
   refine⟨lb,labs++[lb],.inr cN,λ_=>cN,⟨by omega,inv.ok,λis hs=>by have:=inv.it is hs;omega,by rw[JZ];simp;omega,λx hx=>?_⟩,λ{k r}hk=>bS (S6 (by simp) hq<|bS (e1:=[S,QA n,some<|iL xs,none,none,QA<|0+(i:Int),some<|JH a b c d,QA kd,QI lb]) (m1:=(ps.map PB.bk,labs)) ?_ ?_) hk⟩
   .rcases q_8.mp hx with z|z;.exact inv.lb x z
    .rw[q_1.mp z];exact cN
   .have hv:eK TF (J3 (QD D.len<|eV 4)<|QW (eV 2)<|JC (Q2 4)<|eV 1) (ZZ 3 4 [S,QA n,some<|iL xs,none,none,QA<|0+(i:Int),some<|JH a b c d,QA kd,QI ""] (ps.map PB.bk,labs))=QI lb:=by
     rw[vw];exact Zb (Qf rfl hlen) (Q0 rfl (Q0 rfl rfl<|Vi<|by decide) jE) nZ
    unfold Uy;rw[if_pos<|by simp,hv];rfl
   .show(if[S,some<|D.int n,some<|iL xs,none,none,some<|D.int<|0+(i:Int),some<|JH a b c d,some<|D.int kd,some<|D.str lb].length<=1000/\labs.length<100000 then _ else none)=_;rw[if_pos ⟨by simp,by omega⟩]
 have kA:(ps.map PB.bk).length<100000:=by rw[Qr];omega
 have du:∀{A B C D':Option D},[S,some<|D.int n,some<|iL xs,none,none,A,B,C,D'].length<=1000:=by simp
 by_cases k4:kd<4;.-- a block
  obtain⟨B,eB,OC,mr⟩:=AK (kd:=kd) (l:=l) (a:=a) (b:=b) (c:=c) (d:=d) jf ⟨ka.1,k4⟩ db dc dd;refine⟨ps++[.bo B],ay,some<|JH a b c d,QA kd,QI l,?_,fT<|f6<|bS (S6 du (by rw[vw];exact Q0 rfl rfl<|O4 k4) ?_)<|UE du ?_ rfl⟩
  .exact Inv27.mk (by rw[JZ];simp;omega) (λq hq=>by
    rcases q_8.mp hq with z|z;.exact inv.ok q z
    .rw[q_1.mp z];exact⟨OC,mr⟩) (λis hq=>by
    rcases q_8.mp hq with z|z;.have:=inv.it is z;omega
    .have:=q_1.mp z;cases this) inv2.ll inv2.lb
  .show((eK UT (Jk (eV 7) (eV 8)<|eV 6) [S,some<|D.int n,some<|iL xs,none,none,some<|D.int<|0+(i:Int),some<|JH a b c d,some<|D.int kd,some<|D.str l]).bind λd'=>if[S,some<|D.int n,some<|iL xs,none,none,some<|D.int<|0+(i:Int),some<|JH a b c d,some<|D.int kd,some<|D.str l].length<=1000/\(ps.map PB.bk).length<100000 then some ([S,some<|D.int n,some<|iL xs,none,none,some<|D.int<|0+(i:Int),some<|JH a b c d,some<|D.int kd,some<|D.str l],(ps.map PB.bk++[.pl d'],ay))else none)=_;rw[T3 rfl rfl rfl eB];show(if _ then _ else none)=_;rw[if_pos ⟨du,kA⟩];rw[show ps.map PB.bk++[.pl B.d]=(ps++[PB.bo B]).map PB.bk by rw[Jj];rfl]
  .have:ZZ 3 4 [S,QA n,some<|iL xs,none,none,QA<|0+(i:Int),some<|JH a b c d,QA kd,QI l] ((ps++[PB.bo B]).map PB.bk,ay)=[S,QA n,some<|iL xs,some<|Qh<|(ps++[PB.bo B]).map PB.bk,some<|QB ay,QA<|0+(i:Int),some<|JH a b c d,QA kd,QI l]:=rfl;rw[this];exact Q0 rfl rfl<|SO<|by omega
 .obtain⟨cV,iU,l1,i4,lp,hp⟩:∃cV:List PB,(∀p∈cV,p.ok)/\cV.length<=i+1/\(∀is,PB.pa is∈cV->is.length<=i)/\(∃dY is,cV=dY++[.pa is])/\Y6 (ZZ 3 4) (Q4 D.lt (eV 7)<|Q2 4) (P2<|eK UT<|Jk (eV 7) (eV 8)<|eV 6) (Y6 (ZZ 3 4) (Jf (QF (eV 7)<|Q2 4)<|Jf (QF (QD D.len<|eV 3)<|Q2 0)<|JQ (Z6 (QW (eV 3)<|QD D.neg<|Q2 1) 0)<|Q1 "para") UC<|λe m=>some (e,m)) [S,QA n,some<|iL xs,none,none,QA<|0+(i:Int),some<|JH a b c d,QA kd,QI l] (ps.map PB.bk,ay)=some ([S,QA n,some<|iL xs,none,none,QA<|0+(i:Int),some<|JH a b c d,QA kd,QI l],(cV.map PB.bk,ay)):=by
   have hc:=Au inv.ok (e:=[S,QA n,some<|iL xs,JJ<|ps.map PB.d,some<|QB ay,QA<|0+(i:Int),some<|JH a b c d,QA kd,QI l]) rfl;have yes:UC [S,QA n,some<|iL xs,none,none,QA<|0+(i:Int),some<|JH a b c d,QA kd,QI l] (ps.map PB.bk,ay)=some ([S,QA n,some<|iL xs,none,none,QA<|0+(i:Int),some<|JH a b c d,QA kd,QI l],((ps++[PB.pa []]).map PB.bk,ay)):=by
    unfold UC;rw[if_pos ⟨du,kA⟩,show ps.map PB.bk++[.pa []]=(ps++[PB.pa []]).map PB.bk by rw[Jj];rfl]
   have new:(∀p∈ps++[PB.pa []],p.ok)/\(ps++[PB.pa []]).length<=i+1/\∀is,PB.pa is∈ps++[PB.pa []]->is.length<=i:=by
    refine⟨λp hp=>?_,by rw[JZ];simp;omega,λis hq=>?_⟩
    .rcases q_8.mp hp with z|z;.exact inv.ok p z
     .rw[q_1.mp z];exact⟨λ_ h=>(by cases h),by simp⟩
    .rcases q_8.mp hq with z|z;.exact inv.it is z
     .have:=q_1.mp z;cases this;exact Zm _
   have iV:Q4 D.lt (eV 7) (Q2 4) (ZZ 3 4 [S,QA n,some<|iL xs,none,none,QA<|0+(i:Int),some<|JH a b c d,QA kd,QI l] (ps.map PB.bk,ay))=QL false:=by rw[vw];exact Q0 rfl rfl<|LM k4
   by_cases h4:kd=4;.exact⟨_,new.1,new.2.1,new.2.2,⟨ps,[],rfl⟩,UE du iV<|S6 du (by rw[vw];exact Sw<|Q0 rfl rfl<|ZM h4) yes⟩
   .cases d8:lastPa ps with
    |false=>
     rw[d8]at hc;exact⟨_,new.1,new.2.1,new.2.2,⟨ps,[],rfl⟩,UE du iV<|S6 du (by rw[vw];exact X4 (Q0 rfl rfl<|JR h4) hc) yes⟩|true=>
     rw[d8]at hc;refine⟨ps,inv.ok,by omega,inv.it,?_,UE du iV<|UE du (by rw[vw];exact X4 (Q0 rfl rfl<|JR h4) hc) rfl⟩;rcases Xv ps with rfl|⟨dY,p,e'⟩;.cases d8
     .rw[Xw]at e';unfold lastPa at d8;rw[e']at d8;cases p with
      |bo b=>simp[L9]at d8|pa is=>exact⟨dY,is,e'⟩
  obtain⟨dY,is,e1⟩:=lp;have inv1:Inv27 (i+1) cV ay:=⟨l1,iU,λis hs=>by have:=i4 is hs;omega,inv2.ll,inv2.lb⟩;have ke:ZZ 3 4 [S,QA n,some<|iL xs,none,none,QA<|0+(i:Int),some<|JH a b c d,QA kd,QI l] (cV.map PB.bk,ay)=[S,QA n,some<|iL xs,some<|Qh<|cV.map PB.bk,some<|QB ay,QA<|0+(i:Int),some<|JH a b c d,QA kd,QI l]:=rfl;by_cases k5:4<kd
  .obtain⟨I,eI,LZ⟩:=Qcq (kd:=kd) (l:=l) (a:=a) (b:=b) (c:=c) (d:=d) gF ⟨k5,ka.2⟩ db dc dd;have mj:=iU (.pa is) (by rw[e1];simp);have itl:=i4 is (by rw[e1];simp);refine⟨dY++[.pa<|is++[I]],ay,some<|JH a b c d,QA kd,QI l,?_,fT<|f6<|bS hp<|S6 du (by rw[ke];exact Q0 rfl rfl<|SQ k5) ?_⟩
   .refine⟨by rw[e1]at l1;rw[JZ]at l1⊢;exact l1,λp hp=>?_,λjs hq=>?_,inv2.ll,inv2.lb⟩
    .rcases q_8.mp hp with z|z;.exact iU p<|by rw[e1];exact Y2 _ z
     .rw[q_1.mp z];refine⟨λr hr=>?_,by rw[JZ];simp;omega⟩;rcases q_8.mp hr with y|y;.exact mj.1 r y
      .rw[q_1.mp y];exact LZ
    .rcases q_8.mp hq with z|z;.have:=i4 js (by rw[e1];exact Y2 _ z);omega
     .have:=q_1.mp z;cases this;rw[JZ];simp;omega
   .have hU:Z9 WB (cV.map PB.bk)=some true:=by rw[e1,Jj];exact lQ _ _ _
    have lu:ZJ (Wx<|.pl I.d) (cV.map PB.bk)=(dY++[PB.pa<|is++[I]]).map PB.bk:=by
     rw[e1,Jj,Jj];show ZJ _ (dY.map PB.bk++[.pa<|is.map λi=>Im.pl i.d])=_;rw[lU];show dY.map PB.bk++[.pa<|is.map (λi=>Im.pl i.d)++[.pl I.d]]=dY.map PB.bk++[.pa<|(is++[I]).map λi=>Im.pl i.d];rw[Jj];rfl
    have lX:=Cf inv1 (by omega);show((eK SI (Jk (eV 7) (eV 8)<|eV 6) [S,some<|D.int n,some<|iL xs,none,none,some<|D.int<|0+(i:Int),some<|JH a b c d,some<|D.int kd,some<|D.str l]).bind λd'=>if[S,some<|D.int n,some<|iL xs,none,none,some<|D.int<|0+(i:Int),some<|JH a b c d,some<|D.int kd,some<|D.str l].length<=1000/\ZO (cV.map PB.bk)=true/\Z9 WB (cV.map PB.bk)=some true then some ([S,some<|D.int n,some<|iL xs,none,none,some<|D.int<|0+(i:Int),some<|JH a b c d,some<|D.int kd,some<|D.str l],(ZJ (Wx<|.pl d')<|cV.map PB.bk,ay))else none)=_;rw[T3 rfl rfl rfl eI];show(if _ then _ else none)=_;rw[if_pos ⟨du,lX,hU⟩,lu]
  .exact⟨cV,ay,some<|JH a b c d,QA kd,QI l,inv1,fT<|f6<|bS hp<|UE du (by rw[ke];exact Q0 rfl rfl<|SO k5) rfl⟩
def Qc4(n:Nat)(R:Nat->Q8->BL->Prop){g:JW}{b:Z7 BL}(h:∀i,i<n->∀e m,R i e m->∃e1 e' m',g (.int<|0+(i:Int)) e=some e1/\b e1 m=some (e',m')/\R (i+1) e' m'):∀e m,R 0 e m->∃e' m',Wd.loopR g b (rD 0 n) e m=some (e',m')/\R n e' m':=by
 intro e m h0;have key:∀k,k<=n->∀e m,R (n-k) e m->∃e' m',Wd.loopR g b ((List.range' (n-k) k).map λi:Nat=>D.int<|0+(i:Int)) e m=some (e',m')/\R n e' m':=by
  intro k;induction k with
  |zero=>exact λ_ e m r=>⟨e,m,rfl,r⟩|succ k ih=>
   intro hk e m r;obtain⟨e1,e',m',h1,h2,h3⟩:=h (n-(k+1)) (by omega) e m r;rw[show n-(k+1)+1=n-k by omega]at h3;obtain⟨e2,m2,h4,h5⟩:=ih (by omega) e' m' h3;refine⟨e2,m2,?_,h5⟩;rw[range'_succ,YK];show(g _ e).bind _=_;rw[h1];show(b e1 m).bind _=_;rw[h2];show Wd.loopR g b _ e' m'=_;rw[show n-(k+1)+1=n-k by omega];exact h4
 have:=key n (Qm _) e m (by rw[sub_self];exact h0);rw[sub_self]at this;unfold rD;rw[List.range_eq_range'];exact this
def AO(ns:List Int):∃bs:List Bo,PZ [.scr ns]=JJ (bs.map Bo.d)/\BookOk bs/\bs.length<=64:=by
 obtain⟨ys,ey,ly,hy⟩:=MN ns (turn:=1000) (many:=1) (by omega) (by omega);obtain⟨y,my,nX⟩:=SV (xs:=ys) (j:=0) (by omega) (by omega);have y64:=Jg (i:=y) (j:=64) (by decide);obtain⟨n,en⟩:∃n:Nat,y%64=n:=⟨(y%64).toNat,by omega⟩;have hn:n<=63:=by omega
 obtain⟨xs,ex,lx,hx⟩:=MN ns (turn:=2) (many:=4*n+1) (by omega) (by omega);refine TC (dd:=λbs:List Bo=>D.lst<|bs.map Bo.d) (P:=λbs=>BookOk bs/\bs.length<=64) rfl ?_;refine Ji (QP (Q0 (Q0 (T3 rfl rfl rfl ey) rfl nX) rfl<|Qq<|by decide) rfl) ?_;rw[en];refine Ji (e1:=[some<|.scr ns,QA n,some<|iL xs,none,none,none,none,none,none]) (QP (T3 rfl rfl (Q0 (Q0 rfl rfl<|Vi<|by decide) rfl<|show D.add (.int<|4*(n:Int)) (.int 1)=QA ((4*n+1:Nat):Int)from by rw[show((4*n+1:Nat):Int)=4*(n:Int)+1 by omega];rfl) ex) rfl) ?_;refine Ji (QP rfl rfl)<|Ji (QP rfl rfl) ?_;let R:Nat->Q8->BL->Prop:=λi e m=>∃(ps:List PB)(labs:List Str)(v5 v6 v7 v8:Option D),e=[some<|.scr ns,QA n,some<|iL xs,none,none,v5,v6,v7,v8]/\m=(ps.map PB.bk,labs)/\Inv27 i ps labs;obtain⟨e',m',h1,ps,labs,v5,v6,v7,v8,rfl,rfl,inv⟩:=Qc4 n R (g:=gS 5) (b:=S7) (by rintro i hi e m⟨ps,labs,v5,v6,v7,v8,rfl,rfl,inv⟩;obtain⟨ip,ay,w6,w7,w8,jQ,h⟩:=QgH (S:=some<|.scr ns) hn hx lx hi inv v6 v7 v8;exact⟨_,_,_,rfl,h,ip,ay,_,w6,w7,w8,rfl,rfl,jQ⟩) [some<|.scr ns,QA n,some<|iL xs,none,none,none,none,none,none] ([],[]) ⟨[],[],none,none,none,none,rfl,rfl,⟨Zm _,λ_ h=>(by cases h),λ_ h=>(by cases h),Zm _,λ_ h=>by cases h⟩⟩;refine Ji (e1:=[some<|.scr ns,QA n,some<|iL xs,JJ<|ps.map PB.d,some<|QB labs,v5,v6,v7,v8]) ?_ ?_
 .have hf:Tp (ZH<|eV 1) (gS 5) S7 [some<|.scr ns,QA n,some<|iL xs,none,none,none,none,none,none] ([],[])=some ([some<|.scr ns,QA n,some<|iL xs,none,none,v5,v6,v7,v8],(ps.map PB.bk,labs)):=by
   unfold Tp;rw[WI (n:=n) rfl<|by omega];exact h1
  show Up 3 4 (Tp (ZH<|eV 1) (gS 5) S7) [some<|.scr ns,QA n,some<|iL xs,some<|.lst [],some<|.lst [],none,none,none,none]=_;unfold Up;rw[if_pos ⟨rfl,by simp,by decide⟩];show(Tp (ZH<|eV 1) (gS 5) S7 [some<|.scr ns,QA n,some<|iL xs,none,none,none,none,none,none] ([],[])).bind _=_;rw[hf];show(if[some<|D.scr ns,some<|D.int n,some<|iL xs,none,none,v5,v6,v7,v8].length<=1000 then some<|Fl.nx [some<|.scr ns,QA n,some<|iL xs,some<|Qh<|ps.map PB.bk,some<|QB labs,v5,v6,v7,v8]else none)=_;rw[if_pos<|by simp,BI]
 .obtain⟨dr,iW,jE⟩:=SV (xs:=xs) (j:=4*(n:Int)) (by omega) (by omega);obtain⟨bs,hb,lb,iT⟩:=M7 (g:=gS 0) (el:=eK SG<|Jk (eV 0) (eV 1)<|QW (eV 2)<|JC (Q2 4)<|eV 3) PB.d Bo.d Bo.ok (λe=>∃v,e=[v,some<|QB labs,some<|iL xs,QA n]) ps (by rintro p hp e⟨v,rfl⟩;obtain⟨b,eb,iT⟩:=Ak (labs:=labs) inv.lb (by have:=inv.ll;omega) (inv.ok p hp)<|hx dr iW;exact⟨_,b,rfl,⟨_,rfl⟩,T3 rfl rfl (Q0 rfl (Q0 rfl rfl<|Vi<|by decide) jE) eb,iT⟩) [none,some<|QB labs,some<|iL xs,QA n] ⟨none,rfl⟩;have:=inv.pl;refine⟨bs,ret ?_,⟨iT,by omega⟩,by omega⟩;unfold JX;show(if(ps.map PB.d).length<=Qz then(Y8 _ _ _ (ps.map PB.d) [none,some<|QB labs,some<|iL xs,QA n]).map D.lst else none)=_;rw[if_pos<|by rw[Qr];show _<=16777216;omega,hb];rfl
theorem Gm:∀l:List Nat,32∉l\/∃w r,l=w++32::r/\32∉w
 |[]=>.inl<|by simp|a::l=>by
  by_cases ha:a=32;.exact .inr ⟨[],l,by rw[ha];rfl,by simp⟩
  .rcases Gm l with h|⟨w,r,e,h⟩
   .exact .inl λz=>by
     rcases q_7.mp z with z|z;.exact ha z.symm
     .exact h z
   .exact .inr ⟨a::w,r,by rw[e];rfl,λz=>by
     rcases q_7.mp z with z|z;.exact ha z.symm
     .exact h z⟩
def WA(l:List Nat):Str:=⟨l.toArray⟩
def T5(l:List Nat):cs (WA l)=l:=rfl
def LX(x:Str):WA (cs x)=x:=sx<|T5 _
def cutS(x:Str):32∉cs x\/∃w r:Str,x=w++" "++r/\32∉cs w:=by
 rcases Gm<|cs x with h|⟨w,r,e,h⟩;.exact .inl h
 .exact .inr ⟨WA w,WA r,sx<|by rw[Vr,T5,T5];exact e,h⟩
theorem KY{c:Nat}:∀(l:List Nat)(n m:Nat),l.count c<=n->l.count c<=m->JV c n l=JV c m l
 |[],_,_,_,_=>by rw[JV,JV]|a::l,n,m,hn,hm=>by
  rw[JV,JV];by_cases ha:a=c
  .subst ha;rw[List.count_cons_self]at hn hm;rw[if_pos ⟨rfl,by omega⟩,if_pos ⟨rfl,by omega⟩,KY l (n-1) (m-1) (by omega)<|by omega]
  .rw[List.count_cons_of_ne ha]at hn hm;rw[if_neg λz=>ha z.1,if_neg λz=>ha z.1,KY l n m hn hm]
def Qo(x:Str):List Str:=(JV 32 x.length<|cs x).map WA
def M6(x:Str)(c:Nat):(cs x).count c<=x.length:=by rw[Jz];exact List.count_le_length
def D4(x:Str){n:Nat}(h:(cs x).count 32<=n):JV 32 n (cs x)=(Qo x).map cs:=by unfold Qo;rw[map_map,KY (cs x) n x.length h<|M6 x 32];exact(map_id _).symm
def Zd{x:Str}(h:32∉cs x):Qo x=[x]:=by unfold Qo;rw[NC _ h];show[WA<|cs x]=_;rw[LX]
def JP{w r:Str}(hw:32∉cs w):Qo (w++" "++r)=w::Qo r:=by
 have e:(w++" "++r).length=w.length+r.length+1:=by rw[la,la];show _+1+_=_;omega
 have h1:(w++" "++r:Str).length=(cs<|w++" "++r).length:=Jz _;show(JV 32 (w++" "++r:Str).length<|cs<|w++" "++r).map WA=_;rw[e,Vr,NA _ _ hw,D4 r (n:=w.length+r.length)<|by have:=M6 r 32;omega,YK,LX,map_map];congr 1;rw[show WA∘cs=id from funext LX,map_id]
def Wa(x:Str):Qo x≠[]:=by unfold Qo;intro z;exact KZ 32 _ _<|List.map_eq_nil_iff.mp z
def Le{M:Str->Prop}(h1:∀x,32∉cs x->M x)(h2:∀w r,32∉cs w->M r->M (w++" "++r)):∀x,M x:=by
 have:∀n x,x.length<=n->M x:=by intro n;induction n with
  |zero=>exact λx hx=>h1 x<|by rw[Jz]at hx;rw[List.length_eq_zero_iff.mp<|Nat.le_zero.mp hx];simp|succ n ih=>
   intro x hx;rcases cutS x with h|⟨w,r,rfl,h⟩;.exact h1 x h
   .refine h2 w r h<|ih r ?_;rw[la,la]at hx;have:(" ":Str).length=1:=rfl;omega
 exact λx=>this x.length x<|Qm _
def Qe5(x:Str):Str.join " " (Qo x)=x:=by refine Le (M:=λx=>Str.join " " (Qo x)=x) (λx h=>by rw[Zd h];rfl) (λw r hw ih=>?_) x;rw[JP hw];cases hp:Qo r with|nil=>exact absurd hp<|Wa r|cons p ps=>rw[hp]at ih;show w++" "++Str.join " " (p::ps)=_;rw[ih]
def Qe6(x:Str):(Qo x).length<=x.length+1:=by refine Le (M:=λx=>(Qo x).length<=x.length+1) (λx h=>by rw[Zd h];simp) (λw r hw ih=>?_) x;rw[JP hw,Jb,la,la];have:(" ":Str).length=1:=rfl;omega
def D5(x:Str):∀p∈Qo x,32∉cs p/\p.length<=x.length:=by
 refine Le (M:=λx=>∀p∈Qo x,32∉cs p/\p.length<=x.length) (λx h p hp=>?_) (λw r hw ih p hp=>?_) x
 .rw[Zd h]at hp;rw[q_1.mp hp];exact⟨h,Qm _⟩
 .rw[JP hw]at hp;have e1:(" ":Str).length=1:=rfl;rcases q_7.mp hp with rfl|hp;.exact⟨hw,by rw[la,la];omega⟩
  .obtain⟨a,b⟩:=ih p hp;exact⟨a,by rw[la,la];omega⟩
def QgB(x:Str):Txt.split x ⟨#[32]⟩=Qo x:=Cj (by decide)<|D4 x<|by have:=M6 x 32;omega
def Rf{a:Q6}{e:Q8}{x:Str}(he:a e=QI x)(hl:x.length<=100000):Q4 (QX ZE) a (Q1 " ") e=some (QB<|Qo x):=by refine Q0 he rfl ?_;show ZE x ⟨#[32]⟩=_;unfold ZE;rw[if_pos ⟨rfl,hl⟩,QgB];rfl
def Cy{x k:Str}(h:32∉cs x):Txt.startswith x (k++" ")=false:=by rw[Ts,Z8];cases hp:(cs k++cs " ").isPrefixOf<|cs x with|false=>rfl|true=>obtain⟨t,e⟩:=q_58.mp hp;exact absurd (by rw[<-e];exact Y2 _<|Ze _<|by decide) h
def Cw{w r k:Str}(hw:32∉cs w)(hk:32∉cs k):Txt.startswith (w++" "++r) (k++" ")=decide (w=k):=by
 rw[Ts,Vr,Z8];show(cs k++[32]).isPrefixOf (cs w++32::cs r)=_;by_cases h:w=k;.subst h;rw[J2 rfl];refine q_58.mpr ⟨cs r,by rw[Zw];rfl⟩
 .rw[J0 h];cases hp:(cs k++[32]).isPrefixOf<|cs w++32::cs r with|false=>rfl|true=>
   obtain⟨t,e⟩:=q_58.mp hp;exfalso;refine h<|sx ?_;have key:∀(a b:List Nat)(s t:List Nat),32∉a->32∉b->a++32::s=b++32::t->a=b:=by
    intro a;induction a with
    |nil=>intro b s t _ hb e;cases b with|nil=>rfl|cons d b=>exact absurd (List.cons.inj e).1 λz=>hb<|by rw[<-z];exact JY
    |cons c a ih=>intro b s t ha hb e;cases b with
     |nil=>exact absurd (List.cons.inj e).1 λz=>ha<|by rw[z];exact JY|cons d b=>
      obtain⟨e1,e2⟩:=List.cons.inj e;rw[e1,ih b s t (λz=>ha<|Qy _ z) (λz=>hb<|Qy _ z) e2]
   exact(key (cs k) (cs w) t (cs r) hk hw<|by rw[<-e,Zw];rfl).symm
def Sg(x:Str):Prop:=∀c∈cs x,sg c
def Rw(x:Str):Prop:=Sg x/\x.length<=256
def Sg.as{x:Str}(h:Sg x):∀c∈cs x,c<128:=λc hc=>by have:=h c hc;unfold sg at this;omega
def Sg.l{x y:Str}(h:Sg<|x++y):Sg x:=λc hc=>h c<|by rw[Z8];exact Y2 _ hc
def Sg.r{x y:Str}(h:Sg<|x++y):Sg y:=λc hc=>h c<|by rw[Z8];exact Ze _ hc
def labB(x:Str):Bool:=decide (x≠"")&&(cs x).all λc=>decide (97<=c)&&decide (c<=122)
def digB(x:Str):Bool:=decide (x≠"")&&(cs x).all λc=>decide (48<=c)&&decide (c<=57)
def hd0(x:Str):Bool:=decide<|(cs x).head?=some 48
def Yb(x:Str):Bool:=digB x&&(decide (x="0")||!hd0 x)
noncomputable def titB(x:Str):Bool:=decide (x≠"")&&decide (x=Txt.stripChars x ⟨#[32]⟩)
noncomputable def Y3(x:Str):Str:=if x="-"then ""else x
theorem GW{α:Type}(p:α->Bool):∀(xs:List α),V5 (xs.map λa=>D.bl<|p a)=some (xs.map p)|[]=>rfl|a::xs=>by show(V5<|xs.map λa=>D.bl<|p a).map _=_;rw[GW p xs];rfl
def Fh{i:Nat}{x:Str}{e:Q8}(he:eV i e=QI x)(ha:∀c∈cs x,c<128):Zs (eV i) e=some ((cs x).map λc=>D.str ⟨#[c]⟩):=by unfold Zs;rw[he];show(if x.cps.all (·<128)=true then some<|x.cps.toList.map λc=>D.str ⟨#[c]⟩else none)=_;rw[if_pos<|HJ ha]
def A0{i:Nat}{el:Q6}{x:Str}{e:Q8}(p:Nat->Bool)(he:eV i e=QI x)(ha:∀c∈cs x,c<128)(hl:x.length<=100000)(h:∀c∈cs x,el [some<|.str ⟨#[c]⟩]=QL (p c)):QD D.allL (JX 1 [] (Zs<|eV i) (gS 0) (JB true) el) e=QL ((cs x).all p):=by
 have hc:JX 1 [] (Zs<|eV i) (gS 0) (JB true) el e=JJ (((cs x).filter λ_=>true).map λc=>D.bl<|p c):=by
  refine UH (λc=>D.str ⟨#[c]⟩) (cs x) (λe=>∃v,e=[v]) (λ_=>true) (λc=>.bl<|p c) (Fh he ha) (by rw[<-Jz];show _<=16777216;omega) ⟨none,rfl⟩ ?_;rintro c hc e⟨v,rfl⟩;exact⟨_,rfl,⟨_,rfl⟩,rfl,λ_=>h c hc⟩
 refine Qf hc ?_;show(V5 _).map _=_;rw[UY,GW];show some (D.bl<|((cs x).map p).all id)=_;rw[all_map];rfl
def Ah{b:Q6}{lo hi c:Nat}{e:Q8}(hb:b e=some (.str ⟨#[c]⟩)):Xb D.leS D.leS (eC<|.str ⟨#[lo]⟩) b (eC<|.str ⟨#[hi]⟩) e=QL (decide (lo<=c)&&decide (c<=hi)):=by
 unfold Xb;rw[hb];show Zt (D.leS (.str ⟨#[lo]⟩)<|.str ⟨#[c]⟩) (D.leS (.str ⟨#[c]⟩)<|.str ⟨#[hi]⟩) _=_;rw[O0,O0];by_cases h:lo<=c;.rw[J2 h];rfl
 .rw[J0 h];rfl
def Y5{a b:Q6}{e:Q8}{p q:Bool}(ha:a e=QL p)(hb:p=true->b e=QL q):QH a b e=QL (p&&q):=by cases p with|true=>rw[JE ha<|hb rfl];rfl|false=>rw[JT ha];rfl
def Sv{a b:Q6}{e:Q8}{p q:Bool}(ha:a e=QL p)(hb:p=false->b e=QL q):Jf a b e=QL (p||q):=by cases p with|true=>rw[Sw ha];rfl|false=>rw[X4 ha<|hb rfl];rfl
def O8{x:Str}{i:Nat}{e:Q8}(he:eV i e=QI x)(y:Str):JQ (eV i) (eC<|.str y) e=QL (decide<|x≠y):=by
 refine Q0 he rfl ?_;rw[Xn];by_cases h:x=y;.rw[J2 h,J0 λz=>z h];rfl
 .rw[J0 h,J2 h];rfl
def Zp{a:Q6}{x:Str}{e:Q8}(he:a e=QI x)(y:Str):QF a (eC<|.str y) e=QL (decide<|x=y):=Q0 he rfl<|UP x y
def LA{x:Str}(h:Sg x)(hl:x.length<=1000):UU [.str x]=QL (labB x):=QR rfl<|ret<|Y5 (O8 rfl "") λ_=>A0 (λc=>decide (97<=c)&&decide (c<=122)) rfl h.as (by omega) λc hc=>Ah rfl
def Qcj{x:Str}(h:Sg x)(hl:x.length<=1000):Vx [.str x]=QL (decide (x="-")||labB x):=QR rfl<|ret<|Sv (Zp rfl "-") λ_=>Qs rfl<|LA h hl
def Ox(x:Str):TN [.str x]=QI (Y3 x):=by
 refine QR rfl<|ret<|W3 (Zp rfl "-") (λh=>?_) λh=>?_;.unfold Y3;rw[if_pos<|of_decide_eq_true h];rfl
 .unfold Y3;rw[if_neg<|of_decide_eq_false h];rfl
def Po(x:Str):Pg [.str x]=QL (decide (x≠"")&&decide (32∉cs x)):=by
 refine QR rfl<|ret<|Y5 (O8 rfl "") λ_=>Q0 (x:=.str ⟨#[32]⟩) rfl rfl ?_;show some (D.bl<|!Txt.contains x ⟨#[32]⟩)=_;rw[Gk];by_cases h:32∈cs x;.rw[J2 h,J0 λz=>z h];rfl
 .rw[J0 h,J2 h];rfl
def Cs{a:Q6}{x:Str}{e:Q8}(he:a e=QI x)(hl:x.length<=1000):Q4 (QX XI) a (Q1 " ") e=QI (Txt.stripChars x ⟨#[32]⟩):=by refine Q0 he rfl ?_;show XI x ⟨#[32]⟩=_;unfold XI;rw[if_pos<|by show _<=16777216;omega]
def Fp{x:Str}(hl:x.length<=1000):TL [.str x]=QL (titB x):=QR rfl<|ret<|Y5 (O8 rfl "") λ_=>Q0 rfl (Cs rfl hl)<|UP _ _
def FJ:∀c:Nat,c<128->Unicode.isDigit c=(decide (48<=c)&&decide (c<=57)):=by decide+kernel
def Qcl{x:Str}(h:Sg x):Txt.isdigit x=digB x:=by
 unfold Txt.isdigit digB;congr 1
 .have:(0<x.length)=(x≠""):=propext ⟨λz e=>by rw[e]at z;exact absurd z<|by decide,λz=>by rw[Jz];exact q_40.mpr λe=>z<|sx<|by rw[e];rfl⟩;exact decide_eq_decide.mpr<|by show 0<x.length↔_;rw[this]
 .rw[<-Array.all_toList];show(cs x).all _=_;rw[Bool.eq_iff_iff,q_24,q_24];exact⟨λz c hc=>by rw[<-FJ c<|h.as c hc];exact z c hc,λz c hc=>by rw[FJ c<|h.as c hc];exact z c hc⟩
def Fx{x:Str}{c:Nat}{r:List Nat}(e:cs x=c::r)(hl:x.length<=1000):D.ix (.str x) (.int 0)=some (.str ⟨#[c]⟩):=by
 show(if x.length<=Qz then(JD x.length 0).bind λk=>(x.cps[k]?).map λc=>D.str ⟨#[c]⟩else none)=_;rw[if_pos<|by show _<=16777216;omega];have hp:(0:Int)<(x.length:Int):=by rw[Jz,e];first|(simp;done)|(simp;omega)
 unfold JD;rw[if_pos<|by omega,if_pos hp];show(x.cps[0]?).map _=_;have:x.cps[0]?=some c:=by rw[<-getElem?_toList];show(cs x)[0]?=_;rw[e];rfl
 rw[this];rfl
def En{a b:Nat}:((⟨#[a]⟩:Str)=⟨#[b]⟩)=(a=b):=propext ⟨λh=>by have:=congrArg cs h;exact(List.cons.inj<|show[a]=[b]from this).1,λh=>by rw[h]⟩
def MM{x:Str}(h:digB x=true):∃c r,cs x=c::r:=by unfold digB at h;rw[Ja]at h;have:=of_decide_eq_true h.1;cases e:cs x with|nil=>exact absurd (sx<|by rw[e];rfl) this|cons c r=>exact⟨c,r,rfl⟩
def Fo{x:Str}(h:Sg x)(hl:x.length<=1000):TK [.str x]=some (.bl<|Yb x):=by
 have e1:Yb x=(decide (x="0")||digB x&&!hd0 x):=by
  unfold Yb;by_cases z:x="0";.subst z;rfl
  .rw[J0 z];rfl
 rw[e1];refine QR rfl<|ret<|Sv (Zp rfl "0") λ_=>Y5 (Qf rfl<|show XH LB (.str x)=some (.bl<|digB x)from by show some (D.bl<|Txt.isdigit x)=_;rw[Qcl h]) λhd=>?_;obtain⟨c,r,e⟩:=MM hd;refine Q0 (Q0 rfl rfl<|Fx e hl) rfl ?_;show D.neO (.str ⟨#[c]⟩) (.str ⟨#[48]⟩)=_;rw[Xn];unfold hd0;rw[e];exact congrArg (λb=>some<|D.bl !b)<|decide_eq_decide.mpr<|by rw[En];simp
def Qdu{x:Str}(h:Yb x=true)(hl:x.length<=250):∃n:Nat,x=ZB n/\n<10^250/\(n=0↔x="0"):=by
 unfold Yb at h;rw[Ja]at h;obtain⟨c,r,e⟩:=MM h.1;have hd:∀c∈cs x,48<=c/\c<=57:=λc hc=>by
  have:=h.1;unfold digB at this;rw[Ja,q_24]at this;have:=this.2 c hc;rw[Ja]at this;exact⟨of_decide_eq_true this.1,of_decide_eq_true this.2⟩
 have key:Nat.toDigits 10 (NumText.digitsVal<|cs x)=(cs x).map Char.ofNat:=by
  refine NumText.toDigits_digitsVal r.length (cs x) (by rw[e];rfl) hd ?_;rcases Bool.or_eq_true_iff.mp h.2 with z|z;.have:=of_decide_eq_true z;subst this;exact .inl<|by have:=(List.cons.inj<|show[48]=c::r from e).2;rw[<-this];rfl
  .refine .inr ⟨c,r,e,?_⟩;unfold hd0 at z;rw[e]at z;have:c≠48:=λy=>by rw[y]at z;simp at z
   have:=hd c (by rw[e];exact JY);omega
 have back:((cs x).map Char.ofNat).map Char.toNat=cs x:=by
  rw[map_map];conv=>rhs;rw[<-map_id<|cs x]
  refine List.map_congr_left λc hc=>?_;have:=hd c hc;show(Char.ofNat c).toNat=c;have hv:c.isValidChar:=.inl (by omega);rw[Char.ofNat,dif_pos hv];rfl
 have nx:ZB (NumText.digitsVal<|cs x)=x:=sx (by rw[T4,key,back]);refine⟨NumText.digitsVal<|cs x,nx.symm,?_,λz=>?_,λz=>?_⟩;.refine(RN (by decide)<|by decide).mp ?_;rw[key,Qr,<-Jz];exact hl
 .rw[<-nx,z];rfl
 .rw[z];rfl
def SR{n:Nat}(h:n<10^250):D.intS (.str<|ZB n)=QA n:=by show(if(ZB n).length<=640 then(intText?<|ZB n).map D.int else none)=_;rw[if_pos<|by have:=Ej h;omega,Qds h];rfl
def Qdm(L:List Str):D.neO (QB L) (.lst [])=QL (!L.isEmpty):=by unfold D.neO QB;rw[if_pos<|by rw[SD,MG];decide,PV];cases L with|nil=>rw[map_nil,PR];rfl|cons x L=>rw[YK,MY];rfl
def Ef{al:Str}{p:Nat->Bool}{x:Str}{e:Q8}(hp:∀c,c<128->decide (c∈cs al)=p c)(he:eV 0 e=QI x)(h:Sg x)(hl:x.length<=1000):JQ (JX 1 [] (Zs<|eV 0) (gS 0) (Q4 D.notInS (eV 0)<|eC<|.str al)<|eV 0) (QS lN) e=QL (!(cs x).all p):=by
 have hc:JX 1 [] (Zs<|eV 0) (gS 0) (Q4 D.notInS (eV 0)<|eC<|.str al) (eV 0) e=JJ (((cs x).filter λc=>!p c).map λc=>D.str ⟨#[c]⟩):=by
  refine UH (λc=>D.str ⟨#[c]⟩) (cs x) (λe=>∃v,e=[v]) (λc=>!p c) (λc=>.str ⟨#[c]⟩) (Fh he h.as) (by rw[<-Jz];show _<=16777216;omega) ⟨none,rfl⟩ ?_;rintro c hc e⟨v,rfl⟩;refine⟨_,rfl,⟨_,rfl⟩,Q0 (x:=.str ⟨#[c]⟩) rfl rfl ?_,λ_=>rfl⟩;show some (D.bl<|!Txt.contains al ⟨#[c]⟩)=_;rw[Gk,hp c<|h.as c hc]
 refine Q0 hc rfl ?_;have:D.lst (((cs x).filter λc=>!p c).map λc=>D.str ⟨#[c]⟩)=QB (((cs x).filter λc=>!p c).map λc=>⟨#[c]⟩):=by unfold QB;rw[map_map];rfl
 rw[this,Qdm];congr 3;rw[Bool.eq_iff_iff,List.isEmpty_iff,List.map_eq_nil_iff,List.filter_eq_nil_iff,q_24];exact⟨λz c hc=>by have:=z c hc;simpa using this,λz c hc=>by rw[z c hc];simp⟩
def A3:∀c,c<128->decide (c∈cs "abcdefghijklmnopqrstuvwxyz")=(decide (97<=c)&&decide (c<=122)):=by decide+kernel
def Qbe:∀c,c<128->decide (c∈cs "0123456789")=(decide (48<=c)&&decide (c<=57)):=by decide+kernel
def LV(b:Bool)(p:Prop)[Decidable p]:(decide p||!b)=!(decide (¬p)&&b):=by cases b<;>by_cases h:p<;>simp[h]
def LH{x:Str}{b:Bool}(h:Sg x)(hl:x.length<=1000):Vv [.str x,.bl b]=some (if(b&&decide (x="-"))=true then .str ""else if labB x=true then .str x else .non):=by have c1:QH (eV 1) (QF (eV 0)<|Q1 "-") [QI x,QL b]=QL (b&&decide (x="-")):=Y5 rfl λ_=>Zp rfl "-";cases hb:b&&decide (x="-")with|true=>rw[hb]at c1;exact QR rfl<|Qt<|Qc c1<|ret rfl|false=>
  rw[hb]at c1;have c2:Jf (QF (eV 0)<|Q1 "") (JQ (JX 1 [] (Zs<|eV 0) (gS 0) (Q4 D.notInS (eV 0)<|Q1 "abcdefghijklmnopqrstuvwxyz")<|eV 0)<|QS lN) [QI x,QL b]=QL (!labB x):=by have:=Sv (a:=QF (eV 0)<|Q1 "") (b:=JQ (JX 1 [] (Zs<|eV 0) (gS 0) (Q4 D.notInS (eV 0)<|Q1 "abcdefghijklmnopqrstuvwxyz")<|eV 0)<|QS lN) (e:=[QI x,QL b]) (Zp rfl "") λ_=>Ef A3 rfl h hl;rw[this,LV];rfl
  cases cN:labB x with
  |true=>rw[cN]at c2;exact QR rfl<|st (QE c1 rfl)<|st (QE c2 rfl)<|ret rfl|false=>rw[cN]at c2;exact QR rfl<|st (QE c1 rfl)<|Qt<|Qc c2<|ret rfl
def EC{x:Str}{low:Nat}(h:Sg x)(hl:x.length<=250):WV [.str x,.int low]=some .non/\Yb x=false\/(∃n:Nat,x=ZB n/\n<low/\Yb x=true/\WV [.str x,.int low]=some .non)\/∃n:Nat,x=ZB n/\low<=n/\Yb x=true/\n<10^250/\WV [.str x,.int low]=some (.int n):=by
 have c1:Jf (Q4 D.eqO (eV 0)<|eC<|.str "") (Q4 D.neO (JX 1 [] (Zs<|eV 0) (gS 0) (Q4 D.notInS (eV 0)<|eC<|.str "0123456789")<|eV 0)<|QS lN) [some<|.str x,some<|.int low]=some (.bl<|!digB x):=by
  have:=Sv (a:=Q4 D.eqO (eV 0)<|eC<|.str "") (b:=Q4 D.neO (JX 1 [] (Zs<|eV 0) (gS 0) (Q4 D.notInS (eV 0)<|eC<|.str "0123456789")<|eV 0)<|QS lN) (e:=[some<|.str x,some<|.int low]) (Zp rfl "") λ_=>Ef Qbe rfl h (by omega);rw[this,LV];rfl
 cases hd:digB x with
 |false=>
  rw[hd]at c1;exact .inl ⟨QR rfl<|Qt<|Qc c1<|ret rfl,by unfold Yb;rw[hd];rfl⟩|true=>
  rw[hd]at c1;obtain⟨c,r,e⟩:=MM hd;have c0:QH (Q4 D.neO (eV 0)<|eC<|.str "0") (Q4 D.eqO (Q4 D.ix (eV 0)<|eC<|.int 0)<|eC<|.str "0") [some<|.str x,some<|.int low]=some (.bl<|decide (x≠"0")&&hd0 x):=by
   refine Y5 (O8 rfl "0") λ_=>?_;refine Q0 (Q0 rfl rfl<|Fx e<|by omega) rfl ?_;show D.eqO (.str ⟨#[c]⟩) (.str ⟨#[48]⟩)=_;rw[UP];unfold hd0;rw[e];exact congrArg (λb=>some<|D.bl b)<|decide_eq_decide.mpr<|by rw[En];simp
  have nb:Yb x=!(decide (x≠"0")&&hd0 x):=by
   unfold Yb;rw[hd];by_cases z:x="0";.rw[J2 z,J0 λy=>y z];rfl
   .rw[J0 z,J2 z];rfl
  cases hc:decide (x≠"0")&&hd0 x with|true=>rw[hc]at c0 nb;exact .inl ⟨QR rfl<|st (QE c1 rfl)<|Qt<|Qc (Sw c0)<|ret rfl,nb⟩|false=>
   rw[hc]at c0 nb;obtain⟨n,rfl,hn,_⟩:=Qdu nb hl;by_cases jX:n<low;.exact .inr<|.inl ⟨n,rfl,jX,nb,QR rfl<|st (QE c1 rfl)<|Qt<|Qc (X4 c0<|Q0 (Qf rfl<|SR hn) rfl<|O4<|by omega)<|ret rfl⟩
   .exact .inr<|.inr ⟨n,rfl,by omega,nb,hn,QR rfl<|st (QE c1 rfl)<|st (QE (X4 c0<|Q0 (Qf rfl<|SR hn) rfl<|LM<|by omega) rfl)<|ret<|Qf rfl<|SR hn⟩
def QcB{ps:List Str}(hl:ps.length<=500)(hp:∀p∈ps,p.length<=2000):D.joinS " " (QB ps)=QI (Str.join " " ps):=by show((Wi<|ps.map .str).bind λN=>if N.length<=500/\∀y∈N,y.length<=2000 then some<|D.str<|Str.join " " N else none)=_;rw[Cu];show(if ps.length<=500/\∀y∈ps,y.length<=2000 then _ else none)=_;rw[if_pos ⟨hl,hp⟩]
def ED{x:Str}(hl:x.length<=400):Pe [QB<|Qo x]=some (if titB x=true then .str x else .non):=by
 have hj:=QcB (ps:=Qo x) (by have:=Qe6 x;omega) λp hp=>by have:=(D5 x p hp).2;omega
 rw[Qe5]at hj;have c1:Jf (QF (eV 1)<|Q1 "") (JQ (eV 1)<|Q4 (QX XI) (eV 1)<|Q1 " ") [some<|QB<|Qo x,QI x]=QL (!titB x):=by
  have:=Sv (a:=QF (eV 1)<|Q1 "") (b:=JQ (eV 1)<|Q4 (QX XI) (eV 1)<|Q1 " ") (e:=[some<|QB<|Qo x,QI x]) (Zp rfl "") λ_=>Q0 rfl (Cs rfl<|by omega)<|Xn _ _;rw[this,LV];rfl
 cases ht:titB x with
 |true=>rw[ht]at c1;exact QR rfl<|st (QP (Qf rfl hj) rfl)<|st (QE c1 rfl)<|ret rfl|false=>rw[ht]at c1;exact QR rfl<|st (QP (Qf rfl hj) rfl)<|Qt<|Qc c1<|ret rfl
def Xj(w:Str)(ps:List Str):D.ix (QB<|w::ps) (.int 0)=QI w:=by show((JD ((w::ps).map D.str).length 0).bind λk=>((w::ps).map D.str)[k]?)=_;unfold JD;rw[if_pos<|by omega,if_pos<|by first|(simp;done)|(simp;omega)];rfl
def W6(a b:Str)(ps:List Str):D.ix (QB<|a::b::ps) (.int 1)=QI b:=by show((JD ((a::b::ps).map D.str).length 1).bind λk=>((a::b::ps).map D.str)[k]?)=_;unfold JD;rw[if_pos<|by omega,if_pos<|by first|(simp;done)|(simp;omega)];rfl
def SW(a b c:Str)(ps:List Str):D.ix (QB<|a::b::c::ps) (.int 2)=QI c:=by show((JD ((a::b::c::ps).map D.str).length 2).bind λk=>((a::b::c::ps).map D.str)[k]?)=_;unfold JD;rw[if_pos<|by omega,if_pos<|by first|(simp;done)|(simp;omega)];rfl
def VB(ps:List Str):D.len (QB ps)=QA (ps.length:Nat):=by show some (D.int ((ps.map D.str).length:Nat))=_;rw[Qr]
def kk{w:Str}{ps:List Str}{v:Option D}(K:Str):QF (Q9 0 0) (eC<|.str K) [some<|QB<|w::ps,v]=QL (decide<|w=K):=Zp (Q0 rfl rfl<|Xj w ps) K
def PQ(i j:Int):D.eqO (.int i) (.int j)=QL (decide<|i=j):=by
 by_cases h:i=j;.rw[ZM h,J2 h]
 .rw[JR h,J0 h]
def kl{w:Str}{ps:List Str}{v:Option D}(n:Int):QF (QD D.len<|eV 0) (eC<|.int n) [some<|QB<|w::ps,v]=QL (decide<|((ps.length+1:Nat):Int)=n):=Q0 (Qf rfl<|VB _) rfl<|PQ _ _
def kg{w:Str}{ps:List Str}{v:Option D}(n:Int):Q4 D.gt (QD D.len<|eV 0) (eC<|.int n) [some<|QB<|w::ps,v]=QL (decide<|n<((ps.length+1:Nat):Int)):=Q0 (Qf rfl<|VB _) rfl rfl
def Ud{w:Str}{ps:List Str}(h1:w="para"->ps.length≠0)(h2:w="table"->ps.length≠1)(h3:w="plates"->ps.length≠2)(h4:w="chapter"->ps.length<2)(h5:w="heading"->ps.length<3):Zj [QB<|w::ps]=some (.tup [.str "",.non]):=by
 have f:∀{K:Str}{q:Bool}{z:Q6},z [some<|QB<|w::ps,none]=QL q->(w=K->q=false)->QH (QF (Q9 0 0)<|eC<|.str K) z [some<|QB<|w::ps,none]=QL false:=λ{K q z}hz hq=>by
  by_cases hw:w=K;.rw[JE (by rw[kk,J2 hw]) hz,hq hw]
  .exact JT<|by rw[kk,J0 hw]
 exact QR rfl<|st (QE (f (kl 1) λz=>J0<|by have:=h1 z;omega) rfl)<|st (QE (f (kl 2) λz=>J0<|by have:=h2 z;omega) rfl)<|st (QE (f (kl 3) λz=>J0<|by have:=h3 z;omega) rfl)<|st (QE (f (kg 2) λz=>J0<|by have:=h4 z;omega) rfl)<|st (QE (f (kg 3) λz=>J0<|by have:=h5 z;omega) rfl)<|ret<|YM rfl rfl
def Y7(l:Str):Bool:=decide (l="-")||labB l
def YH(l:Str):D:=if Y7 l=true then .str (Y3 l)else .non
def Wj(t:Str):D:=if titB t=true then .str t else .non
def Pu{l:Str}(h:Sg l)(hl:l.length<=1000):Vv [.str l,.bl true]=some (YH l):=by
 rw[LH h hl];unfold YH Y7 Y3;by_cases z:l="-";.simp[z]
 .simp[z]
def kN{w:Str}{ps:List Str}{v:Option D}{K:Str}{z:Q6}(h:decide (w=K)=false):QH (QF (Q9 0 0)<|eC<|.str K) z [some<|QB<|w::ps,v]=QL false:=JT<|by rw[kk,h]
def kY{w:Str}{ps:List Str}{v:Option D}{K:Str}{z:Q6}{q:Bool}(h:decide (w=K)=true)(hz:z [some<|QB<|w::ps,v]=QL q):QH (QF (Q9 0 0)<|eC<|.str K) z [some<|QB<|w::ps,v]=QL q:=JE (by rw[kk,h]) hz
def QcZ{l:Str}(h:Sg l)(hl:l.length<=1000):Zj [QB ["table",l]]=some (.tup [.str "table",.lst [],YH l]):=QR rfl<|st (QE (kN<|by decide) rfl)<|Qt<|Qc (kY (by decide)<|kl 2)<|ret<|VN rfl rfl<|Zb (Q0 rfl rfl<|W6 _ _ _) rfl<|Pu h hl
def QcY{n l:Str}{d:D}(h:Sg l)(hl:l.length<=1000)(hn:WV [.str n,.int ((1:Nat):Int)]=some d):Zj [QB ["plates",n,l]]=some (.tup [.str "plates",d,YH l]):=QR rfl<|st (QE (kN<|by decide) rfl)<|st (QE (kN<|by decide) rfl)<|Qt<|Qc (kY (by decide)<|kl 3)<|ret<|VN rfl (Zb (Q0 rfl rfl<|W6 _ _ _) rfl hn)<|Zb (Q0 rfl rfl<|SW _ _ _ _) rfl<|Pu h hl
def P8{xs:List Str}(k:Nat):XY (QB xs) (some (k:Int)) none=some (QB<|xs.drop k):=by
 show some (D.lst<|Jt (xs.map D.str) (some (k:Int)) none)=_;unfold Jt QB;congr 2;have e1:ZC (xs.map D.str).length 0 (some (k:Int))=min k xs.length:=by
  show(if(k:Int)<0 then((k:Int)+((xs.map D.str).length:Int)).toNat else min (k:Int).toNat (xs.map D.str).length)=_;rw[if_neg<|by omega,Qr,Xs]
 have e2:ZC (xs.map D.str).length (xs.map D.str).length none=xs.length:=by show(xs.map D.str).length=_;rw[Qr]
 rw[e1,e2,<-map_drop,<-map_take];congr 1;rw[List.take_of_length_le (l:=xs.drop<|min k xs.length) (i:=xs.length-min k xs.length)<|by rw[X8];exact Qm _];by_cases h:k<=xs.length;.rw[Nat.min_eq_left h]
 .rw[Nat.min_eq_right<|by omega,Wf<|by omega,Wf<|by omega]
def QcW{l t:Str}(h:Sg l)(hl:l.length<=1000)(ht:t.length<=400):Zj [QB<|"chapter"::l::Qo t]=some (.tup [.str "chapter",Wj t,YH l]):=by have n0:1<=(Qo t).length:=q_40.mpr<|Wa t;exact QR rfl<|st (QE (kN<|by decide) rfl)<|st (QE (kN<|by decide) rfl)<|st (QE (kN<|by decide) rfl)<|Qt<|Qc ((kY (K:="chapter") (by decide)<|kg 2).trans<|by rw[J2<|by rw[Jb];omega])<|ret<|VN rfl (Qs (Yh rfl rfl rfl<|P8 2)<|ED ht)<|Zb (Q0 rfl rfl<|W6 _ _ _) rfl<|Pu h hl
def QcX{n l t:Str}{d:D}(h:Sg l)(hl:l.length<=1000)(ht:t.length<=400)(hn:WV [.str n,.int ((0:Nat):Int)]=some d):Zj [QB<|"heading"::n::l::Qo t]=some (.tup [.str "heading",Wj t,d,YH l]):=by have n0:1<=(Qo t).length:=q_40.mpr<|Wa t;exact QR rfl<|st (QE (kN<|by decide) rfl)<|st (QE (kN<|by decide) rfl)<|st (QE (kN<|by decide) rfl)<|st (QE (kN<|by decide) rfl)<|Qt<|Qc ((kY (K:="heading") (by decide)<|kg 3).trans<|by rw[J2<|by rw[Jb,Jb];omega])<|st (QP (Zb (Q0 rfl rfl<|W6 _ _ _) rfl hn) rfl)<|ret<|U8 rfl (Qs (Yh rfl rfl rfl<|P8 3)<|ED ht) rfl<|Zb (Q0 rfl rfl<|SW _ _ _ _) rfl<|Pu h hl
structure NewB(x:Str)(b:Bo):Prop where
 first:b.first=x
 more:b.more=[]w:b.w
 dd:∃ds,b.d=.tup ds/\ds.all Zv=true/\ds.any Zu=false
 bk:WK b.d=b.bk
def NG{l:Str}(h:Y7 l=true):Je (Y3 l)=l:=by
 unfold Je Y3;by_cases z:l="-";.rw[if_pos z,if_pos rfl,z]
 .rw[if_neg z];unfold Y7 at h;rw[J0 z,Bool.false_or]at h;unfold labB at h;rw[Ja]at h;rw[if_neg<|of_decide_eq_true h.1]
def NI(l:Str):(Y3 l).length<=l.length:=by
 unfold Y3;split;.exact Zm _
 .exact Qm _
def Pw{l:Str}(h:Y7 l=false):YH l=.non:=by unfold YH;rw[h];rfl
def Px{l:Str}(h:Y7 l=true):YH l=.str (Y3 l):=by unfold YH;rw[h];rfl
def Ub(l:Str):Zv (YH l)=true:=by unfold YH;split<;>rfl
def Kg(l:Str):Zv (Wj l)=true:=by unfold Wj;split<;>rfl
def B8{l:Str}(h:titB l=false):Wj l=.non:=by unfold Wj;rw[h];rfl
def B9{l:Str}(h:titB l=true):Wj l=.str l:=by unfold Wj;rw[h];rfl
def Pn{x:Str}(h:Sg x)(hl:x.length<=1000):Vx [.str x]=QL (Y7 x):=Qcj h hl
def QfU{w r:Str}(hw:32∉cs w)(h2:w≠"table")(h3:w≠"plates")(h4:w≠"chapter")(h5:w≠"heading"):Zr [.str<|w++" "++r]=some .non:=by
 have np:w++" "++r≠("para":Str):=λz=>by
  have:=congrArg cs z;rw[Vr]at this;have h:32∈cs "para":=by rw[<-this];simp
  exact absurd h<|by decide
 have s:∀{K L:Str},L=K++" "->32∉cs K->w≠K->Q4 (QX Jl) (eV 0) (eC<|.str L) [QI<|w++" "++r]=QL false:=λ{K L}e hK hn=>by
  subst e;refine Q0 rfl rfl ?_;show some (D.bl<|Txt.startswith (w++" "++r)<|K++" ")=_;rw[Cw hw hK,J0 hn]
 exact QR rfl<|st (QE ((Zp rfl "para").trans<|by rw[J0 np]) rfl)<|st (QE (s (K:="chapter") rfl (by decide) h4) rfl)<|st (QE (s (K:="heading") rfl (by decide) h5) rfl)<|st (QE (s (K:="table") rfl (by decide) h2) rfl)<|st (QE (s (K:="plates") rfl (by decide) h3) rfl)<|ret rfl
def OA{w r:Str}(hw:32∉cs w):decide (w++" "++r=("para":Str))=false:=J0 λz=>by
 have:=congrArg cs z;rw[Vr]at this;have h:32∈cs "para":=by rw[<-this];simp
 exact absurd h<|by decide
def sK{w r K L:Str}{t:Bool}{v:List<|Option D}(e:L=K++" ")(hw:32∉cs w)(hK:32∉cs K)(ht:decide (w=K)=t):Q4 (QX Jl) (eV 0) (eC<|.str L) (QI (w++" "++r)::v)=QL t:=by subst e;refine Q0 rfl rfl ?_;show some (D.bl<|Txt.startswith (w++" "++r)<|K++" ")=_;rw[Cw hw hK,ht]
def AG{x:Str}(h:32∉cs x):x="para"/\Zr [.str x]=some (.tup [.str "para",.lst []])/\Zj [QB<|Qo x]=some (.tup [.str "para",.lst []])\/Zr [.str x]=some .non/\Zj [QB<|Qo x]=some (.tup [.str "",.non]):=by
 rw[Zd h];by_cases hp:x="para"
 .subst hp;exact .inl ⟨rfl,QR rfl<|Qt<|Qc ((Zp (x:="para") rfl "para").trans<|by rw[J2 rfl])<|ret<|YM rfl rfl,QR rfl<|Qt<|Qc (kY (by decide)<|kl 1)<|ret<|YM rfl rfl⟩
 .have s:∀{K L:Str},L=K++" "->Q4 (QX Jl) (eV 0) (eC<|.str L) [QI x]=QL false:=λ{K L}e=>by
   subst e;refine Q0 rfl rfl ?_;show some (D.bl<|Txt.startswith x<|K++" ")=_;rw[Cy h]
  exact .inr ⟨QR rfl<|st (QE ((Zp rfl "para").trans<|by rw[J0 hp]) rfl)<|st (QE (s (K:="chapter") rfl) rfl)<|st (QE (s (K:="heading") rfl) rfl)<|st (QE (s (K:="table") rfl) rfl)<|st (QE (s (K:="plates") rfl) rfl)<|ret rfl,Ud (λz=>absurd z hp) (λ_=>by simp) (λ_=>by simp) (λ_=>by simp) λ_=>by simp⟩
def Xl{w r:Str}(hw:32∉cs w)(n:Nat){L:List Str}(h:JV 32 n (cs r)=L.map cs):JV 32 (n+1) (cs<|w++" "++r)=(w::L).map cs:=by rw[Vr,NA n _ hw,h];rfl
def LO{r:Str}(hr:32∉cs r)(n:Nat):JV 32 n (cs r)=[r].map cs:=by rw[NC n hr];rfl
def EO(r:Str):JV 32 0 (cs r)=[r].map cs:=by rw[Ck];rfl
def X2(x:Str):Zv (.str x)=true:=rfl
def X1:Zv .non=true:=rfl
def Uh(x:List D):Zv (.lst x)=true:=rfl
def Ug(x:Int):Zv (.int x)=true:=rfl
def W4:Zu .non=true:=rfl
def e1:(" ":Str).length=1:=rfl
def BlkR(x:Str):Prop:=(∃b,NewB x b/\Zr [.str x]=some b.d/\Zj [QB<|Qo x]=some b.d)\/Zr [.str x]=some .non/\∃ds,Zj [QB<|Qo x]=some (.tup ds)/\ds.all Zv=true/\ds.any Zu=true
def Ed:∃ds,some (D.tup [.str "",.non])=some (.tup ds)/\ds.all Zv=true/\ds.any Zu=true:=⟨_,rfl,rfl,rfl⟩
def BlkR.no{x:Str}(h1:Zr [.str x]=some .non)(h2:Zj [QB<|Qo x]=some (.tup [.str "",.non])):BlkR x:=.inr ⟨h1,by rw[h2];exact Ed⟩
def Sh{a b:Q6}{e:Q8}{L:List Str}{n:Int}(he:eV 1 e=some (QB L))(h:((L.length:Nat):Int)=n){q:Option D}(hb:b e=q):QH (QF (QD D.len<|eV 1)<|eC<|.int n) b e=q:=JE (Q0 (Qf he<|VB L) rfl<|ZM h) hb
def Sf{b:Q6}{e:Q8}{L:List Str}{n:Int}(he:eV 1 e=some (QB L))(h:((L.length:Nat):Int)≠n):QH (QF (QD D.len<|eV 1)<|eC<|.int n) b e=QL false:=JT<|Q0 (Qf he<|VB L) rfl<|JR h
def AF{r:Str}(h:Rw<|"chapter"++" "++r):BlkR<|"chapter"++" "++r:=by
 obtain⟨dN,hl⟩:=h;have sr:Sg r:=dN.r;rw[la,la]at hl;have e7:("chapter":Str).length=7:=rfl;have e1:=e1;have to:∀{d:D},Mn [.str<|"chapter"++" "++r]=some d->Zr [.str<|"chapter"++" "++r]=some d:=λhd=>QR rfl<|st (QE ((Zp rfl "para").trans<|by rw[OA<|by decide]) rfl)<|Qt<|Qc (sK (K:="chapter") rfl (by decide) (by decide)<|by decide)<|ret<|Qs rfl hd;rcases cutS r with hr|⟨l,t,rfl,hlf⟩
 .refine .no (to ?_) ?_;.exact QR rfl<|st (QP (N9 (L:=["chapter",r]) rfl (by rw[la,la];omega) (by decide)<|Xl (by decide) 1<|LO hr 1) rfl)<|st (QE (Sf (L:=["chapter",r]) rfl<|by simp) rfl)<|ret rfl
  .rw[JP<|by decide,Zd hr];exact Ud (λz=>absurd z<|by decide) (λz=>absurd z<|by decide) (λz=>absurd z<|by decide) (λ_=>by simp) λz=>absurd z<|by decide
 .rw[la,la]at hl;have sl:Sg l:=sr.l.l;have dU:Zj [QB<|Qo<|"chapter"++" "++(l++" "++t)]=some (.tup [.str "chapter",Wj t,YH l]):=by
   rw[JP<|by decide,JP hlf];exact QcW sl (by omega)<|by omega
  have hs:Q4 (QX<|XG 2) (eV 0) (Q1 " ") [QI<|"chapter"++" "++(l++" "++t),none]=some (QB ["chapter",l,t]):=N9 (L:=["chapter",l,t]) rfl (by rw[la,la,la,la];omega) (by decide)<|Xl (by decide) 1<|Xl hlf 0<|EO t;have c:∀e,eV 1 e=some (QB ["chapter",l,t])->QH (QF (QD D.len<|eV 1)<|Q2 3) (QH (eK Vx<|QT<|Q9 1 1)<|eK TL<|QT<|Q9 1 2) e=QL (Y7 l&&titB t):=λe he=>Sh (a:=eV 1) he rfl<|Y5 (Qs (Q0 he rfl rfl)<|Pn sl<|by omega) λ_=>Qs (Q0 he rfl rfl)<|Fp (by omega);cases hb:Y7 l&&titB t with
  |true=>
   obtain⟨b1,b2⟩:=q_69.mp hb;refine .inl ⟨.chap t<|Y3 l,⟨?_,rfl,⟨by omega,by have:=NI l;omega⟩,⟨_,rfl,rfl,rfl⟩,rfl⟩,to ?_,?_⟩
   .show "chapter "++Je (Y3 l)++" "++t=_;rw[NG b1];show "chapter"++" "++l++" "++t=_;simp only[XU]
   .exact QR rfl<|st (QP hs rfl)<|Qt<|Qc (by rw[c _ rfl,hb])<|ret<|VN rfl (Q0 rfl rfl rfl)<|Qs (Q0 rfl rfl rfl)<|Ox l
   .rw[dU,B9 b2,Px b1];rfl|false=>
   refine .inr ⟨to ?_,_,dU,by simp[Ub,Kg,X2,X1,Uh,Ug],?_⟩;.exact QR rfl<|st (QP hs rfl)<|st (QE (by rw[c _ rfl,hb]) rfl)<|ret rfl
   .rcases Bool.and_eq_false_iff.mp hb with z|z;.rw[Pw z];simp[W4]
    .rw[B8 z];simp[W4]
def AJ{r:Str}(h:Rw<|"table"++" "++r):BlkR<|"table"++" "++r:=by
 obtain⟨dN,hl⟩:=h;have sr:Sg r:=dN.r;rw[la,la]at hl;have e7:("table":Str).length=5:=rfl;have e1:=e1;have to:∀{d:D},Mq [.str<|"table"++" "++r]=some d->Zr [.str<|"table"++" "++r]=some d:=λhd=>QR rfl<|st (QE ((Zp rfl "para").trans<|by rw[OA<|by decide]) rfl)<|st (QE (sK (K:="chapter") rfl (by decide) (by decide)<|by decide) rfl)<|st (QE (sK (K:="heading") rfl (by decide) (by decide)<|by decide) rfl)<|Qt<|Qc (sK (K:="table") rfl (by decide) (by decide)<|by decide)<|ret<|Qs rfl hd;have hs:Q4 (QX ZE) (eV 0) (Q1 " ") [QI<|"table"++" "++r,none]=some (QB<|Qo<|"table"++" "++r):=Rf rfl (by rw[la,la];omega);rw[JP<|by decide]at hs;rcases cutS r with hr|⟨l,t,rfl,hlf⟩
 .rw[Zd hr]at hs;have dU:Zj [QB<|Qo<|"table"++" "++r]=some (.tup [.str "table",.lst [],YH r]):=by
   rw[JP<|by decide,Zd hr];exact QcZ sr<|by omega
  have c:∀e,eV 1 e=some (QB ["table",r])->QH (QF (QD D.len<|eV 1)<|Q2 2) (eK Vx<|QT<|Q9 1 1) e=QL (Y7 r):=λe he=>Sh (a:=eV 1) he rfl<|Qs (Q0 he rfl rfl)<|Pn sr (by omega);cases hb:Y7 r with
  |true=>
   refine .inl ⟨.tab []<|Y3 r,⟨?_,rfl,⟨λ_ h=>(by cases h),Zm _,by have:=NI r;omega⟩,⟨_,rfl,rfl,rfl⟩,rfl⟩,to ?_,?_⟩
   .show "table "++Je (Y3 r)=_;rw[NG hb];show "table"++" "++r=_;rfl
   .exact QR rfl<|st (QP hs rfl)<|Qt<|Qc (by rw[c _ rfl,hb])<|ret<|VN rfl rfl<|Qs (Q0 rfl rfl rfl)<|Ox r
   .rw[dU,Px hb];rfl|false=>
   refine .inr ⟨to ?_,_,dU,by simp[Ub,X2,X1,Uh,Ug],by rw[Pw hb];simp[W4]⟩;exact QR rfl<|st (QP hs rfl)<|st (QE (by rw[c _ rfl,hb]) rfl)<|ret rfl
 .rw[JP hlf]at hs;have n0:1<=(Qo t).length:=q_40.mpr<|Wa t;refine .no (to ?_) ?_;.exact QR rfl<|st (QP hs rfl)<|st (QE (Sf (L:="table"::l::Qo t) rfl<|by rw[Jb,Jb];omega) rfl)<|ret rfl
  .rw[JP<|by decide,JP hlf];exact Ud (λz=>absurd z<|by decide) (λ_=>by rw[Jb];omega) (λz=>absurd z<|by decide) (λz=>absurd z<|by decide) λz=>absurd z<|by decide
def AI{r:Str}(h:Rw<|"plates"++" "++r):BlkR<|"plates"++" "++r:=by
 obtain⟨dN,hl⟩:=h;have sr:Sg r:=dN.r;rw[la,la]at hl;have e7:("plates":Str).length=6:=rfl;have e1:=e1;have to:∀{d:D},Mp [.str<|"plates"++" "++r]=some d->Zr [.str<|"plates"++" "++r]=some d:=λhd=>QR rfl<|st (QE ((Zp rfl "para").trans<|by rw[OA<|by decide]) rfl)<|st (QE (sK (K:="chapter") rfl (by decide) (by decide)<|by decide) rfl)<|st (QE (sK (K:="heading") rfl (by decide) (by decide)<|by decide) rfl)<|st (QE (sK (K:="table") rfl (by decide) (by decide)<|by decide) rfl)<|Qt<|Qc (sK (K:="plates") rfl (by decide) (by decide)<|by decide)<|ret<|Qs rfl hd;have hs:Q4 (QX ZE) (eV 0) (Q1 " ") [QI<|"plates"++" "++r,none]=some (QB<|Qo<|"plates"++" "++r):=Rf rfl (by rw[la,la];omega);rw[JP<|by decide]at hs;have bad:(Qo r).length≠2->BlkR ("plates"++" "++r):=λhn=>by
  refine .no (to ?_) ?_;.exact QR rfl<|st (QP hs rfl)<|st (QE (Sf (L:="plates"::Qo r) rfl<|by rw[Jb];omega) rfl)<|ret rfl
  .rw[JP<|by decide];exact Ud (λz=>absurd z<|by decide) (λz=>absurd z<|by decide) (λ_=>hn) (λz=>absurd z<|by decide) λz=>absurd z<|by decide
 rcases cutS r with hr|⟨n,l,rfl,cP⟩;.exact bad<|by rw[Zd hr];simp
 rcases(cutS l).symm with⟨l1,l2,rfl,hlf⟩|hlf;.refine bad ?_;rw[JP cP,JP hlf];have n0:1<=(Qo l2).length:=q_40.mpr<|Wa l2;rw[Jb,Jb];omega
 rw[JP cP,Zd hlf]at hs;rw[la,la]at hl;have sn:Sg n:=sr.l.l;have sl:Sg l:=sr.r;have c:∀e,eV 1 e=some (QB ["plates",n,l])->QH (QF (QD D.len<|eV 1)<|Q2 3) (QH (eK TK<|QT<|Q9 1 1)<|QH (JQ (Q9 1 1)<|Q1 "0")<|eK Vx<|QT<|Q9 1 2) e=QL (Yb n&&(!decide (n="0")&&Y7 l)):=λe he=>Sh (a:=eV 1) he rfl<|Y5 (Qs (Q0 he rfl rfl)<|Fo sn<|by omega) λ_=>Y5 (Q0 (x:=.str n) (Q0 he rfl rfl) rfl<|Xn n "0") λ_=>Qs (Q0 he rfl rfl)<|Pn sl (by omega);have cC:∀{d:D},WV [.str n,.int ((1:Nat):Int)]=some d->Zj [QB<|Qo<|"plates"++" "++(n++" "++l)]=some (.tup [.str "plates",d,YH l]):=λhd=>by rw[JP<|by decide,JP cP,Zd hlf];exact QcY sl (by omega) hd
 have no:Yb n=false\/n="0"\/Y7 l=false->Zr [.str<|"plates"++" "++(n++" "++l)]=some .non:=λz=>by
  refine to<|QR rfl<|st (QP hs rfl)<|st (QE ?_ rfl)<|ret rfl;rw[c _ rfl];rcases z with z|z|z;.rw[z];rfl
  .rw[J2 z];simp
  .rw[z];simp
 rcases EC (low:=1) sn<|by omega with⟨hd,nb⟩|⟨k,rfl,hk,nb,hd⟩|⟨k,rfl,hk,nb,gB,hd⟩;.exact .inr ⟨no<|.inl nb,_,cC hd,by simp[Ub,X2,X1,Uh,Ug],by simp[W4]⟩
 .have k0:k=0:=by omega
  subst k0;exact .inr ⟨no<|.inr<|.inl rfl,_,cC hd,by simp[Ub,X2,X1,Uh,Ug],by simp[W4]⟩
 .cases hb:Y7 l with
  |false=>exact .inr ⟨no<|.inr<|.inr hb,_,cC hd,by simp[Ub,X2,X1,Uh,Ug],by rw[Pw hb];simp[W4]⟩|true=>
   have n0:ZB k≠"0":=λz=>by
    obtain⟨c,r,e,hc⟩:=Ei (n:=k) (by omega);rw[z]at e;exact hc (List.cons.inj<|show[48]=c::r from e).1.symm
   refine .inl ⟨.plat k<|Y3 l,⟨?_,rfl,⟨gB,by have:=NI l;omega⟩,⟨_,rfl,rfl,rfl⟩,rfl⟩,to ?_,?_⟩
   .show "plates "++ZB k++" "++Je (Y3 l)=_;rw[NG hb];show "plates"++" "++ZB k++" "++l=_;simp only[XU]
   .exact QR rfl<|st (QP hs rfl)<|Qt<|Qc (by rw[c _ rfl,nb,hb,J0 n0];rfl)<|ret<|VN rfl (Qf (Q0 rfl rfl rfl)<|SR gB)<|Qs (Q0 rfl rfl rfl)<|Ox l
   .rw[cC hd,Px hb];rfl
def AH{r:Str}(h:Rw<|"heading"++" "++r):BlkR<|"heading"++" "++r:=by
 obtain⟨dN,hl⟩:=h;have sr:Sg r:=dN.r;rw[la,la]at hl;have e7:("heading":Str).length=7:=rfl;have e1:=e1;have to:∀{d:D},Mo [.str<|"heading"++" "++r]=some d->Zr [.str<|"heading"++" "++r]=some d:=λhd=>QR rfl<|st (QE ((Zp rfl "para").trans<|by rw[OA<|by decide]) rfl)<|st (QE (sK (K:="chapter") rfl (by decide) (by decide)<|by decide) rfl)<|Qt<|Qc (sK (K:="heading") rfl (by decide) (by decide)<|by decide)<|ret<|Qs rfl hd;have bad:∀{L:List Str},JV 32 2 (cs r)=L.map cs->L.length≠3->(Qo r).length<3->BlkR ("heading"++" "++r):=λ{L}hL hn hp=>by
  refine .no (to ?_) ?_;.exact QR rfl<|st (QP (N9 (L:="heading"::L) rfl (by rw[la,la];omega) (by decide)<|Xl (by decide) 2 hL) rfl)<|st (QE (Sf (L:="heading"::L) rfl<|by rw[Jb];omega) rfl)<|ret rfl
  .rw[JP<|by decide];exact Ud (λz=>absurd z<|by decide) (λz=>absurd z<|by decide) (λz=>absurd z<|by decide) (λz=>absurd z<|by decide) λ_=>hp
 rcases cutS r with hr|⟨n,r1,rfl,cP⟩;.exact bad (LO hr 2) (by simp)<|by rw[Zd hr];simp
 rcases cutS r1 with kK|⟨l,t,rfl,hlf⟩;.exact bad (Xl cP 1<|LO kK 1) (by simp)<|by rw[JP cP,Zd kK];simp
 rw[la,la,la,la]at hl;have sn:Sg n:=sr.l.l;have sl:Sg l:=sr.r.l.l;have hs:Q4 (QX<|XG 3) (eV 0) (Q1 " ") [QI<|"heading"++" "++(n++" "++(l++" "++t)),none]=some (QB ["heading",n,l,t]):=N9 (L:=["heading",n,l,t]) rfl (by simp only[la];omega) (by decide)<|Xl (by decide) 2<|Xl cP 1<|Xl hlf 0<|EO t;have c:∀e,eV 1 e=some (QB ["heading",n,l,t])->QH (QF (QD D.len<|eV 1)<|Q2 4) (QH (eK TK<|QT<|Q9 1 1)<|QH (eK Vx<|QT<|Q9 1 2)<|eK TL<|QT<|Q9 1 3) e=QL (Yb n&&(Y7 l&&titB t)):=λe he=>Sh (a:=eV 1) he rfl<|Y5 (Qs (Q0 he rfl rfl)<|Fo sn<|by omega) λ_=>Y5 (Qs (Q0 he rfl rfl)<|Pn sl<|by omega) λ_=>Qs (Q0 he rfl rfl)<|Fp (by omega);have cC:∀{d:D},WV [.str n,.int ((0:Nat):Int)]=some d->Zj [QB<|Qo<|"heading"++" "++(n++" "++(l++" "++t))]=some (.tup [.str "heading",Wj t,d,YH l]):=λhd=>by
  rw[JP<|by decide,JP cP,JP hlf];exact QcX sl (by omega) (by omega) hd
 have no:(Yb n&&(Y7 l&&titB t))=false->Zr [.str<|"heading"++" "++(n++" "++(l++" "++t))]=some .non:=λz=>to<|QR rfl<|st (QP hs rfl)<|st (QE (by rw[c _ rfl,z]) rfl)<|ret rfl;rcases EC (low:=0) sn<|by omega with⟨hd,nb⟩|⟨k,rfl,hk,nb,hd⟩|⟨k,rfl,hk,nb,gB,hd⟩;.exact .inr ⟨no<|by rw[nb];rfl,_,cC hd,by simp[Ub,Kg,X2,X1,Uh,Ug],by simp[W4]⟩
 .omega
 .cases hb:Y7 l&&titB t with
  |false=>
   refine .inr ⟨no<|by rw[hb];simp,_,cC hd,by simp[Ub,Kg,X2,X1,Uh,Ug],?_⟩;rcases Bool.and_eq_false_iff.mp hb with z|z;.rw[Pw z];simp[W4]
   .rw[B8 z];simp[W4]|true=>
   obtain⟨b1,b2⟩:=q_69.mp hb;refine .inl ⟨.head t k<|Y3 l,⟨?_,rfl,⟨by omega,gB,by have:=NI l;omega⟩,⟨_,rfl,rfl,rfl⟩,rfl⟩,to ?_,?_⟩
   .show "heading "++ZB k++" "++Je (Y3 l)++" "++t=_;rw[NG b1];show "heading"++" "++ZB k++" "++l++" "++t=_;simp only[XU]
   .exact QR rfl<|st (QP hs rfl)<|Qt<|Qc (by rw[c _ rfl,nb,hb];rfl)<|ret<|U8 rfl (Q0 rfl rfl rfl) (Qf (Q0 rfl rfl rfl)<|SR gB)<|Qs (Q0 rfl rfl rfl)<|Ox l
   .rw[cC hd,B9 b2,Px b1];rfl
def blk{x:Str}(h:Rw x):BlkR x:=by
 rcases cutS x with hx|⟨w,r,rfl,hw⟩
 .rcases AG hx with⟨rfl,h1,h2⟩|⟨h1,h2⟩;.exact .inl ⟨.para [],⟨rfl,rfl,λ_ h=>(by cases h),⟨_,rfl,rfl,rfl⟩,rfl⟩,h1,h2⟩
  .exact .no h1 h2
 .by_cases c2:w="table";.subst c2;exact AJ h
  by_cases c3:w="plates";.subst c3;exact AI h
  by_cases c4:w="chapter";.subst c4;exact AF h
  by_cases c5:w="heading";.subst c5;exact AH h
  refine .no (QfU hw c2 c3 c4 c5) ?_;rw[JP hw];have n0:1<=(Qo r).length:=q_40.mpr<|Wa r;exact Ud (λ_=>by omega) (λz=>absurd z c2) (λz=>absurd z c3) (λz=>absurd z c4) λz=>absurd z c5
structure NewI(x:Str)(i:It):Prop where
 rows:i.rows=[x]w:i.w
 dd:∃ds,i.d=.tup ds/\ds.all Zv=true/\ds.any Zu=false
 im:Wk i.d=i.im
 free:i.free
def ItmR(x:Str):Prop:=(∃i,NewI x i/\Ym [.str x]=some i.d/\YV [QB<|Qo x]=some i.d)\/Ym [.str x]=some .non/\∃ds,YV [QB<|Qo x]=some (.tup ds)/\ds.all Zv=true/\ds.any Zu=true
def ItmR.no{x:Str}(h1:Ym [.str x]=some .non)(h2:YV [QB<|Qo x]=some (.tup [.str "",.non])):ItmR x:=.inr ⟨h1,by rw[h2];exact Ed⟩
def kin{w:Str}{ps:List Str}{v:Option D}:Q4 D.inO (Q9 0 0) (Qe<|J3 (Q1 "word")<|Q1 "key") [some<|QB<|w::ps,v]=QL (decide ("word"=w)||decide ("key"=w)):=Q0 (Q0 rfl rfl<|Xj w ps) (YM rfl rfl)<|Pk _ _ _
def Xk{w:Str}{ps:List Str}(h1:w="word"\/w="key"->ps.length≠1\/ps=[("":Str)])(h2:w="mark"->ps.length≠1)(h3:w="ref"->ps.length≠2\/∃l q,ps=[l,q]/\(cs q).count 124≠1):YV [QB<|w::ps]=some (.tup [.str "",.non]):=by
 have c1:QH (Q4 D.inO (Q9 0 0)<|Qe<|J3 (Q1 "word")<|Q1 "key") (QH (QF (QD D.len<|eV 0)<|Q2 2)<|JQ (Q9 0 1)<|Q1 "") [some<|QB<|w::ps,none]=QL false:=by
  by_cases hw:w="word"\/w="key"
  .refine JE (by rw[kin];rcases hw with z|z<;>subst z<;>rfl) ?_;rcases h1 hw with z|z;.exact JT<|(kl 2).trans<|by rw[J0<|by omega]
   .subst z;exact JE ((kl 2).trans rfl)<|Q0 (x:=.str "") (Q0 rfl rfl<|W6 _ _ _) rfl<|Xn _ _
  .refine JT ?_;rw[kin,J0 λz=>hw<|.inl z.symm,J0 λz=>hw<|.inr z.symm];rfl
 have c2:QH (QF (Q9 0 0)<|Q1 "mark") (QF (QD D.len<|eV 0)<|Q2 2) [some<|QB<|w::ps,none]=QL false:=by
  by_cases hw:w="mark";.exact JE (by rw[kk,J2 hw])<|(kl 2).trans<|by rw[J0<|by have:=h2 hw;omega]
  .exact kN<|J0 hw
 have c3:QH (QF (Q9 0 0)<|Q1 "ref") (QH (QF (QD D.len<|eV 0)<|Q2 3)<|QF (Q4 (QX YE) (Q9 0 2)<|Q1 "|")<|Q2 1) [some<|QB<|w::ps,none]=QL false:=by
  by_cases hw:w="ref"
  .refine JE (by rw[kk,J2 hw]) ?_;rcases h3 hw with z|⟨l,q,rfl,z⟩;.exact JT<|(kl 3).trans<|by rw[J0<|by omega]
   .refine JE ((kl 3).trans rfl)<|Q0 (x:=.int ((cs q).count 124:Nat)) (Q0 (x:=.str q) (y:=.str ⟨#[124]⟩) (Q0 rfl rfl<|SW _ _ _ _) rfl ?_) rfl<|JR (by omega);show some (D.int<|Txt.count q ⟨#[124]⟩)=_;rw[M8]
  .exact kN<|J0 hw
 exact QR rfl<|st (QE c1 rfl)<|st (QE c2 rfl)<|st (QE c3 rfl)<|ret<|YM rfl rfl
def XE{w r:Str}{d:D}(hw:32∉cs w)(hl:(w++" "++r).length<=100000)(h1:w="ref"->Ph [.str<|w++" "++r]=some d)(h2:w="word"->d=if(decide (r≠"")&&decide (32∉cs r))=true then .tup [.str "word",.str r,.lst []]else .non)(h3:w="key"->d=if(decide (r≠"")&&decide (32∉cs r))=true then .tup [.str "key",.str r]else .non)(h4:w="mark"->UU [.str r]=QL (labB r)/\d=if labB r=true then .tup [.str "mark",.str r]else .non)(h5:w≠"ref"->w≠"word"->w≠"key"->w≠"mark"->d=.non):Ym [.str<|w++" "++r]=some d:=by
 refine QR rfl<|st (QP (Qb5 (w:=w) (r:=r) rfl hl (Vr w r) hw) rfl) ?_;have s:∀{K L:Str}{t:Bool},L=K++" "->32∉cs K->decide (w=K)=t->Q4 (QX Jl) (eV 0) (eC<|.str L) [QI<|w++" "++r,QI r]=QL t:=λe hK ht=>sK e hw hK ht;by_cases c1:w="ref";.exact Qt<|Qc (s (K:="ref") rfl (by decide)<|J2 c1)<|ret<|Qs rfl<|h1 c1
 refine st (QE (s (K:="ref") rfl (by decide)<|J0 c1) rfl) ?_;by_cases c2:w="word";.have sk:∀{K L:Str}{z:Q6},L=K++" "->32∉cs K->K≠"word"->QH (Q4 (QX Jl) (eV 0)<|eC<|.str L) z [QI<|w++" "++r,QI r]=QL false:=λe hK hn=>JT<|s e hK<|J0 (by rw[c2];exact Ne.symm hn);cases hb:decide (r≠"")&&decide (32∉cs r)with|true=>rw[h2 c2,if_pos hb];exact Qt<|Qc (JE (s (K:="word") rfl (by decide)<|J2 c2)<|Qs rfl<|(Po r).trans<|by rw[hb])<|ret<|VN rfl rfl rfl|false=>rw[h2 c2,if_neg<|by rw[hb];decide];exact st (QE (JE (s (K:="word") rfl (by decide)<|J2 c2)<|Qs rfl<|(Po r).trans<|by rw[hb]) rfl)<|st (QE (sk (K:="key") rfl (by decide)<|by decide) rfl)<|st (QE (sk (K:="mark") rfl (by decide)<|by decide) rfl)<|ret rfl
 refine st (QE (JT<|s (K:="word") rfl (by decide)<|J0 c2) rfl) ?_;by_cases c3:w="key";.cases hb:decide (r≠"")&&decide (32∉cs r)with
  |true=>rw[h3 c3,if_pos hb];exact Qt<|Qc (JE (s (K:="key") rfl (by decide)<|J2 c3)<|Qs rfl<|(Po r).trans<|by rw[hb])<|ret<|YM rfl rfl|false=>
   rw[h3 c3,if_neg<|by rw[hb];decide];exact st (QE (JE (s (K:="key") rfl (by decide)<|J2 c3)<|Qs rfl<|(Po r).trans<|by rw[hb]) rfl)<|st (QE (JT<|s (K:="mark") rfl (by decide)<|by rw[c3];decide) rfl)<|ret rfl
 refine st (QE (JT<|s (K:="key") rfl (by decide)<|J0 c3) rfl) ?_;by_cases c4:w="mark"
 .obtain⟨hi,hd⟩:=h4 c4;cases hb:labB r with
  |true=>rw[hd,if_pos hb];exact Qt<|Qc (JE (s (K:="mark") rfl (by decide)<|J2 c4)<|Qs rfl<|hi.trans<|by rw[hb])<|ret<|YM rfl rfl|false=>
   rw[hd,if_neg<|by rw[hb];decide];exact st (QE (JE (s (K:="mark") rfl (by decide)<|J2 c4)<|Qs rfl<|hi.trans<|by rw[hb]) rfl)<|ret rfl
 rw[h5 c1 c2 c3 c4];exact st (QE (JT<|s (K:="mark") rfl (by decide)<|J0 c4) rfl)<|ret rfl
def Qct{x:Str}(h:32∉cs x)(hl:x.length<=100000):ItmR x:=by
 refine .no ?_ ?_
 .have s:∀{K L:Str}{v:Option D},L=K++" "->Q4 (QX Jl) (eV 0) (eC<|.str L) [QI x,v]=QL false:=λ{K L v}e=>by subst e;refine Q0 rfl rfl ?_;show some (D.bl<|Txt.startswith x<|K++" ")=_;rw[Cy h]
  have hp:Z6 (Q4 (QX Vj) (eV 0)<|Q1 " ") 2 [QI x,none]=some (.str (Txt.partition x ⟨#[32]⟩).2.2):=by
   refine Q0 (Q0 rfl rfl<|show Vj x ⟨#[32]⟩=_ from ?_) rfl<|show D.ix (.tup<|[(Txt.partition x ⟨#[32]⟩).1,(Txt.partition x ⟨#[32]⟩).2.1,(Txt.partition x ⟨#[32]⟩).2.2].map .str) (.int 2)=_ from rfl;unfold Vj;rw[if_pos ⟨rfl,hl⟩]
  exact QR rfl<|st (QP hp rfl)<|st (QE (s (K:="ref") rfl) rfl)<|st (QE (JT<|s (K:="word") rfl) rfl)<|st (QE (JT<|s (K:="key") rfl) rfl)<|st (QE (JT<|s (K:="mark") rfl) rfl)<|ret rfl
 .rw[Zd h];exact Xk (λ_=>.inl<|by simp) (λ_=>by simp) λ_=>.inl<|by simp
def Kh{r:Str}(h:32∈cs r):2<=(Qo r).length:=by
 rcases cutS r with z|⟨a,b,rfl,z⟩;.exact absurd h z
 .rw[JP z,Jb];have:1<=(Qo b).length:=q_40.mpr<|Wa b;omega
def EF{w r:Str}{k:D}(h:w="word"/\k=.tup [.str "word",.str r,.lst []]\/w="key"/\k=.tup [.str "key",.str r])(hr:r≠""):YV [QB [w,r]]=some k:=by
 have c1:QH (Q4 D.inO (Q9 0 0)<|Qe<|J3 (Q1 "word")<|Q1 "key") (QH (QF (QD D.len<|eV 0)<|Q2 2)<|JQ (Q9 0 1)<|Q1 "") [some<|QB [w,r],none]=QL true:=by
  refine JE (by rw[kin];rcases h with⟨z,_⟩|⟨z,_⟩<;>subst z<;>rfl)<|JE ((kl 2).trans rfl)<|Q0 (x:=.str r) (Q0 rfl rfl<|W6 _ _ _) rfl ?_;rw[Xn,J0 hr];rfl
 rcases h with⟨rfl,rfl⟩|⟨rfl,rfl⟩;.exact QR rfl<|Qt<|Qc c1<|ret<|Q0 (x:=.tup [.str "word",.str r]) (y:=.tup [.lst []]) (YM (Q0 rfl rfl<|Xj _ _)<|Q0 rfl rfl<|W6 _ _ _) (Q0 (x:=.tup [.lst []]) (y:=.int 1) rfl (Qf (x:=.bl true) ((kk "word").trans rfl) rfl) rfl) rfl
 .exact QR rfl<|Qt<|Qc c1<|ret<|Q0 (x:=.tup [.str "key",.str r]) (y:=.tup []) (YM (Q0 rfl rfl<|Xj _ _)<|Q0 rfl rfl<|W6 _ _ _) (Q0 (x:=.tup [.lst []]) (y:=.int 0) rfl (Qf (x:=.bl false) ((kk "word").trans rfl) rfl) rfl) rfl
def QcO{r:Str}(h:labB r=true):32∉cs r:=λz=>by unfold labB at h;rw[Ja,q_24]at h;have:=h.2 32 z;simp at this
def QcN{r:Str}(h:labB r=true):124∉cs r:=λz=>by unfold labB at h;rw[Ja,q_24]at h;have:=h.2 124 z;simp at this
def Qcu{r:Str}(h:Rw<|"ref"++" "++r):ItmR<|"ref"++" "++r:=by
 obtain⟨dN,hl⟩:=h;have sr:Sg r:=dN.r;rw[la,la]at hl;have e3:("ref":Str).length=3:=rfl;have e1:=e1;have hs:Q4 (QX ZE) (eV 0) (eC<|.str " ") [some<|.str<|"ref"++" "++r,none,none]=some (QB<|Qo<|"ref"++" "++r):=Rf rfl (by rw[la,la];omega);rw[JP<|by decide]at hs;have to:∀{d:D},Ph [.str<|"ref"++" "++r]=some d->Ym [.str<|"ref"++" "++r]=some d:=λhd=>XE (by decide) (by rw[la,la];omega) (λ_=>hd) (λz=>absurd z<|by decide) (λz=>absurd z<|by decide) (λz=>absurd z<|by decide) λz=>absurd rfl z;have bad:(Qo r).length≠2->ItmR ("ref"++" "++r):=λhn=>by
  refine .no (to ?_) ?_;.exact QR rfl<|st (QP hs rfl)<|st (QE (Sf (L:="ref"::Qo r) rfl<|by rw[Jb];omega) rfl)<|ret rfl
  .rw[JP<|by decide];exact Xk (λz=>absurd z<|by decide) (λz=>absurd z<|by decide) λ_=>.inl hn
 rcases cutS r with hr|⟨l,q,rfl,hlf⟩;.exact bad<|by rw[Zd hr];simp
 rcases(cutS q).symm with⟨q1,q2,rfl,hqf⟩|hqf
 .refine bad ?_;rw[JP hlf,JP hqf];have n0:1<=(Qo q2).length:=q_40.mpr<|Wa q2;rw[Jb,Jb];omega
 rw[JP hlf,Zd hqf]at hs;rw[la,la]at hl;have sl:Sg l:=sr.l.l;have cnt:∀{a:Q6}{e:Q8},a e=some (.str q)->Q4 D.eqO (Q4 (QX YE) a<|eC<|.str "|") (eC<|.int 1) e=some (.bl<|decide<|(cs q).count 124=1):=λ{a e}ha=>by
  refine Q0 (x:=.int ((cs q).count 124:Nat)) (Q0 (x:=.str q) (y:=.str ⟨#[124]⟩) ha rfl ?_) rfl ?_;.show some (D.int<|Txt.count q ⟨#[124]⟩)=_;rw[M8]
  .rw[PQ];exact congrArg (λb=>some<|D.bl b)<|decide_eq_decide.mpr<|by omega
 have c:∀e,eV 1 e=some (QB ["ref",l,q])->QH (Q4 D.eqO (QD D.len<|eV 1)<|eC<|.int 3) (QH (eK UU<|lC (Q4 D.ix (eV 1)<|eC<|.int 1) lN)<|Q4 D.eqO (Q4 (QX YE) (Q4 D.ix (eV 1)<|eC<|.int 2)<|eC<|.str "|")<|eC<|.int 1) e=some (.bl<|labB l&&decide ((cs q).count 124=1)):=λe he=>Sh (a:=eV 1) he rfl<|Y5 (Qs (Q0 he rfl rfl)<|LA sl<|by omega) λ_=>cnt<|Q0 he rfl rfl;rcases Classical.em<|(cs q).count 124≠1 with hc|hc;.refine .no (to<|QR rfl<|st (QP hs rfl)<|st (QE (by rw[c _ rfl,J0 hc,Uk]) rfl)<|ret rfl) ?_;rw[JP<|by decide,JP hlf,Zd hqf];exact Xk (λz=>absurd z<|by decide) (λz=>absurd z<|by decide) λ_=>.inr ⟨l,q,rfl,hc⟩
 replace hc:(cs q).count 124=1:=Classical.not_not.mp hc;obtain⟨a,b,rfl,fa,fb⟩:∃a b:Str,q=a++"|"++b/\124∉cs a/\124∉cs b:=by
  have m:124∈cs q:=List.count_pos_iff.mp (by omega);obtain⟨s,t,e⟩:=List.append_of_mem m;rw[e,List.count_append,List.count_cons_self]at hc;refine⟨WA s,WA t,sx<|by rw[Z8,Z8,T5,T5,e,Zw];rfl,?_,?_⟩;.exact List.count_eq_zero.mp<|show s.count 124=0 by omega
  .exact List.count_eq_zero.mp<|show t.count 124=0 by omega
 have cab:cs (a++"|"++b)=cs a++124::cs b:=by rw[Z8,Z8,Zw];rfl
 have e2:("|":Str).length=1:=rfl;rw[la,la]at hl;have s2:JV 124 ((a++"|"++b:Str).length+1) (cs<|a++"|"++b)=[a,b].map cs:=by rw[cab,NA _ _ fa,NC _ fb];rfl
 have eU:∀{z:Q6}{e:Q8},z e=some (.str<|a++"|"++b)->Q4 (QX ZE) z (eC<|.str "|") e=some (QB [a,b]):=λhz=>Qgy (c:=124) rfl (by decide) hz (by rw[la,la];omega) s2;have cC:∀{d:D},Vv [.str l,.bl false]=some d->YV [QB<|Qo<|"ref"++" "++(l++" "++(a++"|"++b))]=some (.tup [.str "ref",d,.str a,.str b]):=λhd=>by
  rw[JP<|by decide,JP hlf,Zd hqf];have c1:QH (Q4 D.inO (Q4 D.ix (eV 0)<|eC<|.int 0)<|Qe<|lC (eC<|.str "word")<|lC (eC<|.str "key") lN) (QH (Q4 D.eqO (QD D.len<|eV 0)<|eC<|.int 2)<|Q4 D.neO (Q4 D.ix (eV 0)<|eC<|.int 1)<|eC<|.str "") [some<|QB ["ref",l,a++"|"++b],none]=some (.bl false):=JT<|kin.trans rfl;exact QR rfl<|st (QE c1 rfl)<|st (QE (kN<|by decide) rfl)<|Qt<|Qc (JE ((kk "ref").trans rfl)<|JE ((kl 3).trans rfl)<|(cnt<|Q0 rfl rfl<|SW _ _ _ _).trans<|by rw[J2 hc])<|st (QP (eU<|Q0 rfl rfl<|SW _ _ _ _) rfl)<|ret<|U8 rfl (Zb (Q0 rfl rfl<|W6 _ _ _) rfl hd) (Q0 rfl rfl<|Xj _ _)<|Q0 rfl rfl<|W6 _ _ _
 have cN:=LH (b:=false) sl (show l.length<=1000 by omega);rw[Bool.false_and,if_neg<|by decide]at cN;cases hb:labB l with
 |true=>
  rw[hb,if_pos rfl]at cN;refine .inl ⟨.ref l a b,⟨?_,⟨by omega,by omega,by omega⟩,⟨_,rfl,rfl,rfl⟩,rfl,QcN hb,fa,fb⟩,to ?_,cC cN⟩
  .show["ref "++l++" "++a++"|"++b]=_;congr 1;show "ref"++" "++l++" "++a++"|"++b=_;simp only[XU]
  .exact QR rfl<|st (QP hs rfl)<|Qt<|Qc (by rw[c _ rfl,hb,J2 hc];rfl)<|st (QP (eU<|Q0 rfl rfl rfl) rfl)<|ret<|U8 rfl (Q0 rfl rfl rfl) (Q0 rfl rfl rfl)<|Q0 rfl rfl rfl|false=>rw[hb,if_neg<|by decide]at cN;exact .inr ⟨to<|QR rfl<|st (QP hs rfl)<|st (QE (by rw[c _ rfl,hb];rfl) rfl)<|ret rfl,_,cC cN,by simp[X2,X1],by simp[W4]⟩
def itm{x:Str}(h:Rw x):ItmR x:=by
 have hx:=h;obtain⟨dN,hl⟩:=h;rcases cutS x with hf|⟨w,r,rfl,hw⟩;.exact Qct hf<|by omega
 have sr:Sg r:=dN.r;by_cases c1:w="ref";.subst c1;exact Qcu hx
 have rl:r.length<=256:=by rw[la,la]at hl;omega
 by_cases c2:w="word"
 .subst c2;by_cases hb:r≠""/\32∉cs r
  .refine .inl ⟨.word r [],⟨rfl,⟨by omega,λ_ h=>(by cases h),Zm _⟩,⟨_,rfl,rfl,rfl⟩,rfl,trivial⟩,XE hw (by omega) (λz=>absurd z c1) (λ_=>?_) (λz=>absurd z<|by decide) (λz=>absurd z<|by decide) λ_ z=>absurd rfl z,?_⟩;.rw[if_pos<|by rw[J2 hb.1,J2 hb.2];rfl];rfl
   .rw[JP hw,Zd hb.2];exact EF (.inl ⟨rfl,rfl⟩) hb.1
  .refine .no (XE hw (by omega) (λz=>absurd z c1) (λ_=>?_) (λz=>absurd z<|by decide) (λz=>absurd z<|by decide) λ_ z=>absurd rfl z) ?_;.rw[if_neg λz=>hb<|by rw[Ja]at z;exact⟨of_decide_eq_true z.1,of_decide_eq_true z.2⟩]
   .rw[JP hw];refine Xk (λ_=>?_) (λz=>absurd z<|by decide) λz=>absurd z c1;by_cases z:32∈cs r;.exact .inl<|by have:=Kh z;omega
    .have:r="":=Classical.byContradiction λy=>hb ⟨y,z⟩;exact .inr<|by rw[Zd z,this]
 by_cases c3:w="key"
 .subst c3;by_cases hb:r≠""/\32∉cs r
  .refine .inl ⟨.key r,⟨rfl,show r.length<=2000 by omega,⟨_,rfl,rfl,rfl⟩,rfl,trivial⟩,XE hw (by omega) (λz=>absurd z c1) (λz=>absurd z c2) (λ_=>?_) (λz=>absurd z<|by decide) λ_ _ z=>absurd rfl z,?_⟩;.rw[if_pos<|by rw[J2 hb.1,J2 hb.2];rfl];rfl
   .rw[JP hw,Zd hb.2];exact EF (.inr ⟨rfl,rfl⟩) hb.1
  .refine .no (XE hw (by omega) (λz=>absurd z c1) (λz=>absurd z c2) (λ_=>?_) (λz=>absurd z<|by decide) λ_ _ z=>absurd rfl z) ?_;.rw[if_neg λz=>hb<|by rw[Ja]at z;exact⟨of_decide_eq_true z.1,of_decide_eq_true z.2⟩]
   .rw[JP hw];refine Xk (λ_=>?_) (λz=>absurd z<|by decide) λz=>absurd z c1;by_cases z:32∈cs r;.exact .inl<|by have:=Kh z;omega
    .have:r="":=Classical.byContradiction λy=>hb ⟨y,z⟩;exact .inr<|by rw[Zd z,this]
 by_cases c4:w="mark"
 .subst c4;have il:=LA sr (show r.length<=1000 by omega);by_cases hf:32∈cs r
  .have nb:labB r=false:=by cases e:labB r with
    |false=>rfl|true=>exact absurd hf<|QcO e
   refine .no (XE hw (by omega) (λz=>absurd z c1) (λz=>absurd z c2) (λz=>absurd z c3) (λ_=>⟨il,?_⟩) λ_ _ _ z=>absurd rfl z) ?_;.rw[if_neg<|by rw[nb];decide]
   .rw[JP hw];exact Xk (λz=>absurd z<|by decide) (λ_=>by have:=Kh hf;omega) λz=>absurd z c1
  .have cN:=LH (b:=false) sr (show r.length<=1000 by omega);rw[Bool.false_and,if_neg<|by decide]at cN;have cC:∀{d:D},Vv [.str r,.bl false]=some d->YV [QB<|Qo<|"mark"++" "++r]=some (.tup [.str "mark",d]):=λhd=>by
    rw[JP hw,Zd hf];have k1:QH (Q4 D.inO (Q9 0 0)<|Qe<|J3 (Q1 "word")<|Q1 "key") (QH (QF (QD D.len<|eV 0)<|Q2 2)<|JQ (Q9 0 1)<|Q1 "") [some<|QB ["mark",r],none]=QL false:=JT<|kin.trans rfl;exact QR rfl<|st (QE k1 rfl)<|Qt<|Qc (JE ((kk "mark").trans rfl)<|(kl 2).trans rfl)<|ret<|YM rfl<|Zb (Q0 rfl rfl<|W6 _ _ _) rfl hd
   cases hb:labB r with
   |true=>
    rw[hb,if_pos rfl]at cN;refine .inl ⟨.mark r,⟨rfl,show r.length<=2000 by omega,⟨_,rfl,rfl,rfl⟩,rfl,trivial⟩,XE hw (by omega) (λz=>absurd z c1) (λz=>absurd z c2) (λz=>absurd z c3) (λ_=>⟨il,?_⟩) λ_ _ _ z=>absurd rfl z,cC cN⟩;rw[if_pos hb];rfl|false=>
    rw[hb,if_neg<|by decide]at cN;refine .inr ⟨XE hw (by omega) (λz=>absurd z c1) (λz=>absurd z c2) (λz=>absurd z c3) (λ_=>⟨il,?_⟩) λ_ _ _ z=>absurd rfl z,_,cC cN,by simp[X2,X1],by simp[W4]⟩;rw[if_neg<|by rw[hb];decide]
 refine .no (XE hw (by omega) (λz=>absurd z c1) (λz=>absurd z c2) (λz=>absurd z c3) (λz=>absurd z c4) λ_ _ _ _=>rfl) ?_;rw[JP hw];exact Xk (λz=>by rcases z with z|z;exact absurd z c2;exact absurd z c3) (λz=>absurd z c4) λz=>absurd z c1
noncomputable def VA:Bo->Bool|.tab _ _=>true|_=>false
noncomputable def Ww:Bo->Bool|.para _=>true|_=>false
noncomputable def SU:It->Bool|.word _ _=>true|_=>false
def Vc:Bo->Bool|.para is=>(is.getLast?.map SU).getD false|_=>false
noncomputable def WZ:Bo->Bool|.tab [] _=>true|_=>false
noncomputable def Pr:Bo->Str|.chap _ _=>"chapter"|.head _ _ _=>"heading"|.tab _ _=>"table"|.plat _ _=>"plates"|.para _=>"para"
def QcC(b:Bo):∃r,b.d=.tup (.str (Pr b)::r):=by cases b<;>exact⟨_,rfl⟩
def LF(b:Bo):decide (Pr b="table")=VA b:=by cases b<;>rfl
def QcD(b:Bo):decide (Pr b="para")=Ww b:=by cases b<;>rfl
def bmB(bs:List Bo):Qh (bs.map Bo.bk)=.lst (bs.map Bo.d):=by unfold Qh;rw[map_map,show Jx∘Bo.bk=Bo.d from funext GS]
def DJ(b:Bo):Vp b.bk=some (VA b):=by cases b<;>rfl
def DI(b:Bo):WB b.bk=some (Ww b):=by cases b<;>rfl
def QfJ(i:It):UA i.im=some (SU i):=by cases i<;>rfl
def DK(b:Bo):YD b.bk=some (Vc b):=by cases b with
 |para is=>
  show(match(is.map It.im).getLast? with|none=>some false|some i=>UA i)=some ((is.getLast?.map SU).getD false);rw[List.getLast?_map];cases is.getLast? with|none=>rfl|some i=>exact QfJ i
 |_=>rfl
noncomputable def JO(f:Bo->Bool)(bs:List Bo):Bool:=(bs.getLast?.map f).getD false
def WY(f:Bo->Bool)(bs:List Bo)(b:Bo):JO f (bs++[b])=f b:=by unfold JO;simp
def SY{q:Wd.Bk->Option Bool}{f:Bo->Bool}(h:∀b,q (Bo.bk b)=some (f b))(bs:List Bo):Z9 q (bs.map Bo.bk)=some (JO f bs):=by unfold Z9 JO;rw[List.getLast?_map];cases bs.getLast? with|none=>rfl|some b=>exact h b
def U3(bs:List Bo):bs=[]\/∃aD b,bs=aD++[b]:=by
 rcases Xv bs with h|⟨a,b,h⟩;.exact .inl h
 .exact .inr ⟨a,b,by rw[h,Xw]⟩
def neL{xs:List D}(h:D.dep (.lst xs)<=40):D.neO (.lst xs) (.lst [])=QL (!xs.isEmpty):=by unfold D.neO;rw[if_pos h,PV];cases xs with|nil=>rw[PR];rfl|cons x xs=>rw[MY];rfl
def MX{xs:List D}(h:D.dep (.lst xs)<=40):D.eqO (.lst xs) (.lst [])=QL xs.isEmpty:=by unfold D.eqO;rw[if_pos h,PV];cases xs with|nil=>rw[PR];rfl|cons x xs=>rw[MY];rfl
def MH(xs:List Str):D.dep (QB xs)<=40:=by unfold QB;rw[SD,MG];decide
def Bo.free:Bo->Prop|.para is=>∀i∈is,i.free|_=>True
def BkI(bs:List Bo):Prop:=(∀b∈bs,b.w/\b.free)/\(Jp bs).length<=60000
def BkI.w{bs:List Bo}(h:BkI bs):Tw bs:=⟨λb hb=>(h.1 b hb).1,by have:=h.2;omega⟩
def GU{bs:List Bo}(h:BkI bs):D.dep (.lst<|bs.map Bo.d)<=40:=by have:=(HB h.w).eq.2;omega
def Qco{is:List It}(h:∀i∈is,i.w)(hl:is.length<=60000):D.dep (.lst<|is.map It.d)<=40:=by
 have:Al 3<|.lst<|is.map It.d:=.lst (by rw[Qr];omega) λd hd=>by
  obtain⟨i,hi,rfl⟩:=q_26.mp hd;exact HC<|h i hi
 have:=this.eq.2;omega
def TY{i:Nat}{e:Q8}{bs:List Bo}(h:BkI bs)(he:eV i e=some (Qh<|bs.map Bo.bk)):JQ (eV i) (QS lN) e=QL (!bs.isEmpty):=by rw[bmB]at he;refine Q0 he rfl ?_;rw[neL<|GU h];cases bs<;>rfl
def SX{i:Nat}{e:Q8}{bs:List Bo}{b:Bo}(he:eV i e=some (Qh<|(bs++[b]).map Bo.bk)):QW (eV i) (QD D.neg<|Q2 1) e=some b.d:=by rw[bmB,Jj]at he;exact Q0 he (Qf rfl rfl)<|Pq _ _
def Qcw(k:Str)(r:List D):D.ix (.tup<|.str k::r) (.int 0)=QI k:=by show((JD (r.length+1) 0).bind λj=>(.str k::r)[j]?)=_;unfold JD;rw[if_pos<|by omega,if_pos<|by omega];rfl
def Yp{a:Q6}{e:Q8}{b:Bo}(he:a e=some b.d)(K:Str):QF (Z6 a 0) (eC<|.str K) e=QL (decide<|Pr b=K):=by obtain⟨r,hr⟩:=QcC b;rw[hr]at he;exact Zp (Q0 he rfl<|Qcw _ _) K
def LK{i:Nat}{e:Q8}{bs:List Bo}(h:BkI bs)(he:eV i e=some (Qh<|bs.map Bo.bk)):QH (JQ (eV i)<|QS lN) (QH (QF (Z6 (QW (eV i)<|QD D.neg<|Q2 1) 0)<|Q1 "table")<|QF (Z6 (QW (eV i)<|QD D.neg<|Q2 1) 1)<|QS lN) e=QL (JO WZ bs):=by
 rcases U3 bs with rfl|⟨aD,b,rfl⟩;.exact JT<|TY h he
 .refine JE ((TY h he).trans<|by simp) ?_;rw[WY];have hx:=SX he;cases b with
  |tab rs l=>refine JE (Yp (b:=.tab rs l) hx "table")<|Q0 (Q0 hx rfl<|show D.ix (Bo.tab rs l).d (.int 1)=some (QB rs)from rfl) rfl ?_;show D.eqO (.lst<|rs.map .str) (.lst [])=_;rw[MX<|MH rs];cases rs<;>rfl|chap t l=>exact JT<|Yp (b:=.chap t l) hx "table"|head t k l=>exact JT<|Yp (b:=.head t k l) hx "table"|plat n l=>exact JT<|Yp (b:=.plat n l) hx "table"|para is=>exact JT<|Yp (b:=.para is) hx "table"
def Qe4{e:Q8}{bs:List Bo}(h:BkI bs)(he:eV 0 e=some (Qh<|bs.map Bo.bk)):QH (JQ (eV 0)<|QS lN) (QF (Z6 (QW (eV 0)<|QD D.neg<|Q2 1) 0)<|Q1 "para") e=QL (JO Ww bs):=by
 rcases U3 bs with rfl|⟨aD,b,rfl⟩;.exact JT<|TY h he
 .refine JE ((TY h he).trans<|by simp) ?_;rw[WY,Yp<|SX he,QcD]
def EB{bs:List Bo}(h:BkI bs):UW [Qh<|bs.map Bo.bk]=QL (JO WZ bs):=by
 have fin:∀{d:D}{t:Bool},Mr [Qh<|bs.map Bo.bk]=some d->D.eqN d (.lst [])=QL t->UW [Qh<|bs.map Bo.bk]=QL t:=λh1 h2=>QR rfl<|ret<|Q0 (Qs rfl h1) rfl h2;rcases U3 bs with rfl|⟨aD,b,rfl⟩;.exact fin (QR rfl<|ret<|W3 (t:=false) (JT<|Q0 (Qf rfl rfl) rfl rfl) (λh=>nomatch h) λ_=>rfl) rfl
 .have hd:=bmB<|aD++[b];have g:∀e,eV 0 e=some (Qh<|(aD++[b]).map Bo.bk)->Q4 D.gt (QD D.len<|eV 0) (Q2 0) e=QL true:=λe he=>by
   rw[hd]at he;exact Q0 (Qf he rfl) rfl<|gtT<|by simp
  have no:VA b=false->UW [Qh<|(aD++[b]).map Bo.bk]=QL false:=λhn=>fin (QR rfl<|ret<|W3 (t:=false) (JE (g _ rfl)<|by rw[Yp<|SX rfl,LF,hn]) (λh=>nomatch h) λ_=>rfl) rfl;rw[WY];cases b with|tab rs l=>refine fin (d:=QB rs) (QR rfl<|ret<|W3 (t:=true) (JE (g _ rfl)<|by rw[Yp<|SX rfl,LF];rfl) (λ_=>Q0 (SX rfl) rfl rfl) λh=>nomatch h) ?_;show D.eqO (.lst<|rs.map .str) (.lst [])=_;rw[MX<|MH rs];cases rs<;>rfl|para is=>exact no rfl|chap t l=>exact no rfl|head t k l=>exact no rfl|plat n l=>exact no rfl
def Ly(as bs:List Bo):Jp (as++bs)=Jp as++Jp bs:=List.flatMap_append
def K0(b:Bo):Jp [b]=b.rows:=by unfold Jp;simp
def Rb{bs:List Bo}(h:BkI bs):ZO (bs.map Bo.bk)=true:=by
 have hl:=h.2;have h1:=TV GV bs;unfold ZO;rw[Qr,J2<|by show bs.length<100000;unfold Jp at hl;omega,Bool.true_and,all_map,q_24];intro b hb;have hr:=To hb;cases b with
 |tab rs l=>
  show decide (rs.length<100000)=true;have:(Bo.tab rs l).rows.length=rs.length+1:=by simp[Bo.rows,Bo.more]
  exact J2<|by omega|para is=>
  have e1:(Bo.para is).rows.length=(is.flatMap It.rows).length+1:=by simp[Bo.rows,Bo.more]
  have h2:=TV LC is;show(decide ((is.map It.im).length<100000)&&(is.map It.im).all Rc)=true;rw[Qr,J2<|by omega,Bool.true_and,all_map,q_24];intro i hi;cases i with
  |word x ns=>
   have:(It.word x ns).rows.length<=(is.flatMap It.rows).length:=by obtain⟨l1,l2,rfl⟩:=List.append_of_mem hi;rw[List.flatMap_append,flatMap_cons,JZ,JZ];omega
   have e2:(It.word x ns).rows.length=ns.length+1:=by simp[It.rows]
   show decide (ns.length<100000)=true;exact J2<|by omega|_=>rfl
 |_=>rfl
def PD(x:Str)(k:Nat):cs (Wd.cutS x none<|some (k:Int))=(cs x).take k:=by
 show Jt (cs x) none (some (k:Int))=_;unfold Jt;have e1:ZC (cs x).length 0 none=0:=rfl;have e2:ZC (cs x).length (cs x).length (some (k:Int))=min k (cs x).length:=by
  show(if(k:Int)<0 then((k:Int)+((cs x).length:Int)).toNat else min (k:Int).toNat (cs x).length)=_;rw[if_neg<|by omega,Xs]
 rw[e1,e2,We,sub_zero,List.take_eq_take_iff];omega
def P9(x:Str)(k:Nat):cs (Wd.cutS x (some (k:Int)) none)=(cs x).drop k:=by
 show Jt (cs x) (some (k:Int)) none=_;unfold Jt;have e1:ZC (cs x).length 0 (some (k:Int))=min k (cs x).length:=by show(if(k:Int)<0 then((k:Int)+((cs x).length:Int)).toNat else min (k:Int).toNat (cs x).length)=_;rw[if_neg<|by omega,Xs]
 have e2:ZC (cs x).length (cs x).length none=(cs x).length:=rfl;rw[e1,e2,List.take_of_length_le<|by rw[X8];exact Qm _];by_cases h:k<=(cs x).length;.rw[Nat.min_eq_left h]
 .rw[Nat.min_eq_right<|by omega,Wf<|Qm _,Wf<|by omega]
def Ti{e:Q8}{x K:Str}{k:Nat}(he:eV 1 e=QI x)(hk:K.length=k)(hl:x.length<=1000):QF (Qn (eV 1) Qx<|Qk<|eC<|.int (k:Int)) (eC<|.str K) e=QL (Txt.startswith x K):=by
 refine(Zp (x:=Wd.cutS x none<|some (k:Int)) (Yh he rfl rfl ?_) K).trans ?_
 .show(if x.length<=Qz then some<|D.str<|Wd.cutS x none<|some (k:Int)else none)=_;rw[if_pos<|by show _<=16777216;omega]
 .rw[Ts];congr 2;rw[Bool.eq_iff_iff,decide_eq_true_iff,q_58];constructor;.intro z;have:=congrArg cs z;rw[PD]at this;rw[<-this];exact List.take_prefix _ _
  .intro z;refine sx ?_;rw[PD];have:=List.prefix_iff_eq_take.mp z;rw[<-Jz,hk]at this;exact this.symm
def HH(bs:List Bo):Option (List Bo)->Bool×BM|none=>(false,bs.map Bo.bk)|some bs'=>(true,bs'.map Bo.bk)
def KU{x:Str}(h:Rw x)(m:BM):Va (QD D.allL<|JX 1 [] (Zs<|eV 1) (gS 0) (JB true)<|eK Pf<|QT<|eV 0) (Tv [none,QI x,none] m)=QL false:=Su (b:=true)<|A2 rfl h.1.as (by have:=h.2;omega) λc hc=>Qs rfl<|Qck<|h.1 c hc
def st_E{x K:Str}{m:BM}:Q4 (QX Jl) (eV 1) (eC<|.str K) (Tv [none,QI x,none] m)=QL (Txt.startswith x K):=Q0 rfl rfl rfl
def D1{w r:Str}(hw:32∉cs w):WC (w++" "++r)=r:=by unfold WC;rw[sp,D0 (w:=w) (r:=r) (by rw[<-sp,Vr]) hw]
def L8{o:Option D}(h:o=QL false):Vb o=true:=by rw[h];rfl
def Qch{o:Option D}(h:o=QL true):TU o=true:=by rw[h];rfl
def LP{x:Str}(hx:Rw x){bs:List Bo}(h:BkI bs):Wt x (bs.map Bo.bk)=if(Txt.startswith x "row "&&JO VA bs)=true then some (true,ZJ (Uo<|Wd.cutS x (some 4) none)<|bs.map Bo.bk)else if(Txt.startswith x "note "&&JO Vc bs)=true then some (true,ZJ (W9<|Wd.cutS x (some 5) none)<|bs.map Bo.bk)else some (false,bs.map Bo.bk):=by
 have xl:=hx.2;have hr:∀k:Nat,Qn (eV 1) (Qk<|eC<|.int (k:Int)) Qx [none,some<|.str x,none]=some (.str<|Wd.cutS x (some (k:Int)) none):=λk=>Yh rfl rfl rfl (by show(if x.length<=Qz then some<|D.str<|Wd.cutS x (some (k:Int)) none else none)=_;rw[if_pos<|by show _<=16777216;omega]);show S4 _ _ _ _ _ [none,some<|.str x,none] (bs.map Bo.bk)=_;unfold S4;show(if ZO (bs.map Bo.bk)=true/\[none,some<|D.str x,none].length=3 then _ else none)=_;rw[if_pos ⟨Rb h,rfl⟩];rcases U3 bs with rfl|⟨aD,b,rfl⟩
 .have c1:∀{z:Q6},QH (Q4 D.eqO (Qn (eV 1) Qx<|Qk<|eC<|.int 4)<|eC<|.str "row ") (Q4 D.eqO (Q4 D.ix (eV 2)<|eC<|.int 0)<|eC<|.str "table") [some<|Qh [],some<|.str x,some<|.tup [.str "",.lst []]]=some (.bl false):=λ{z}=>by cases hs:Txt.startswith x "row "with
   |false=>exact JT<|(Ti (k:=4) rfl rfl<|by omega).trans<|by rw[hs]|true=>exact JE ((Ti (k:=4) rfl rfl<|by omega).trans<|by rw[hs])<|(Zp (Q0 rfl rfl rfl) "table").trans rfl
  have c2:∀{z:Q6},QH (Q4 D.eqO (Qn (eV 1) Qx<|Qk<|eC<|.int 5)<|eC<|.str "note ") (QH (Q4 D.eqO (Q4 D.ix (eV 2)<|eC<|.int 0)<|eC<|.str "para") z) [some<|Qh [],some<|.str x,some<|.tup [.str "",.lst []]]=some (.bl false):=λ{z}=>by cases hs:Txt.startswith x "note "with
   |false=>exact JT<|(Ti (k:=5) rfl rfl<|by omega).trans<|by rw[hs]|true=>exact JE ((Ti (k:=5) rfl rfl<|by omega).trans<|by rw[hs])<|JT<|(Zp (Q0 rfl rfl rfl) "para").trans rfl
  show(if Vb _=true/\Vb _=true/\Vb _=true then some (false,[])else none)=_;have c0:Q4 D.neO (eV 0) (QS lN) [some<|Qh [],some<|.str x,none]=some (.bl false):=TY (bs:=[]) h rfl;rw[if_pos ⟨L8 c0,L8<|c1 (z:=eV 0),L8 c2⟩];rw[show JO VA []=false from rfl,show JO Vc []=false from rfl,Uk,Uk];rfl
 .have hd:Sa ((aD++[b]).map Bo.bk)=some b.d:=by rw[Jj];unfold Sa;simp[GS]
  rw[hd];have c0:Q4 D.neO (eV 0) (QS lN) [some<|Qh<|(aD++[b]).map Bo.bk,some<|.str x,none]=some (.bl true):=(TY h rfl).trans (by simp);show(if TU _=true then _ else none)=_;rw[if_pos<|Qch c0];have c1:QH (Q4 D.eqO (Qn (eV 1) Qx<|Qk<|eC<|.int 4)<|eC<|.str "row ") (Q4 D.eqO (Q4 D.ix (eV 2)<|eC<|.int 0)<|eC<|.str "table") [some<|Qh<|(aD++[b]).map Bo.bk,some<|.str x,some b.d]=some (.bl<|Txt.startswith x "row "&&JO VA (aD++[b])):=by
   refine Y5 (Ti (k:=4) rfl rfl<|by omega) λ_=>?_;rw[WY,<-LF];exact Yp rfl "table"
  have c2:QH (Q4 D.eqO (Qn (eV 1) Qx<|Qk<|eC<|.int 5)<|eC<|.str "note ") (QH (Q4 D.eqO (Q4 D.ix (eV 2)<|eC<|.int 0)<|eC<|.str "para")<|QH (Q4 D.neO (Q4 D.ix (eV 2)<|eC<|.int 1)<|QS lN)<|Q4 D.eqO (Q4 D.ix (Q4 D.ix (Q4 D.ix (eV 2)<|eC<|.int 1)<|QD D.neg<|eC<|.int 1)<|eC<|.int 0)<|eC<|.str "word") [some<|Qh<|(aD++[b]).map Bo.bk,some<|.str x,some b.d]=some (.bl<|Txt.startswith x "note "&&JO Vc (aD++[b])):=by
   refine Y5 (Ti (k:=5) rfl rfl<|by omega) λ_=>?_;rw[WY];cases b with
   |para is=>
    have hw:=(h.1 (.para is)<|by simp).1;have hlen:is.length<=60000:=by
     have h1:=To (bs:=aD++[.para is]) (b:=.para is) (by simp);have e1:(Bo.para is).rows.length=(is.flatMap It.rows).length+1:=by simp[Bo.rows,Bo.more]
     have h2:=TV LC is;have:=h.2;omega
    refine JE (Yp (b:=.para is) rfl "para") ?_;have hn:Q4 D.neO (Q4 D.ix (eV 2)<|eC<|.int 1) (QS lN) [some<|Qh<|(aD++[Bo.para is]).map Bo.bk,some<|.str x,some (Bo.para is).d]=some (.bl<|!(is.map It.d).isEmpty):=Q0 (x:=.lst<|is.map It.d) (Q0 rfl rfl rfl) rfl<|neL<|Qco hw hlen;rcases Xv is with rfl|⟨dD,i,e⟩;.exact JT hn
    .rw[Xw]at e;subst e;refine JE (hn.trans<|by simp) ?_;have hi:Q4 D.ix (Q4 D.ix (eV 2)<|eC<|.int 1) (QD D.neg<|eC<|.int 1) [some<|Qh<|(aD++[Bo.para<|dD++[i]]).map Bo.bk,some<|.str x,some (Bo.para<|dD++[i]).d]=some i.d:=Q0 (x:=.lst<|(dD++[i]).map It.d) (Q0 rfl rfl rfl) (Qf rfl rfl) (by rw[Jj];exact Pq _ _);refine(Zp (Q0 hi rfl<|Fs i) "word").trans ?_;show _=some (D.bl<|((dD++[i]).getLast?.map SU).getD false);rw[show(dD++[i]).getLast?=some i by simp];cases i<;>rfl|chap t l=>exact JT<|Yp (b:=.chap t l) rfl "para"|head t k l=>exact JT<|Yp (b:=.head t k l) rfl "para"|tab rs l=>exact JT<|Yp (b:=.tab rs l) rfl "para"|plat n l=>exact JT<|Yp (b:=.plat n l) rfl "para"
  show(match QH (Q4 D.eqO (Qn (eV 1) Qx<|Qk<|eC<|.int 4)<|eC<|.str "row ") (Q4 D.eqO (Q4 D.ix (eV 2)<|eC<|.int 0)<|eC<|.str "table") [some<|Qh<|(aD++[b]).map Bo.bk,some<|.str x,some b.d]with|some (.bl true)=>_|some (.bl false)=>_|_=>_)=_;rw[c1];cases h1:Txt.startswith x "row "&&JO VA (aD++[b])with
  |true=>
   rw[if_pos rfl];have hq:Z9 Vp ((aD++[b]).map Bo.bk)=some true:=by rw[SY DJ,(q_69.mp h1).2]
   show(if Z9 Vp ((aD++[b]).map Bo.bk)=some true then _ else none)=_;rw[if_pos hq];show(U4<|Qn (eV 1) (Qk<|eC<|.int ((4:Nat):Int)) Qx [none,some<|.str x,none]).map _=_;rw[hr 4];rfl|false=>
   show(match QH (Q4 D.eqO (Qn (eV 1) Qx<|Qk<|eC<|.int 5)<|eC<|.str "note ") _ [some<|Qh<|(aD++[b]).map Bo.bk,some<|.str x,some b.d]with|some (.bl true)=>_|some (.bl false)=>_|_=>_)=if(Txt.startswith x "note "&&JO Vc (aD++[b]))=true then _ else _;rw[c2];cases h2:Txt.startswith x "note "&&JO Vc (aD++[b])with
   |true=>
    rw[if_pos rfl];have hq:Z9 YD ((aD++[b]).map Bo.bk)=some true:=by rw[SY DK,(q_69.mp h2).2]
    show(if Z9 YD ((aD++[b]).map Bo.bk)=some true then _ else none)=_;rw[if_pos hq];show(U4<|Qn (eV 1) (Qk<|eC<|.int ((5:Nat):Int)) Qx [none,some<|.str x,none]).map _=_;rw[hr 5];rfl|false=>rfl
def Eb{i:Nat}{e:Q8}{ds:List D}(he:eV i e=some (.tup ds))(h:ds.all Zv=true):Q4 D.notInN (eC .non) (eV i) e=QL (!ds.any Zu):=by refine Q0 rfl he ?_;show(if ds.all Zv=true then some<|D.bl<|!ds.any Zu else none)=_;rw[if_pos h]
def Sb{x:Str}(hx:Rw x){bs:List Bo}(h:BkI bs){ds:List D}(hb:Zj [QB<|Qo x]=some (.tup ds))(hn:ds.all Zv=true){r:Option<|Bool×BM}(h1:ds.any Zu=false->r=some (true,bs.map Bo.bk++[WK<|.tup ds]))(h2:ds.any Zu=true->∃is,YV [QB<|Qo x]=some (.tup is)/\is.all Zv=true/\r=if(!is.any Zu&&JO Ww bs)=true then some (true,ZJ (Wx<|Wk<|.tup is)<|bs.map Bo.bk)else some (false,bs.map Bo.bk)):UD (Q4 (QX ZE) (eV 1)<|eC<|.str " ") Zj (Q4 D.notInN (eC .non)<|eV 3) YV (QH (Q4 D.notInN (eC .non)<|eV 4)<|QH (Q4 D.neO (eV 0)<|QS lN)<|Q4 D.eqO (Q4 D.ix (Q4 D.ix (eV 0)<|QD D.neg<|eC<|.int 1)<|eC<|.int 0)<|eC<|.str "para") [none,some<|.str x,none,none,none] (bs.map Bo.bk)=r:=by have xl:=hx.2;unfold UD;show(if ZO (bs.map Bo.bk)=true/\[none,some<|D.str x,none,none,none].length=5 then(Q4 (QX ZE) (eV 1) (eC<|.str " ") [none,some<|.str x,none,none,none]).bind _ else none)=r;rw[if_pos ⟨Rb h,rfl⟩,Rf rfl<|by omega];show(Zj [QB<|Qo x]).bind _=r;rw[hb];show(match Q4 D.notInN (eC .non) (eV 3) [none,some<|.str x,none,some<|.tup ds,none]with|some (.bl true)=>_|some (.bl false)=>_|_=>none)=r;rw[Eb (ds:=ds) rfl hn];cases hd:ds.any Zu with|false=>exact(h1 hd).symm|true=>
  obtain⟨is,hi,ef,hr⟩:=h2 hd;show(YV [QB<|Qo x]).bind _=r;rw[hi];have c2:QH (Q4 D.notInN (eC .non)<|eV 4) (QH (Q4 D.neO (eV 0)<|QS lN)<|Q4 D.eqO (Q4 D.ix (Q4 D.ix (eV 0)<|QD D.neg<|eC<|.int 1)<|eC<|.int 0)<|eC<|.str "para") [some<|Qh<|bs.map Bo.bk,some<|.str x,none,none,some<|.tup is]=some (.bl<|!is.any Zu&&JO Ww bs):=Y5 (Eb rfl ef) λ_=>Qe4 h rfl;show(match QH (Q4 D.notInN (eC .non)<|eV 4) _ [some<|Qh<|bs.map Bo.bk,some<|.str x,none,none,some<|.tup is]with|some (.bl true)=>_|some (.bl false)=>_|_=>none)=r;rw[c2,hr];cases hc:!is.any Zu&&JO Ww bs with
  |false=>rfl|true=>
   have hq:Z9 WB (bs.map Bo.bk)=some true:=by rw[SY DI,(q_69.mp hc).2]
   show(if Z9 WB (bs.map Bo.bk)=some true then _ else none)=_;rw[if_pos hq];rfl
def Py{x:Str}(hx:Rw x){bs:List Bo}(h:BkI bs)(n1:(Txt.startswith x "row "&&JO VA bs)=false)(n2:(Txt.startswith x "note "&&JO Vc bs)=false){r:Option<|Bool×BM}(hl:JO WZ bs=true->r=some (false,bs.map Bo.bk))(ht:JO WZ bs=false->UD (Q4 (QX ZE) (eV 1)<|Q1 " ") Zj (Q4 D.notInN (eC .non)<|eV 3) YV (QH (Q4 D.notInN (eC .non)<|eV 4)<|QH (JQ (eV 0)<|QS lN)<|QF (Z6 (QW (eV 0)<|QD D.neg<|Q2 1) 0)<|Q1 "para") [none,QI x,none,none,none] (bs.map Bo.bk)=r):Xd x (bs.map Bo.bk)=r:=by have hm:=LP hx h;rw[n1,n2]at hm;show Wo Wt _ [none,QI x,none,none,none] (bs.map Bo.bk)=r;unfold Wo;show(Wt x<|bs.map Bo.bk).bind _=r;rw[hm];show V2 _ S5 _ [none,QI x,none,none,none] (bs.map Bo.bk)=r;have lk:=LK (e:=Tv [none,QI x,none,none,none]<|bs.map Bo.bk) (i:=0) h rfl;cases hk:JO WZ bs with|true=>rw[hk]at lk;exact bT lk (hl hk).symm|false=>rw[hk]at lk;exact bF lk<|ht hk
def BA{K y:Str}(hx:Rw<|K++" "++y){bs:List Bo}(h:BkI bs)(hK:32∉cs K)(k1:K="row"\/K="note"):UD (Q4 (QX ZE) (eV 1)<|Q1 " ") Zj (Q4 D.notInN (eC .non)<|eV 3) YV (QH (Q4 D.notInN (eC .non)<|eV 4)<|QH (JQ (eV 0)<|QS lN)<|QF (Z6 (QW (eV 0)<|QD D.neg<|Q2 1) 0)<|Q1 "para") [none,QI<|K++" "++y,none,none,none] (bs.map Bo.bk)=some (false,bs.map Bo.bk):=by
 have ne:∀{L:Str},L≠"row"->L≠"note"->K≠L:=λa b z=>by
  rcases k1 with k|k;.exact a<|by rw[<-z,k]
  .exact b<|by rw[<-z,k]
 have n0:1<=(Qo y).length:=q_40.mpr<|Wa y;refine Sb hx h (ds:=[.str "",.non]) ?_ rfl (λz=>absurd z<|by decide) λ_=>⟨[.str "",.non],?_,rfl,rfl⟩;.rw[JP hK];exact Ud (λz=>absurd z<|ne (by decide)<|by decide) (λz=>absurd z<|ne (by decide)<|by decide) (λz=>absurd z<|ne (by decide)<|by decide) (λz=>absurd z<|ne (by decide)<|by decide) λz=>absurd z<|ne (by decide)<|by decide
 .rw[JP hK];refine Xk (λz=>?_) (λz=>absurd z<|ne (by decide)<|by decide) λz=>absurd z<|ne (by decide) (by decide);rcases z with z|z;.exact absurd z<|ne (by decide)<|by decide
  .exact absurd z<|ne (by decide)<|by decide
def Ka{x K:Str}(h:Txt.startswith x K=true):∃y,x=K++y:=by rw[Ts]at h;obtain⟨t,e⟩:=q_58.mp h;exact⟨WA t,sx<|by rw[Z8,T5,e]⟩
def Fn{bs:List Bo}(h:JO VA bs=true):∃aD rs l,bs=aD++[.tab rs l]:=by
 rcases U3 bs with rfl|⟨aD,b,rfl⟩;.cases h
 .rw[WY]at h;cases b with|tab rs l=>exact⟨aD,rs,l,rfl⟩|_=>cases h
def Qcf{bs:List Bo}(h:JO Ww bs=true):∃aD is,bs=aD++[.para is]:=by
 rcases U3 bs with rfl|⟨aD,b,rfl⟩;.cases h
 .rw[WY]at h;cases b with|para is=>exact⟨aD,is,rfl⟩|_=>cases h
def Qci{bs:List Bo}(h:JO Vc bs=true):∃aD is z ns,bs=aD++[.para<|is++[.word z ns]]:=by
 rcases U3 bs with rfl|⟨aD,b,rfl⟩;.cases h
 .rw[WY]at h;cases b with
  |para is=>
   rcases Xv is with rfl|⟨dD,i,e⟩;.cases h
   .rw[Xw]at e;subst e;have h:((dD++[i]).getLast?.map SU).getD false=true:=h;rw[show(dD++[i]).getLast?=some i by simp]at h;cases i with
    |word z ns=>exact⟨aD,dD,z,ns,rfl⟩|_=>cases h
  |_=>cases h
def EG{bs:List Bo}(h:JO WZ bs=true):JO VA bs=true:=by
 rcases U3 bs with rfl|⟨aD,b,rfl⟩;.cases h
 .rw[WY]at h⊢;cases b with|tab rs l=>rfl|_=>cases h
def NW(x:Str)(bs bs':List Bo):Prop:=(∀b∈bs',b.w/\b.free)/\Jp bs'=Jp bs++[x]
def L4{x:Str}{aD:List Bo}{b b':Bo}(h:BkI<|aD++[b])(hb:b'.w/\b'.free)(hr:b'.rows=b.rows++[x]):NW x (aD++[b])<|aD++[b']:=by
 refine⟨λc hc=>?_,by rw[Ly,Ly,K0,K0,hr,Zw]⟩;rcases q_8.mp hc with z|z;.exact h.1 c<|Y2 _ z
 .rw[q_1.mp z];exact hb
def Ry(x:Str)(bs:List Bo):Prop:=∃o:Option<|List Bo,V9 x (bs.map Bo.bk)=some (HH bs o)/\Xd x (bs.map Bo.bk)=some (HH bs o)/\∀bs',o=some bs'->NW x bs bs'
def Rh{x:Str}{bs:List Bo}(h1:V9 x (bs.map Bo.bk)=some (false,bs.map Bo.bk))(h2:Xd x (bs.map Bo.bk)=some (false,bs.map Bo.bk)):Ry x bs:=⟨none,h1,h2,λ_ h=>by cases h⟩
def ND{x:Str}{bs bs':List Bo}(h1:V9 x (bs.map Bo.bk)=some (true,bs'.map Bo.bk))(h2:Xd x (bs.map Bo.bk)=some (true,bs'.map Bo.bk))(h3:NW x bs bs'):Ry x bs:=⟨some bs',h1,h2,λ_ h=>by obtain rfl:=Q5 h;exact h3⟩
def BC{q:Wd.Bk->Option Bool}{f:Bo->Bool}{U:Str->Wd.Bk->Wd.Bk}(hq:∀b,q (Bo.bk b)=some (f b)){x:Str}(hx:Rw x){bs:List Bo}(h:BkI bs):T1 q U [none,QI x,none] (bs.map Bo.bk)=some (if JO f bs=true then(true,ZJ (U<|WC x)<|bs.map Bo.bk)else(false,bs.map Bo.bk)):=by show(if x.length<=100000/\ZO (bs.map Bo.bk)=true then(Z9 q<|bs.map Bo.bk).map _ else none)=_;rw[if_pos ⟨by have:=hx.2;omega,Rb h⟩,SY hq];rfl
def QgI{x:Str}(hx:Rw x){bs:List Bo}(h:BkI bs):Ry x bs:=by
 have xl:=hx.2;have lb:=EB h;cases s1:Txt.startswith x "row "with
 |true=>
  obtain⟨y,rfl⟩:=Ka s1;have pr:V9 ("row "++y) (bs.map Bo.bk)=some (if JO VA bs=true then(true,ZJ (Uo<|WC<|"row "++y)<|bs.map Bo.bk)else(false,bs.map Bo.bk)):=bF (KU hx _)<|bT (st_E.trans<|by rw[s1])<|BC DJ hx h;have py:WC ("row "++y)=y:=D1 (w:="row") (by decide);cases t:JO VA bs with
  |true=>
   obtain⟨aD,rs,l,rfl⟩:=Fn t;have e2:(aD++[Bo.tab (rs++[y]) l]).map Bo.bk=ZJ (Uo y) ((aD++[Bo.tab rs l]).map Bo.bk):=by rw[Jj,Jj,show[Bo.tab rs l].map Bo.bk=[Bo.bk<|.tab rs l]from rfl,lU];rfl
   refine ND (bs':=aD++[.tab (rs++[y]) l]) ?_ ?_<|L4 h ?_ ?_;.rw[pr,t,py,e2];rfl
   .show Wo Wt _ [none,QI<|"row "++y,none,none,none] _=_;unfold Wo;show(Wt ("row "++y) _).bind _=_;rw[LP hx h,s1,t,if_pos<|show(true&&true)=true from rfl];have cy:Wd.cutS ("row "++y) (some 4) none=y:=sx (by rw[show(4:Int)=((4:Nat):Int)from rfl,P9,Z8];rfl);rw[cy,e2];rfl
   .have hw:=h.1 (.tab rs l) (by simp);have hl:(Bo.tab rs l).rows.length<=60000:=by have:=To (bs:=aD++[.tab rs l]) (b:=.tab rs l) (by simp);have:=h.2;omega
    have e1:(Bo.tab rs l).rows.length=rs.length+1:=by simp[Bo.rows,Bo.more]
    refine⟨⟨λr hr=>?_,by rw[JZ];simp;omega,hw.1.2.2⟩,trivial⟩;rcases q_8.mp hr with z|z;.exact hw.1.1 r z
    .rw[q_1.mp z];rw[la]at xl;omega
   .simp[Bo.rows,Bo.more,Bo.first]|false=>
   have lk:JO WZ bs=false:=by cases e:JO WZ bs with
    |false=>rfl|true=>rw[EG e]at t;cases t
   have n2:Txt.startswith ("row "++y) "note "=false:=sw rfl;exact Rh (by rw[pr,t];rfl)<|Py hx h (by rw[s1,t];decide) (by rw[n2];rfl) (λz=>absurd (lk.symm.trans z)<|by decide) λ_=>BA (K:="row") (y:=y) hx h (by decide)<|.inl rfl
 |false=>
  have n1:(Txt.startswith x "row "&&JO VA bs)=false:=by rw[s1];rfl
  cases lk:JO WZ bs with
  |true=>
   have np:JO Vc bs=false:=by
    obtain⟨aD,rs,l,rfl⟩:=Fn<|EG lk;rw[WY];rfl
   exact Rh (bF (KU hx _)<|bF (st_E.trans<|by rw[s1])<|bT (Qs rfl<|lb.trans<|by rw[lk]) rfl)<|Py hx h n1 (by rw[np,Uk]) (λ_=>rfl) λz=>absurd (lk.symm.trans z)<|by decide|false=>have pre:∀{r:Option<|Bool×BM},V2 (Q4 (QX Jl) (eV 1)<|Q1 "note ") (T1 YD W9) (Uz Zr Ym) [none,QI x,none] (bs.map Bo.bk)=r->V9 x (bs.map Bo.bk)=r:=λhr=>bF (KU hx _)<|bF (st_E.trans<|by rw[s1])<|bF (Qs rfl<|lb.trans<|by rw[lk]) hr;cases s2:Txt.startswith x "note "with
   |true=>
    obtain⟨y,rfl⟩:=Ka s2;have pr:V9 ("note "++y) (bs.map Bo.bk)=some (if JO Vc bs=true then(true,ZJ (W9<|WC<|"note "++y)<|bs.map Bo.bk)else(false,bs.map Bo.bk)):=pre<|bT (st_E.trans<|by rw[s2])<|BC DK hx h;have py:WC ("note "++y)=y:=D1 (w:="note") (by decide);cases t:JO Vc bs with
    |true=>
     obtain⟨aD,is,z,ns,rfl⟩:=Qci t;have e2:(aD++[Bo.para<|is++[.word z<|ns++[y]]]).map Bo.bk=ZJ (W9 y) ((aD++[Bo.para<|is++[.word z ns]]).map Bo.bk):=by
      rw[Jj,Jj,show[Bo.para<|is++[.word z ns]].map Bo.bk=[Wd.Bk.pa<|(is++[It.word z ns]).map It.im]from rfl,lU,Jj];show _++[Wd.Bk.pa<|(is++[It.word z<|ns++[y]]).map It.im]=_;rw[Jj];unfold W9;simp[O9,It.im]
     refine ND (bs':=aD++[.para<|is++[.word z<|ns++[y]]]) ?_ ?_<|L4 h ?_ ?_;.rw[pr,t,py,e2];rfl
     .show Wo Wt _ [none,QI<|"note "++y,none,none,none] _=_;unfold Wo;show(Wt ("note "++y) _).bind _=_;rw[LP hx h,n1,s2,t];have cy:Wd.cutS ("note "++y) (some 5) none=y:=sx (by rw[show(5:Int)=((5:Nat):Int)from rfl,P9,Z8];rfl);rw[cy,e2];rfl
     .have hw:=h.1 (.para<|is++[.word z ns]) (by simp);have wz:(It.word z ns).w:=hw.1 _ (by simp);have hl:(Bo.para<|is++[.word z ns]).rows.length<=60000:=by have:=To (bs:=aD++[.para<|is++[.word z ns]]) (b:=.para<|is++[.word z ns]) (by simp);have:=h.2;omega
      have e1:ns.length+1<=(Bo.para<|is++[.word z ns]).rows.length:=by simp[Bo.rows,Bo.more,It.rows];omega
      refine⟨λi hi=>?_,λi hi=>?_⟩
      .rcases q_8.mp hi with q|q;.exact hw.1 i<|Y2 _ q
       .rw[q_1.mp q];refine⟨wz.1,λn hn=>?_,by rw[JZ];simp;omega⟩;rcases q_8.mp hn with p|p;.exact wz.2.1 n p
        .rw[q_1.mp p];rw[la]at xl;omega
      .rcases q_8.mp hi with q|q;.exact hw.2 i<|Y2 _ q
       .rw[q_1.mp q];trivial
     .simp[Bo.rows,Bo.more,Bo.first,It.rows]|false=>exact Rh (by rw[pr,t];rfl)<|Py hx h n1 (by rw[t,Uk]) (λz=>absurd (lk.symm.trans z)<|by decide) λ_=>BA (K:="note") (y:=y) hx h (by decide)<|.inr rfl
   |false=>
    have n2:(Txt.startswith x "note "&&JO Vc bs)=false:=by rw[s2];rfl
    have fV:∀{r:Option<|Bool×BM},Uz Zr Ym [none,QI x,none] (bs.map Bo.bk)=r->V9 x (bs.map Bo.bk)=r:=λhr=>pre<|bF (st_E.trans<|by rw[s2]) hr;have iS:∀{d:D}{r:Option<|Bool×BM},Zr [.str x]=some d->(match d with|.non=>(Ym [.str x]).bind λi=>Ux i<|bs.map Bo.bk|.tup ds=>some (true,bs.map Bo.bk++[WK<|.tup ds])|_=>none)=r->Uz Zr Ym [none,QI x,none] (bs.map Bo.bk)=r:=λ{d r}hd hr=>by show(if ZO (bs.map Bo.bk)=true/\2<[none,some<|D.str x,none].length then(Zr [.str x]).bind _ else none)=r;rw[if_pos ⟨Rb h,by simp⟩,hd];exact hr
    have cC:=λ{r:Option (Bool×BM)}ht=>Py (r:=r) hx h n1 n2 (λz=>absurd (lk.symm.trans z)<|by decide) λ_=>ht;rcases blk hx with⟨b,nb,hp,hl⟩|⟨hp,ds,hl,hn,ha⟩
    .obtain⟨ds,e,hn,ha⟩:=nb.dd;rw[e]at hp hl;have e2:bs.map Bo.bk++[WK<|.tup ds]=(bs++[b]).map Bo.bk:=by rw[Jj,<-e,nb.bk];rfl
     refine ND (bs':=bs++[b]) (fV<|iS hp<|by show some _=_;rw[e2]) (cC<|Sb hx h hl hn (λ_=>by rw[e2]) λz=>by rw[ha]at z;cases z) ⟨λc hc=>?_,?_⟩
     .rcases q_8.mp hc with q|q;.exact h.1 c q
      .rw[q_1.mp q];refine⟨nb.w,?_⟩;cases b with
       |para is=>have:is.flatMap It.rows=[]:=nb.more;cases is with|nil=>exact λ_ h=>by cases h|cons i is=>cases i<;>simp[It.rows]at this
       |_=>trivial
     .rw[Ly,K0];unfold Bo.rows;rw[nb.first,nb.more]
    .have mv:∀{is:List D},Ym [.str x]=some .non->YV [QB<|Qo x]=some (.tup is)->is.all Zv=true->is.any Zu=true->Ry x bs:=λ{is}hi fL ef gI=>Rh (fV<|iS hp<|by show(Ym [.str x]).bind _=_;rw[hi];rfl)<|cC<|Sb hx h hl hn (λz=>by rw[ha]at z;cases z) λ_=>⟨is,fL,ef,by rw[gI];rfl⟩;rcases itm hx with⟨i,ni,hi,fL⟩|⟨hi,is,fL,ef,gI⟩
     .obtain⟨is,e,ef,gI⟩:=ni.dd;rw[e]at hi fL;have pi:∀{r:Option<|Bool×BM},Ux (.tup is) (bs.map Bo.bk)=r->V9 x (bs.map Bo.bk)=r:=λhr=>fV<|iS hp (by show(Ym [.str x]).bind _=_;rw[hi];exact hr);have ai:Ux (.tup is) (bs.map Bo.bk)=some (if JO Ww bs=true then(true,ZJ (Wx<|Wk<|.tup is)<|bs.map Bo.bk)else(false,bs.map Bo.bk)):=by
       show(if ZO (bs.map Bo.bk)=true then(Z9 WB<|bs.map Bo.bk).map _ else none)=_;rw[if_pos<|Rb h,SY DI];rfl
      cases t:JO Ww bs with
      |false=>exact Rh (pi<|ai.trans<|by rw[t];rfl)<|cC<|Sb hx h hl hn (λz=>by rw[ha]at z;cases z) λ_=>⟨is,fL,ef,by rw[t,Uk];rfl⟩|true=>
       obtain⟨aD,js,rfl⟩:=Qcf t;have e2:(aD++[Bo.para<|js++[i]]).map Bo.bk=ZJ (Wx<|Wk<|.tup is) ((aD++[Bo.para js]).map Bo.bk):=by
        rw[Jj,Jj,show[Bo.para js].map Bo.bk=[Bo.bk<|.para js]from rfl,lU,<-e,ni.im];show _++[Wd.Bk.pa<|(js++[i]).map It.im]=_++[Wd.Bk.pa<|js.map It.im++[i.im]];rw[Jj];rfl
       have hw:=h.1 (.para js) (by simp);refine ND (bs':=aD++[.para<|js++[i]]) (pi<|ai.trans<|by rw[t,e2];rfl) (cC<|Sb hx h hl hn (λz=>by rw[ha]at z;cases z) λ_=>⟨is,fL,ef,by rw[gI,t,e2];rfl⟩)<|L4 (b':=.para<|js++[i]) h ⟨λj hj=>?_,λj hj=>?_⟩ ?_
       .rcases q_8.mp hj with q|q;.exact hw.1 j q
        .rw[q_1.mp q];exact ni.w
       .rcases q_8.mp hj with q|q;.exact hw.2 j q
        .rw[q_1.mp q];exact ni.free
       .simp[Bo.rows,Bo.more,Bo.first,ni.rows]
     .exact mv hi fL ef gI
def Sj(kx:QJ)(n:Nat)(xs:List Str):Y4 BM:=W8 (Yn [gS 2,gS 3]) (V1 (eV 3) V9 kx)<|Vu n<|xs.map .str
def Si(n m:Nat):Y4 BM:=W8 (gS 2) (V1 (QW (eV 0)<|eV 2) Xd<|QK<|QS<|QT<|eV 2)<|(List.range' n m).map λj:Nat=>D.int<|0+(j:Int)
def EJ{μ:Type}{g:JW}{b:Y4 μ}{d:D}{ds:List D}{e e1:Q8}{m:μ}{q:Q8×μ}(hg:g d e=some e1)(hb:b e1 m=some (.inl q)):W8 g b (d::ds) e m=W8 g b ds q.1 q.2:=by rw[W8,hg];show(b e1 m).bind _=_;rw[hb];rfl
def EK{μ:Type}{g:JW}{b:Y4 μ}{d:D}{ds:List D}{e e1:Q8}{m:μ}{fl:Fl}(hg:g d e=some e1)(hb:b e1 m=some (.inr fl)):W8 g b (d::ds) e m=some (.inr fl):=by rw[W8,hg];show(b e1 m).bind _=_;rw[hb];rfl
def HA{ex:Q6}{f:Str->BM->Option (Bool×BM)}{kx:QJ}{e:Q8}{m m':BM}{x:Str}(he:ex e=QI x)(hl:e.length<=1000)(hf:f x m=some (true,m')):V1 ex f kx e m=some (.inl (e,m')):=by unfold V1;rw[he];show(if e.length<=1000 then(f x m).bind _ else none)=_;rw[if_pos hl,hf];rfl
def H0{ex:Q6}{f:Str->BM->Option (Bool×BM)}{kx:QJ}{e:Q8}{m m':BM}{x:Str}{fl:Fl}(he:ex e=QI x)(hl:e.length<=1000)(hf:f x m=some (false,m'))(hk:kx e=some fl)(hv:Yq fl=true):V1 ex f kx e m=some (.inr fl):=by unfold V1;rw[he];show(if e.length<=1000 then(f x m).bind _ else none)=_;rw[if_pos hl,hf];show(kx e).bind _=_;rw[hk];show(if Yq fl=true then some (Sum.inr fl)else none)=_;rw[if_pos hv]
theorem Dp{rows:List Str}(hR:∀x∈rows,Rw x)(hl:rows.length<=50000):∀(xs dn:List Str),dn++xs=rows->∀(bs:List Bo),(∀b∈bs,b.w/\b.free)->Jp bs=dn->∀(a b v:Option D),(∃k:Nat,k<rows.length/\(∀kx fl,(∀y,kx [some<|QB rows,none,QA k,QI y]=some fl)->Yq fl=true->Sj kx dn.length xs [some<|QB rows,none,a,b] (bs.map Bo.bk)=some (.inr fl))/\Si dn.length xs.length [some<|QB rows,none,v] (bs.map Bo.bk)=some (.inr<|.rt<|.lst [.int k]))\/∃bs' a' b' v',(∀b∈bs',b.w/\b.free)/\Jp bs'=rows/\(∀kx,Sj kx dn.length xs [some<|QB rows,none,a,b] (bs.map Bo.bk)=some (.inl ([some<|QB rows,none,a',b'],bs'.map Bo.bk)))/\Si dn.length xs.length [some<|QB rows,none,v] (bs.map Bo.bk)=some (.inl ([some<|QB rows,none,v'],bs'.map Bo.bk))
 |[],dn,hd,bs,hw,hb,a,b,v=>.inr ⟨bs,a,b,v,hw,by rw[hb,<-hd,Yv],λ_=>rfl,rfl⟩|x::xs,dn,hd,bs,hw,hb,a,b,v=>by
  have hx:Rw x:=hR x (by rw[<-hd];simp);have ll:dn.length+(xs.length+1)=rows.length:=by rw[<-hd];simp
  have hi:BkI bs:=⟨hw,by rw[hb];omega⟩;obtain⟨o,h1,h2,h3⟩:=QgI hx hi;have ix:QW (eV 0) (eV 2) [some<|QB rows,none,QA<|0+(dn.length:Int)]=QI x:=Q0 rfl rfl<|Pp (xs:=rows.map .str) (by rw[WG,<-hd];simp);have gP:Yn [gS 2,gS 3] (.tup [.int (dn.length:Nat),.str x]) [some<|QB rows,none,a,b]=some [some<|QB rows,none,QA (dn.length:Nat),QI x]:=rfl;have gL:gS 2 (.int<|0+(dn.length:Int)) [some<|QB rows,none,v]=some [some<|QB rows,none,QA<|0+(dn.length:Int)]:=rfl;cases o with
  |none=>
   refine .inl ⟨dn.length,by omega,λkx fl hk hv=>?_,?_⟩;.exact EK gP<|H0 rfl (by simp) h1 (hk x) hv
   .refine(EK gL<|H0 ix (by simp) h2 (ret<|X0 rfl) rfl).trans ?_;rw[Int.zero_add]|some bs'=>
   obtain⟨g1,g2⟩:=h3 bs' rfl;have e1:dn.length+1=(dn++[x]).length:=by simp
   have ih:=Dp hR hl xs (dn++[x]) (by rw[Zw];exact hd) bs' g1 (by rw[g2,hb]) (QA (dn.length:Nat)) (QI x)<|QA<|0+(dn.length:Int);rw[<-e1]at ih;have tP:∀kx,Sj kx dn.length (x::xs) [some<|QB rows,none,a,b] (bs.map Bo.bk)=Sj kx (dn.length+1) xs [some<|QB rows,none,QA (dn.length:Nat),QI x] (bs'.map Bo.bk):=λkx=>EJ gP<|HA rfl (by simp) h1;have tL:Si dn.length (x::xs).length [some<|QB rows,none,v] (bs.map Bo.bk)=Si (dn.length+1) xs.length [some<|QB rows,none,QA<|0+(dn.length:Int)] (bs'.map Bo.bk):=EJ gL<|HA ix (by simp) h2;rcases ih with⟨k,k1,k2,k3⟩|⟨lF,a',b',v',k1,k2,k3,k4⟩;.exact .inl ⟨k,k1,λkx fl hk hv=>by rw[tP];exact k2 kx fl hk hv,by rw[tL];exact k3⟩
   .exact .inr ⟨lF,a',b',v',k1,k2,λkx=>by rw[tP];exact k3 kx,by rw[tL];exact k4⟩
def Dd{i:Nat}{b:Y4 BM}{cl:Q6}{kx:QJ}{e:Q8}{fl:Fl}(hi:i<e.length/\e.length<=1000)(hb:b (e.set i none) []=some (.inr fl))(hv:Yq fl=true):WJ i b cl kx e=some fl:=by unfold WJ;rw[if_pos hi,hb];show(if Yq fl=true then some fl else none)=_;rw[if_pos hv]
def Dc{i:Nat}{b:Y4 BM}{cl:Q6}{kx:QJ}{e e':Q8}{m:BM}{fl:Fl}(hi:i<e.length/\e.length<=1000)(hb:b (e.set i none) []=some (.inl (e',m)))(hl:e'.length<=1000)(hc:cl (e'.set i<|some<|Qh m)=some (.bl true))(hk:kx e'=some fl)(hv:Yq fl=true):WJ i b cl kx e=some fl:=by unfold WJ;rw[if_pos hi,hb];show(if e'.length<=1000 then match cl<|e'.set i<|some<|Qh m with|some (.bl true)=>_|some (.bl false)=>_|_=>none else none)=_;rw[if_pos hl,hc];show(kx e').bind _=_;rw[hk];show(if Yq fl=true then some fl else none)=_;rw[if_pos hv]
def De{i:Nat}{b:Y4 BM}{cl:Q6}{kx:QJ}{e e':Q8}{m:BM}(hi:i<e.length/\e.length<=1000)(hb:b (e.set i none) []=some (.inl (e',m)))(hl:e'.length<=1000)(hc:cl (e'.set i<|some<|Qh m)=some (.bl false)):WJ i b cl kx e=some (.rt<|Qh m):=by unfold WJ;rw[if_pos hi,hb];show(if e'.length<=1000 then match cl<|e'.set i<|some<|Qh m with|some (.bl true)=>_|some (.bl false)=>_|_=>none else none)=_;rw[if_pos hl,hc]
def Dq{a:Q6}{e:Q8}{k:Nat}(h:a e=QA k)(hk:k<10^60):Ur 6 a e=some (.rz 6<|.int k):=QfQ h<|AD hk
def FF{n k:Nat}{b:QJ}{ds:List D}{c:Nat}{d:D}(hl:ds.length=k)(h:b (Jq n ds)=some (.rz c d)):UL n k b ds=some (.inr (c,d)):=by unfold UL;rw[if_pos hl,h]
def QfX{rows:List Str}(hR:∀x∈rows,Rw x)(hl:rows.length<=50000):(∃k:Nat,k<=rows.length/\Pb [QB rows]=some (.lst [.int k])/\UX [QB rows]=some (.inr (6,.int k)))\/∃bs:List Bo,BkI bs/\Jp bs=rows/\Pb [QB rows]=some (.lst<|bs.map Bo.d)/\Mm [QB rows]=some (.lst<|bs.map Bo.d):=by
 have big:∀{k:Nat},k<=50000->k<10^60:=λh=>Nat.lt_of_le_of_lt h (by decide);have mI:∀{a b:Option D},Xg (eV 0) [some<|QB rows,none,a,b]=some (Vu 0<|rows.map .str):=rfl;have mJ:∀{v:Option D},ZH (QD D.len<|eV 0) [some<|QB rows,none,v]=some ((List.range' 0 rows.length).map λj:Nat=>D.int<|0+(j:Int)):=λ{v}=>by
  rw[WI (n:=rows.length) (Qf rfl<|VB rows)<|by omega];unfold rD;rw[List.range_eq_range']
 have bP:∀(kx:QJ){r:Option<|Sum (Q8×BM) Fl},Sj kx 0 rows [some<|QB rows,none,none,none] []=r->U0 (Xg<|eV 0) (Yn [gS 2,gS 3]) (V1 (eV 3) V9 kx) [some<|QB rows,none,none,none] []=r:=λkx r h=>by unfold U0;rw[mI];exact h
 have bL:∀{r:Option<|Sum (Q8×BM) Fl},Si 0 rows.length [some<|QB rows,none,none] []=r->U0 (ZH<|QD D.len<|eV 0) (gS 2) (V1 (Q4 D.ix (eV 0)<|eV 2) Xd<|QK<|QS<|lC (eV 2) lN) [some<|QB rows,none,none] []=r:=λ{r}h=>by unfold U0;rw[mJ];exact h
 rcases Dp hR hl rows [] rfl [] (λ_ h=>by cases h) rfl none none none with⟨k,k1,k2,k3⟩|⟨bs,a',b',v',w,e,k3,k4⟩;.refine .inl ⟨k,by omega,QR rfl<|Dd ⟨by simp[Jq],by simp[Jq]⟩ (bL k3) rfl,FF rfl<|Dd ⟨by simp[Jq],by simp[Jq]⟩ (bP _<|k2 (Ur 6<|eV 2) (.rz 6<|.int k) (λy=>Dq rfl<|big<|by omega) rfl) rfl⟩
 .have hi:BkI bs:=⟨w,by rw[e];omega⟩;have lb:=EB hi;cases lk:JO WZ bs with
  |true=>
   rw[lk]at lb;refine .inl ⟨rows.length,Qm _,QR rfl<|Dc ⟨by simp[Jq],by simp[Jq]⟩ (bL k4) (by simp) ((LK hi rfl).trans<|by rw[lk]) (ret<|X0<|Qf rfl<|VB rows) rfl,FF rfl<|Dc ⟨by simp[Jq],by simp[Jq]⟩ (bP _<|k3 _) (by simp) (Qs rfl lb) (Dq (Qf rfl<|VB rows)<|big hl) rfl⟩|false=>rw[lk]at lb;exact .inr ⟨bs,hi,e,by rw[<-bmB];exact QR rfl<|De ⟨by simp[Jq],by simp[Jq]⟩ (bL k4) (by simp)<|(LK hi rfl).trans<|by rw[lk],by rw[<-bmB];exact QR rfl<|De ⟨by simp[Jq],by simp[Jq]⟩ (bP _<|k3 _) (by simp)<|Qs rfl lb⟩
def Rn(n:Nat)(x:Str):Prop:=Sg x/\x.length<=n
def Rn.rw{n:Nat}{x:Str}(h:Rn n x)(hn:n<=256):Rw x:=⟨h.1,by have:=h.2;omega⟩
def Rn.mono{n m:Nat}{x:Str}(h:Rn n x)(hn:n<=m):Rn m x:=⟨h.1,by have:=h.2;omega⟩
def Sg.app{x y:Str}(hx:Sg x)(hy:Sg y):Sg<|x++y:=Tr hx hy
def YC{x:Str}{n:Nat}(h:((cs x).all (λc=>decide (32<=c)&&decide (c<=126)&&decide (c≠37))&&decide (x.length<=n))=true):Rn n x:=by rw[Ja]at h;exact⟨U1 h.1,of_decide_eq_true h.2⟩
def NF{l:Str}(h:BLab l):Rn 40<|Je l:=by
 rcases QgU h with⟨_,e⟩|⟨hl,_,e,_⟩<;>rw[e];.exact YC<|by decide
 .exact⟨hl.sg,hl.le⟩
theorem Rn.app{n m:Nat}{x y:Str}(hx:Rn n x)(hy:Rn m y):Rn (n+m)<|x++y:=⟨hx.1.app hy.1,by rw[la];have:=hx.2;have:=hy.2;omega⟩
def Ek{k:Nat}(h:k<10^60):Rn 60<|ZB k:=⟨Qdv k,LW h⟩
def Qcp{i:It}(h:i.ok):∀r∈i.rows,Rn 246 r:=by cases i with
 |word x ns=>
  intro r hr;rcases q_7.mp hr with rfl|hr;.exact(Rn.app (n:=5) (m:=100) (YC<|by decide) ⟨h.1.1.1,h.1.1.2⟩).mono<|by omega
  .obtain⟨n,hn,rfl⟩:=q_26.mp hr;exact(Rn.app (n:=5) (m:=100) (YC<|by decide) ⟨(h.2.1 n hn).1,(h.2.1 n hn).2⟩).mono<|by omega|ref l a b=>
  intro r hr;rw[q_1.mp hr];have ha:=h.2.1.1.2;refine⟨?_,?_⟩;.exact((((Sg.app (U1<|by decide) h.1.sg).app<|U1<|by decide).app h.2.1.1.1).app<|U1<|by decide).app h.2.2.1.1
  .have hb:=h.2.2.1.2;have hl:=h.1.le;simp only[la];have e4:("ref ":Str).length=4:=rfl;have e2:("|":Str).length=1:=rfl;have e1:=e1;omega|mark l=>intro r hr;rw[q_1.mp hr];exact(Rn.app (n:=5) (m:=40) (YC<|by decide) ⟨Lab.sg h,Lab.le h⟩).mono<|by omega|key x=>intro r hr;rw[q_1.mp hr];exact(Rn.app (n:=4) (m:=100) (YC<|by decide) ⟨h.1.1,h.1.2⟩).mono<|by omega
def AN{b:Bo}(h:b.ok):∀r∈b.rows,Rn 246 r:=by
 have cons:Rn 246 b.first->(∀r∈b.more,Rn 246 r)->∀r∈b.rows,Rn 246 r:=λh1 h2 r hr=>by
  rcases q_7.mp hr with rfl|hr;.exact h1
  .exact h2 r hr
 cases b with
 |chap t l=>exact cons ((((Rn.app (n:=8) (m:=40) (YC<|by decide)<|NF h.2).app (m:=1)<|YC<|by decide).app (m:=100) ⟨h.1.1.1,h.1.1.2⟩).mono<|by omega) λ_ h=>by cases h|head t k l=>exact cons ((((((Rn.app (n:=8) (m:=60) (YC<|by decide)<|Ek h.2.1).app (m:=1)<|YC<|by decide).app<|NF h.2.2).app (m:=1)<|YC<|by decide).app (m:=100) ⟨h.1.1.1,h.1.1.2⟩).mono<|by omega) λ_ h=>by cases h|tab rs l=>refine cons ((Rn.app (n:=6) (m:=40) (YC<|by decide)<|NF h.2.2.2).mono<|by omega) λr hr=>?_;obtain⟨q,hq,rfl⟩:=q_26.mp hr;exact(Rn.app (n:=4) (m:=100) (YC<|by decide) ⟨(h.1 q hq).1,(h.1 q hq).2⟩).mono<|by omega|plat n l=>exact cons ((((Rn.app (n:=7) (m:=60) (YC<|by decide)<|Ek h.2.1).app (m:=1)<|YC<|by decide).app<|NF h.2.2).mono<|by omega) λ_ h=>by cases h|para is=>refine cons ((YC (x:="para") (n:=4)<|by decide).mono<|by omega) λr hr=>?_;obtain⟨i,hi,hr⟩:=List.mem_flatMap.mp hr;exact Qcp (h.1 i hi) r hr
def Qf7{bs:List Bo}(h:BookOk bs):∀r∈Jp bs,Rn 246 r:=λr hr=>by obtain⟨b,hb,hr⟩:=List.mem_flatMap.mp hr;exact AN (h.1 b hb) r hr
def Qf3{n:Nat}{x:Str}(h:Rn n x):Rn n<|Txt.replace x ⟨#[124]⟩ ⟨#[33]⟩:=by
 rw[StrLaws.replace_one];have hj:=StrLaws.join_split x ⟨#[124]⟩;generalize Txt.split x ⟨#[124]⟩=ps at*;refine⟨λc hc=>?_,?_⟩
 .rcases LD hc with z|⟨p,hp,z⟩;.rw[q_1.mp z];exact⟨by omega,by omega,by omega⟩
  .exact h.1 c<|by rw[<-hj];exact ER hp z
 .rw[E4 (s:=⟨#[33]⟩) (t:=⟨#[124]⟩)<|show(1:Nat)=1 from rfl,hj];exact h.2
def Qf6{xs:List Str}(h:∀x∈xs,Rn 246 x)(hl:xs.length<=40000){it:Za}{e:Q8}(hit:it e=some (xs.map .str))(hc:WR 1 [] e=[none]):∃ys:List Str,JX 1 [] it (gS 0) (JB true) (QD (D.repl "|" "!")<|eV 0) e=some (QB ys)/\ys.length=xs.length/\∀y∈ys,Rn 246 y:=by
 refine⟨xs.map λx=>Txt.replace x ⟨#[124]⟩ ⟨#[33]⟩,?_,by rw[Qr],λy hy=>?_⟩
 .rw[UH D.str xs (λe=>∃v,e=[v]) (λ_=>true) (λx=>.str<|Txt.replace x ⟨#[124]⟩ ⟨#[33]⟩) hit (by show _<=16777216;omega) ⟨none,hc⟩<|by
   rintro x hm e⟨v,rfl⟩;refine⟨_,rfl,⟨_,rfl⟩,rfl,λ_=>Qf rfl ?_⟩;show(if x.length<=1048576 then some<|D.str<|Txt.replace x ⟨#[124]⟩ ⟨#[33]⟩else none)=_;rw[if_pos<|by have:=(h x hm).2;omega],UY];unfold QB;rw[map_map];rfl
 .obtain⟨x,hx,rfl⟩:=q_26.mp hy;exact Qf3<|h x hx
def Aw(x:Str)(k:Nat){n:Nat}(h:Rn n x):Rn (min k n)<|Wd.cutS x none<|some (k:Int):=by
 refine⟨λc hc=>?_,?_⟩;.rw[PD]at hc;exact h.1 c<|mem_of_mem_take hc
 .rw[Jz,PD,X7,<-Jz];have:=h.2;omega
def Gp(x:Str)(k:Nat){n:Nat}(h:Rn n x):Rn (n-k)<|Wd.cutS x (some (k:Int)) none:=by
 refine⟨λc hc=>?_,?_⟩;.rw[P9]at hc;exact h.1 c<|mem_of_mem_drop hc
 .rw[Jz,P9,X8,<-Jz];have:=h.2;omega
def M9{a lo:Q6}{e:Q8}{x:Str}{k:Nat}(ha:a e=QI x)(hl:x.length<=1000)(hk:lo e=QA (k:Int)):Qn a Qx (Qk lo) e=QI (Wd.cutS x none<|some (k:Int)):=Yh ha rfl (WQ hk)<|by show(if x.length<=Qz then some<|D.str<|Wd.cutS x none<|some (k:Int)else none)=_;rw[if_pos<|by show _<=16777216;omega]
def MA{a lo:Q6}{e:Q8}{x:Str}{k:Nat}(ha:a e=QI x)(hl:x.length<=1000)(hk:lo e=QA (k:Int)):Qn a (Qk lo) Qx e=QI (Wd.cutS x (some (k:Int)) none):=Yh ha (WQ hk) rfl<|by show(if x.length<=Qz then some<|D.str<|Wd.cutS x (some (k:Int)) none else none)=_;rw[if_pos<|by show _<=16777216;omega]
def Ax{x:Str}{w:List Nat}{c:Nat}(e:cs x=w++[c]):cs (Wd.cutS x none<|some<|-1)=w/\(x.length<=1000->D.ix (.str x) (.int<|-1)=some (.str ⟨#[c]⟩)):=by
 have hl:(cs x).length=w.length+1:=by rw[e];simp
 refine⟨?_,λh=>?_⟩
 .show Jt (cs x) none (some<|-1)=_;unfold Jt;have e1:ZC (cs x).length 0 none=0:=rfl;have e2:ZC (cs x).length (cs x).length (some<|-1)=w.length:=by show(if(-1:Int)<0 then(-1+((cs x).length:Int)).toNat else min (-1:Int).toNat (cs x).length)=_;rw[if_pos<|by omega];omega
  rw[e1,e2,We,sub_zero,e,List.take_append_of_le_length<|Qm _,take_length]
 .show(if x.length<=Qz then(JD x.length<|-1).bind λk=>(x.cps[k]?).map λc=>D.str ⟨#[c]⟩else none)=_;rw[if_pos<|by show _<=16777216;omega];unfold JD;rw[if_neg<|by omega,if_pos<|by rw[Jz];omega];show(x.cps[(-1+(x.length:Int)).toNat]?).map _=_;have:x.cps[(-1+(x.length:Int)).toNat]?=some c:=by
   rw[<-getElem?_toList];show(cs x)[_]?=_;rw[e,show(-1+(x.length:Int)).toNat=w.length by rw[Jz];omega];simp
  rw[this];rfl
def QfZ{S:Option D}{dn rest:List Str}{y:Str}{v a b c d:Option D}(hy:Rn 246 y)(hl:(dn++y::rest).length<=40000):∃z,Rn 247 z/\QM (Q4 (QX Jl) (QW (eV 1)<|eV 2)<|Q1 "ref ") (Tq 1 (eV 2)<|QG (QG (Qn (QW (eV 1)<|eV 2) Qx<|Qk<|QD D.neg<|Q2 1)<|Q1 "|")<|QW (QW (eV 1)<|eV 2)<|QD D.neg<|Q2 1) QU [S,some<|QB<|dn++y::rest,QA<|0+(dn.length:Int),a,b,c,d]=some (.nx [S,some<|QB<|dn++z::rest,QA<|0+(dn.length:Int),a,b,c,d]):=by
 have ix:QW (eV 1) (eV 2) [S,some<|QB<|dn++y::rest,QA<|0+(dn.length:Int),a,b,c,d]=QI y:=Q0 rfl rfl<|Pp (xs:=(dn++y::rest).map .str) (by rw[WG];simp);have hs:Q4 (QX Jl) (QW (eV 1)<|eV 2) (Q1 "ref ") [S,some<|QB<|dn++y::rest,QA<|0+(dn.length:Int),a,b,c,d]=QL (Txt.startswith y "ref "):=Q0 ix rfl rfl;have yl:=hy.2;cases h:Txt.startswith y "ref "with
 |false=>rw[h]at hs;exact⟨y,hy.mono<|by omega,QE hs rfl⟩|true=>
  rw[h]at hs;obtain⟨w,t,e⟩:∃w t,cs y=w++[t]:=by
   rcases Xv<|cs y with z|⟨w,t,z⟩
   .obtain⟨q,rfl⟩:=Ka h;rw[Z8]at z;exact absurd (List.append_eq_nil_iff.mp z).1<|by decide
   .exact⟨w,t,by rw[z,Xw]⟩
  obtain⟨c1,c2⟩:=Ax e;have wl:w.length+1=y.length:=by rw[Jz,e];simp
  have lR:Sg<|Wd.cutS y none<|some<|-1:=λq hq=>hy.1 q (by rw[c1]at hq;rw[e];exact Y2 _ hq);have s1:Sg (⟨#[t]⟩:Str):=λq hq=>hy.1 q (by rw[q_1.mp<|show q∈[t]from hq,e];simp);have l1:(Wd.cutS y none<|some<|-1).length=w.length:=by rw[Jz,c1]
  have e2:("|":Str).length=1:=rfl;have lt:(⟨#[t]⟩:Str).length=1:=rfl;refine⟨Wd.cutS y none (some<|-1)++"|"++⟨#[t]⟩,⟨(lR.app<|U1<|by decide).app s1,by rw[la,la,l1,e2,lt];omega⟩,Qc hs ?_⟩;have ev:QG (QG (Qn (QW (eV 1)<|eV 2) Qx<|Qk<|QD D.neg<|Q2 1)<|Q1 "|") (QW (QW (eV 1)<|eV 2)<|QD D.neg<|Q2 1) [S,some<|QB<|dn++y::rest,QA<|0+(dn.length:Int),a,b,c,d]=QI (Wd.cutS y none (some<|-1)++"|"++⟨#[t]⟩):=by
   refine Q0 (Q0 (Yh ix rfl (WQ<|Qf rfl rfl)<|show XY (.str y) none (some<|-1)=QI (Wd.cutS y none<|some<|-1)from ?_) rfl<|Js<|by rw[l1,e2];omega) (Q0 ix (Qf rfl rfl)<|c2<|by omega)<|Js (by rw[la,l1,e2,lt];omega);show(if y.length<=Qz then some<|D.str<|Wd.cutS y none<|some<|-1 else none)=_;rw[if_pos<|by show _<=16777216;omega]
  unfold Tq;rw[ev];generalize Wd.cutS y none (some<|-1)++"|"++⟨#[t]⟩=z;show((D.setA (QB<|dn++y::rest) (.int<|0+(dn.length:Int))<|.str z).map λq=>Fl.nx<|[S,some<|QB<|dn++y::rest,QA<|0+(dn.length:Int),a,b,c,d].set 1<|some q)=_;have:D.setA (QB<|dn++y::rest) (.int<|0+(dn.length:Int)) (.str z)=some (QB<|dn++z::rest):=by
   show(JD ((dn++y::rest).map D.str).length<|0+(dn.length:Int)).map (λj=>D.lst<|((dn++y::rest).map D.str).set j<|.str z)=_;unfold JD;rw[if_pos<|by omega,if_pos<|by rw[Qr,JZ,Jb];omega];show some (D.lst<|((dn++y::rest).map D.str).set (0+(dn.length:Int)).toNat<|.str z)=_;rw[show(0+(dn.length:Int)).toNat=dn.length by omega,Jj,List.set_append_right _ _<|by rw[Qr];exact Qm _,Qr,sub_self];unfold QB;rw[Jj];rfl
  rw[this];rfl
def Qf0{S:Option D}{ys:List Str}(hy:∀y∈ys,Rn 246 y)(hl:ys.length<=40000):∃zs v,zs.length=ys.length/\(∀z∈zs,Rn 247 z)/\Z3 (ZH<|QD D.len<|eV 1) (gS 2) (QM (Q4 (QX Jl) (QW (eV 1)<|eV 2)<|Q1 "ref ") (Tq 1 (eV 2)<|QG (QG (Qn (QW (eV 1)<|eV 2) Qx<|Qk<|QD D.neg<|Q2 1)<|Q1 "|")<|QW (QW (eV 1)<|eV 2)<|QD D.neg<|Q2 1) QU) [S,some<|QB ys,none,none,none,none,none]=some (.nx [S,some<|QB zs,v,none,none,none,none]):=by
 let R:Nat->Q8->Prop:=λi e=>∃(dn rest:List Str)(v:Option D),e=[S,some<|QB<|dn++rest,v,none,none,none,none]/\dn.length=i/\dn.length+rest.length=ys.length/\(∀z∈dn,Rn 247 z)/\∀z∈rest,Rn 246 z;obtain⟨e',h1,dn,rest,v,rfl,h2,h3,h4,h5⟩:=Sk (g:=gS 2) (b:=QM (Q4 (QX Jl) (QW (eV 1)<|eV 2)<|Q1 "ref ") (Tq 1 (eV 2)<|QG (QG (Qn (QW (eV 1)<|eV 2) Qx<|Qk<|QD D.neg<|Q2 1)<|Q1 "|")<|QW (QW (eV 1)<|eV 2)<|QD D.neg<|Q2 1) QU) ys.length R (by rintro i hi e⟨dn,rest,v,rfl,h2,h3,h4,h5⟩;subst h2;cases rest with|nil=>simp at h3;omega|cons y rest=>
   obtain⟨z,hz,hs⟩:=QfZ (S:=S) (dn:=dn) (rest:=rest) (v:=v) (a:=none) (b:=none) (c:=none) (d:=none) (h5 y JY) (by rw[JZ];omega);refine⟨_,.inl<|YQ rfl hs,dn++[z],rest,_,by rw[Zw];rfl,by simp,by rw[JZ];rw[Jb]at h3;simp;omega,λq hq=>?_,λq hq=>h5 q<|Qy _ hq⟩;rcases q_8.mp hq with w|w;.exact h4 q w
   .rw[q_1.mp w];exact hz) [S,some<|QB ys,none,none,none,none,none] ⟨[],ys,none,rfl,rfl,by simp,λ_ h=>(by cases h),hy⟩;have r0:rest=[]:=List.length_eq_zero_iff.mp (by omega);subst r0;rw[Yv]at h1;refine⟨dn,v,by simpa using h3,h4,?_⟩;unfold Z3;rw[WI (n:=ys.length) (Qf rfl<|VB ys)<|by omega];exact h1
def ODD:List Str:=([""," ","para","para ","row","row ","row  x","rows x","note","note ","note x","word","word ","word a b","word a ","key ","key a b","key k","mark -","mark A","mark a b","mark ","mark m","ref a |","ref - |","ref a b","ref a b|c|d","ref a  |","ref a | ","ref a |b c","ref |","ref A |","table","table ","table a b","table -","table a","table A","plates 0 -","plates 01 a","plates 1","plates 1 ","plates -1 a","plates +1 a","plates 1_0 a","plates 9 -","plates 1 a b","chapter -","chapter - ","chapter -  x","chapter a x ","chapter  x","chapter - x y","Chapter - x","heading 0 - t","heading 00 - t","heading - - t","heading 0 t","heading 0 - ","heading 1 a  t","heading +1 - t","heading -1 a t","heading 1_0 - t","heading 01 - t","heading  - t","mark row","ref note para|word","key ref"]:List String).map Str.ofString
def Qdx:ODD.all (λx=>(cs x).all (λc=>decide (32<=c)&&decide (c<=126)&&decide (c≠37))&&decide (x.length<=100))=true:=by decide+kernel
def El(d:Int):∃x,TH [.int d]=QI x/\Rn 100 x:=by refine TC (dd:=D.str) (P:=Rn 100) rfl ?_;refine Ji (QP rfl rfl)<|Ji (QP (Q0 rfl rfl rfl) rfl)<|Ji (QP (Q0 rfl rfl rfl) rfl)<|Ji (QP (Q0 rfl rfl rfl) rfl)<|Ji (QP (Q0 rfl rfl rfl) rfl)<|Ji (QP (Q0 rfl rfl rfl) rfl)<|Ji (QP (Q0 rfl rfl rfl) rfl)<|Ji (QP (Q0 rfl rfl rfl) rfl)<|Ji (QP (Q0 rfl rfl rfl) rfl) ?_;show∃x,QK (QW (eV 1)<|Qa (eV 0)<|QD D.len<|eV 1) [QA d,some<|QB ODD]=some (.rt<|.str x)/\Rn 100 x;have hl:D.len (QB ODD)=QA 68:=rfl;have m:=Jg (i:=d) (j:=68) (by decide);obtain⟨x,hx,ex⟩:=W5 (xs:=ODD.map D.str) m.1<|show d%68<((ODD.map D.str).length:Int)from m.2;obtain⟨y,hy,rfl⟩:=q_26.mp hx;exact⟨y,ret<|Q0 rfl (Q0 rfl (Qf rfl hl)<|Qq<|by decide) ex,YC<|q_24.mp Qdx y hy⟩
def Xi{ds:List Int}(h5:ds.length=5)(hd:∀x∈ds,Dr x)(j:Nat)(hj:j<5):∃d,Dr d/\D.ix (iL ds) (.int (j:Int))=QA d:=by obtain⟨d,m,e⟩:=SV (xs:=ds) (j:=(j:Int)) (by omega) (by omega);exact⟨d,hd d m,e⟩
noncomputable def SGN:Str:=" -|09azAZ_+.!~\"#$&'()*,/12345678:;<=>?@BCDEFGHIJKLMNOPQRSTUVWXY[\\]^`bcdefghijklmnopqrstuvwxy{}"
def KS:Rn 100 SGN:=YC<|by decide+kernel
def Qgo:8<=SGN.length:=by decide+kernel
def O7{i:Int}(h:0<=i):∃k:Nat,i=(k:Int):=⟨i.toNat,by omega⟩
def Qdb{i:Int}(h:0<i):∃m:Int,D.min2 (.int i) (.int 12)=QA m/\0<m:=by refine⟨if(12:Int)<i then 12 else i,rfl,?_⟩;split<;>omega
def O3{x:Str}(h:x.length<=1000):D.len (.str x)=QA (x.length:Nat):=by show(if x.length<=Qz then some<|D.int x.length else none)=_;rw[if_pos<|by show _<=16777216;omega]
def Qc5{a b:Q6}{e:Q8}{x y:D}(ha:a e=some x)(hb:b e=some y):QS (lC a<|lC b lN) e=some (.lst [x,y]):=by unfold QS lC lN;rw[ha,hb];rfl
def Qgp{y:Str}(hy:Rn 247 y){ds:List Int}(h5:ds.length=5)(hd:∀x∈ds,Dr x):∃x,Mj [.str y,iL ds]=QI x/\Rn 248 x:=by
 obtain⟨d3,r3,e3⟩:=Xi h5 hd 3 (by decide);obtain⟨d2,r2,e2⟩:=Xi h5 hd 2 (by decide);obtain⟨d4,r4,e4⟩:=Xi h5 hd 4 (by decide);have yl:=hy.2;unfold Dr at r3 r2 r4;obtain⟨M,hM,M0,M1⟩:∃M:Int,D.ix (.lst [.int 8,.int (SGN.length:Nat)]) (.int<|d3%3/2)=QA M/\0<M/\M<=SGN.length:=by
  have m:=Jg (i:=d3) (j:=3) (by decide);have sl:=Qgo;obtain⟨x,hx,ex⟩:=W5 (xs:=[D.int 8,.int (SGN.length:Nat)]) (j:=d3%3/2) (by omega) (by show d3%3/2<2;omega);simp only[q_7,WH,or_false]at hx;rcases hx with rfl|rfl;.exact⟨8,ex,by omega,by omega⟩
  .exact⟨_,ex,by omega,by omega⟩
 have mm:=Jg (i:=d3/3) (j:=M) M0;obtain⟨c,hc,ec⟩:=E1 (x:=SGN) (j:=d3/3%M) (by have:=KS.2;omega) mm.1 (by omega);have s1:Rn 1 (⟨#[c]⟩:Str):=⟨λq hq=>by rw[q_1.mp<|show q∈[c]from hq];exact KS.1 c hc,Qm _⟩;have lc:(⟨#[c]⟩:Str).length=1:=rfl;refine TC (dd:=D.str) (P:=Rn 248) rfl ?_;refine Ji (QP (d:=.str SGN) rfl rfl)<|Ji (QP (Q0 rfl (Q0 (Q0 (Q0 rfl rfl e3) rfl<|ZR<|by decide) (Q0 (x:=.lst [.int 8,.int (SGN.length:Nat)]) (Qc5 rfl<|Qf rfl<|O3<|by have:=KS.2;omega) (Q0 (Q0 (Q0 rfl rfl e3) rfl<|Qq<|by decide) rfl<|ZR<|by decide) hM)<|Qq M0) ec) rfl) ?_;have a1:=Jg (i:=d2/3) (j:=(y.length:Int)+1) (by omega);refine Ji (QP (Q0 (Q0 (Q0 rfl rfl e2) rfl<|ZR<|by decide) (Q0 (x:=.int (y.length:Nat)) (Qf rfl<|O3<|by omega) rfl rfl)<|Qq<|by omega) rfl) ?_;obtain⟨k0,og⟩:=O7 a1.1;rw[og];have fin:∀k:Nat,∃x,sQ (QM (QF (Qa (Q9 1 4)<|Q2 3)<|Q2 0) (QK<|QG (QG (Qn (eV 0) Qx<|Qk<|eV 4)<|eV 3)<|Qn (eV 0) (Qk<|eV 4) Qx) QU) (sQ (QM (QF (Qa (Q9 1 4)<|Q2 3)<|Q2 1) (QK<|QG (QG (Qn (eV 0) Qx<|Qk<|eV 4)<|eV 3)<|Qn (eV 0) (Qk<|QG (eV 4)<|Q2 1) Qx) QU)<|QK<|QG (Qn (eV 0) Qx<|Qk<|eV 4)<|Qn (eV 0) (Qk<|QG (eV 4)<|Q2 1) Qx) [QI y,some<|iL ds,QI SGN,some<|.str ⟨#[c]⟩,QA (k:Int)]=some (.rt<|.str x)/\Rn 248 x:=λk=>by
  have p:=Aw y k hy;have q:=Gp y k hy;have q1:=Gp y (k+1) hy;have up:QG (eV 4) (Q2 1) [QI y,some<|iL ds,QI SGN,some<|.str ⟨#[c]⟩,QA (k:Int)]=QA ((k+1:Nat):Int):=Q0 rfl rfl (by rw[show((k+1:Nat):Int)=(k:Int)+1 by omega];rfl);have p2:=p.2;have q2:=q.2;have q12:=q1.2;by_cases c0:d4%3=0;.refine⟨_,Qt<|Qc (Q0 (Q0 (Q0 rfl rfl e4) rfl<|Qq<|by decide) rfl<|ZM c0)<|ret<|Q0 (Q0 (M9 rfl (by omega) rfl) rfl<|Js<|by rw[lc];omega) (MA rfl (by omega) rfl)<|Js<|by rw[la,lc];omega,((p.app s1).app q).mono<|by omega⟩
  .by_cases c1:d4%3=1;.refine⟨_,st (QE (Q0 (Q0 (Q0 rfl rfl e4) rfl<|Qq<|by decide) rfl<|JR c0) rfl)<|Qt<|Qc (Q0 (Q0 (Q0 rfl rfl e4) rfl<|Qq<|by decide) rfl<|ZM c1)<|ret<|Q0 (Q0 (M9 rfl (by omega) rfl) rfl<|Js<|by rw[lc];omega) (MA rfl (by omega) up)<|Js<|by rw[la,lc];omega,((p.app s1).app q1).mono<|by omega⟩
   .refine⟨_,st (QE (Q0 (Q0 (Q0 rfl rfl e4) rfl<|Qq<|by decide) rfl<|JR c0) rfl)<|st (QE (Q0 (Q0 (Q0 rfl rfl e4) rfl<|Qq<|by decide) rfl<|JR c1) rfl)<|ret<|Q0 (M9 rfl (by omega) rfl) (MA rfl (by omega) up)<|Js<|by omega,(p.app q1).mono<|by omega⟩
 by_cases c0:d2%3=0
 .obtain⟨m,em,m0⟩:=Qdb (i:=(y.length:Int)+1) (by omega);have a2:=Jg (i:=d2/3) (j:=m) m0;obtain⟨k1,n9⟩:=O7 a2.1;refine Ji (Qc (Q0 (Q0 (Q0 rfl rfl e2) rfl<|Qq<|by decide) rfl<|ZM c0)<|QP (Q0 (Q0 (Q0 rfl rfl e2) rfl<|ZR<|by decide) (Q0 (Q0 (x:=.int (y.length:Nat)) (Qf rfl<|O3<|by omega) rfl rfl) rfl em)<|Qq m0) rfl) ?_;rw[n9];exact fin k1
 .exact Ji (QE (Q0 (Q0 (Q0 rfl rfl e2) rfl<|Qq<|by decide) rfl<|JR c0) rfl)<|fin k0
def Qdl(i j:Int):D.neO (.int i) (.int j)=QL (!decide (i=j)):=by simp[D.neO,Xa,UQ,D.cmpN]
def QgV{xs:List Str}(k:Nat):XY (QB xs) none (some (k:Int))=some (QB<|xs.take k):=by
 show some (D.lst<|Jt (xs.map D.str) none<|some (k:Int))=_;unfold Jt QB;congr 2;have e1:ZC (xs.map D.str).length 0 none=0:=rfl;have e2:ZC (xs.map D.str).length (xs.map D.str).length (some (k:Int))=min k xs.length:=by
  show(if(k:Int)<0 then((k:Int)+((xs.map D.str).length:Int)).toNat else min (k:Int).toNat (xs.map D.str).length)=_;rw[if_neg<|by omega,Qr,Xs]
 rw[e1,e2,We,sub_zero,<-map_take];congr 1;rw[List.take_eq_take_iff];omega
def Np{xs ys:List Str}(h:xs.length+ys.length<=2000000):D.add (QB xs) (QB ys)=some (QB<|xs++ys):=by unfold QB;rw[Nn<|by rw[Qr,Qr];exact h,Jj]
def EM{a:Q6}{e:Q8}{x:Str}(h:a e=QI x):QS (QT a) e=some (QB [x]):=X0 h
def Rows(xs:List Str):Prop:=(∀x∈xs,Rn 248 x)/\xs.length<=40001
def Rg{zs:List Str}(hz:∀z∈zs,Rn 247 z)(hl:zs.length<=40000)(a b:Nat)(hab:min a zs.length+1+(zs.length-b)<=40001){x:Str}(hx:Rn 248 x):Rows<|zs.take a++[x]++zs.drop b:=by
 refine⟨λy hy=>?_,by rw[JZ,JZ,X7,X8];simp;omega⟩;rcases q_8.mp hy with w|w
 .rcases q_8.mp w with w|w;.exact(hz y<|mem_of_mem_take w).mono<|by omega
  .rw[q_1.mp w];exact hx
 .exact(hz y<|mem_of_mem_drop w).mono<|by omega
def QgD{zs:List Str}(hz:∀z∈zs,Rn 247 z)(hl:zs.length<=40000)(h0:0<zs.length){ds:List Int}(h5:ds.length=5)(hd:∀x∈ds,Dr x):∃xs:List Str,Mk [QB zs,iL ds]=some (QB xs)/\Rows xs:=by
 obtain⟨d0,r0,e0⟩:=Xi h5 hd 0 (by decide);obtain⟨d1,r1,e1⟩:=Xi h5 hd 1 (by decide);obtain⟨d2,r2,e2⟩:=Xi h5 hd 2 (by decide);obtain⟨d3,r3,e3⟩:=Xi h5 hd 3 (by decide);have a1:=Jg (i:=d1) (j:=(zs.length:Nat)) (by omega);have a2:=Jg (i:=d2) (j:=(zs.length:Nat)) (by omega);obtain⟨at_,ea⟩:=O7 a1.1;obtain⟨cB,et⟩:=O7 a2.1;have iX:at_<zs.length:=by omega
 have kG:cB<zs.length:=by omega
 refine TC (dd:=QB) (P:=Rows) rfl ?_;refine Ji (QP (Q0 (Q0 rfl rfl e0) rfl<|Qq<|by decide) rfl)<|Ji (QP (Q0 (Q0 rfl rfl e1) (Qf rfl<|VB zs)<|Qq<|by omega) rfl)<|Ji (QP (Q0 (Q0 rfl rfl e2) (Qf rfl<|VB zs)<|Qq<|by omega) rfl) ?_;rw[ea,et];generalize d0%9=tn;have pre:∀e,eV 0 e=some (QB zs)->eV 3 e=QA (at_:Int)->Qn (eV 0) Qx (Qk<|eV 3) e=some (QB<|zs.take at_):=λe h1 h2=>Yh h1 rfl (WQ h2)<|QgV at_;have kf:∀e,eV 0 e=some (QB zs)->eV 3 e=QA (at_:Int)->Qn (eV 0) (Qk<|eV 3) Qx e=some (QB<|zs.drop at_):=λe h1 h2=>Yh h1 (WQ h2) rfl<|P8 at_;have eM:∀e,eV 0 e=some (QB zs)->eV 3 e=QA (at_:Int)->Qn (eV 0) (Qk<|QG (eV 3)<|Q2 1) Qx e=some (QB<|zs.drop<|at_+1):=λe h1 h2=>Yh h1 (WQ<|Q0 h2 rfl<|show D.add (.int (at_:Int)) (.int 1)=QA ((at_+1:Nat):Int)from by rw[show((at_+1:Nat):Int)=(at_:Int)+1 by omega];rfl) rfl<|P8<|at_+1;have el:∀{j k:Nat}e,eV 0 e=some (QB zs)->eV j e=QA (k:Int)->k<zs.length->∃x∈zs,QW (eV 0) (eV j) e=QI x:=λ{j k}e h1 h2 hk=>by obtain⟨x,hx,ex⟩:=W5 (xs:=zs.map D.str) (j:=(k:Int)) (by omega) (by rw[Qr];omega);obtain⟨y,hy,rfl⟩:=q_26.mp hx;exact⟨y,hy,Q0 h1 h2 ex⟩
 have iA:(zs.take at_).length=at_:=by rw[X7];omega
 have ld:(zs.drop at_).length=zs.length-at_:=X8;have kH:(zs.drop<|at_+1).length=zs.length-(at_+1):=X8;have three:∀{mid lo:Q6}{x:Str}{iQ:List Str}{e:Q8},eV 0 e=some (QB zs)->eV 3 e=QA (at_:Int)->mid e=QI x->lo e=some (QB iQ)->iQ.length<=40000->QG (QG (Qn (eV 0) Qx<|Qk<|eV 3)<|QS<|QT mid) lo e=some (QB<|zs.take at_++[x]++iQ):=λh1 h2 hm iH hs=>Q0 (Q0 (pre _ h1 h2) (EM hm)<|Np<|by rw[iA];simp;omega) iH<|Np (by rw[JZ,iA];simp;omega);obtain⟨od,eo,ho⟩:=El d3;by_cases c1:tn=1
 .refine⟨zs.take at_++zs.drop (at_+1),Qt<|Qc (Q0 rfl rfl<|ZM c1)<|ret<|Q0 (pre _ rfl rfl) (eM _ rfl rfl)<|Np<|by rw[iA,kH];omega,λy hy=>?_,by rw[JZ,iA,kH];omega⟩;rcases q_8.mp hy with w|w;.exact(hz y<|mem_of_mem_take w).mono<|by omega
  .exact(hz y<|mem_of_mem_drop w).mono<|by omega
 refine Ji (QE (Q0 rfl rfl<|JR c1) rfl) ?_;by_cases c2:tn=2;.obtain⟨x,hx,ex⟩:=el (j:=3) [some<|QB zs,some<|iL ds,QA tn,QA (at_:Int),QA (cB:Int)] rfl rfl iX;exact⟨_,Qt<|Qc (Q0 rfl rfl<|ZM c2)<|ret<|three rfl rfl ex (kf _ rfl rfl)<|by omega,Rg hz hl _ _ (by omega)<|(hz x hx).mono<|by omega⟩
 refine Ji (QE (Q0 rfl rfl<|JR c2) rfl) ?_;by_cases c3:tn=3;.exact⟨_,Qt<|Qc (Q0 rfl rfl<|ZM c3)<|ret<|three rfl rfl (Qs (Q0 rfl rfl e3) eo) (eM _ rfl rfl)<|by omega,Rg hz hl _ _ (by omega)<|ho.mono<|by omega⟩
 refine Ji (QE (Q0 rfl rfl<|JR c3) rfl) ?_;by_cases c4:tn=4;.obtain⟨x,hx,ex⟩:=el (j:=4) [some<|QB zs,some<|iL ds,QA tn,QA (at_:Int),QA (cB:Int)] rfl rfl kG;exact⟨_,Qt<|Qc (Q0 rfl rfl<|ZM c4)<|ret<|three rfl rfl ex (eM _ rfl rfl)<|by omega,Rg hz hl _ _ (by omega)<|(hz x hx).mono<|by omega⟩
 refine Ji (QE (Q0 rfl rfl<|JR c4) rfl) ?_;by_cases c5:tn=5
 .obtain⟨xs,hx,lx,px⟩:=M7 (g:=gS 0) (el:=QW (eV 1)<|QW (QS<|Jk (eV 0) (eV 2)<|eV 3)<|QG (QD D.intB<|QF (eV 0)<|eV 3)<|JC (Q2 2)<|QD D.intB<|QH (QF (eV 0)<|eV 2)<|JQ (eV 3)<|eV 2) (λi:Nat=>D.int<|0+(i:Int)) D.str (λx=>x∈zs) (λe=>∃v,e=[v,some<|QB zs,QA (cB:Int),QA (at_:Int)]) (List.range zs.length) (by
   rintro i hi e⟨v,rfl⟩;have hi:=List.mem_range.mp hi;obtain⟨j,hj,nt⟩:∃j:Nat,j<zs.length/\QW (QS<|Jk (eV 0) (eV 2)<|eV 3) (QG (QD D.intB<|QF (eV 0)<|eV 3)<|JC (Q2 2)<|QD D.intB<|QH (QF (eV 0)<|eV 2)<|JQ (eV 3)<|eV 2) [QA<|0+(i:Int),some<|QB zs,QA (cB:Int),QA (at_:Int)]=QA (j:Int):=by
    have l3:QS (Jk (eV 0) (eV 2)<|eV 3) [QA<|0+(i:Int),some<|QB zs,QA (cB:Int),QA (at_:Int)]=some (.lst [.int<|0+(i:Int),.int (cB:Int),.int (at_:Int)]):=rfl;have q1:QD D.intB (QF (eV 0)<|eV 3) [QA<|0+(i:Int),some<|QB zs,QA (cB:Int),QA (at_:Int)]=QA (if decide (0+(i:Int)=at_)=true then 1 else 0):=Qf (Q0 rfl rfl<|PQ _ _) rfl;have q2:QD D.intB (QH (QF (eV 0)<|eV 2)<|JQ (eV 3)<|eV 2) [QA<|0+(i:Int),some<|QB zs,QA (cB:Int),QA (at_:Int)]=QA (if(decide (0+(i:Int)=cB)&&!decide ((at_:Int)=cB))=true then 1 else 0):=Qf (Y5 (Q0 rfl rfl<|PQ _ _) λ_=>Q0 rfl rfl<|Qdl _ _) rfl;by_cases h1:0+(i:Int)=at_
    .have h2:(decide (0+(i:Int)=cB)&&!decide ((at_:Int)=cB))=false:=by
      by_cases z:(at_:Int)=cB;.rw[J2 z];simp
      .rw[J0<|by omega];rfl
     rw[J2 h1]at q1;rw[h2]at q2;exact⟨cB,kG,Q0 l3 (Q0 q1 (Q0 rfl q2<|Vi<|by decide) rfl) rfl⟩
    .rw[J0 h1]at q1;cases h2:decide (0+(i:Int)=cB)&&!decide ((at_:Int)=cB)with
     |true=>rw[h2]at q2;exact⟨at_,iX,Q0 l3 (Q0 q1 (Q0 rfl q2<|Vi<|by decide) rfl) rfl⟩|false=>
      rw[h2]at q2;refine⟨i,hi,Q0 l3 (Q0 q1 (Q0 rfl q2<|Vi<|by decide) rfl) ?_⟩;show some (D.int<|0+(i:Int))=_;rw[Int.zero_add]
   obtain⟨x,hx,ex⟩:=W5 (xs:=zs.map D.str) (j:=(j:Int)) (by omega) (by rw[Qr];omega);obtain⟨y,hy,rfl⟩:=q_26.mp hx;exact⟨_,y,rfl,⟨_,rfl⟩,Q0 rfl nt ex,hy⟩) [none,some<|QB zs,QA (cB:Int),QA (at_:Int)] ⟨none,rfl⟩;refine⟨xs,Qt<|Qc (Q0 rfl rfl<|ZM c5)<|ret ?_,λy hy=>(hz y<|px y hy).mono<|by omega,by rw[lx,Xu];omega⟩;unfold JX;rw[WI (n:=zs.length) (Qf rfl<|VB zs)<|by omega];show(if(rD 0 zs.length).length<=Qz then(Y8 _ _ _ (rD 0 zs.length) [none,some<|QB zs,QA (cB:Int),QA (at_:Int)]).map D.lst else none)=_;rw[if_pos<|by unfold rD;rw[Qr,Xu];show _<=16777216;omega];unfold rD;rw[hx];rfl
 refine Ji (QE (Q0 rfl rfl<|JR c5) rfl) ?_;by_cases c6:tn=6
 .obtain⟨x,hx,ex⟩:=el (j:=3) [some<|QB zs,some<|iL ds,QA tn,QA (at_:Int),QA (cB:Int)] rfl rfl iX;obtain⟨s,es,hs⟩:=Qgp (hz x hx) h5 hd;exact⟨_,Qt<|Qc (Q0 rfl rfl<|ZM c6)<|ret<|three rfl rfl (Zb ex rfl es) (eM _ rfl rfl)<|by omega,Rg hz hl _ _ (by omega) hs⟩
 refine Ji (QE (Q0 rfl rfl<|JR c6) rfl) ?_;by_cases c7:tn=7;.exact⟨zs.take at_,Qt<|Qc (Q0 rfl rfl<|ZM c7)<|ret<|pre _ rfl rfl,λy hy=>(hz y<|mem_of_mem_take hy).mono<|by omega,by omega⟩
 refine Ji (QE (Q0 rfl rfl<|JR c7) rfl) ?_;by_cases c8:tn=8;.exact⟨_,Qt<|Qc (Q0 rfl rfl<|ZM c8)<|ret<|three rfl rfl (Qs (Q0 rfl rfl e3) eo) (kf _ rfl rfl)<|by omega,Rg hz hl _ _ (by omega)<|ho.mono<|by omega⟩
 exact Ji (QE (Q0 rfl rfl<|JR c8) rfl) ⟨zs,ret rfl,λy hy=>(hz y hy).mono<|by omega,by omega⟩
def T2{x:Str}(h:Txt.startswith x "ref "=false):VR x=false:=by unfold VR;rw[h];rfl
theorem GK:∀(xs:List Str)(n:Nat),(∀x∈xs,VR x=false)->V4 n xs=-1|[],_,_=>rfl|x::xs,n,h=>by show(if VR x=true then(n:Int)else V4 (n+1) xs)=-1;rw[if_neg<|by rw[h x JY];decide];exact GK xs (n+1) λy hy=>h y<|Qy _ hy
def A9{l a b:Str}(hl:124∉cs l)(ha:124∉cs a)(hb:124∉cs b):VR ("ref "++l++" "++a++"|"++b)=false:=by unfold VR;rw[QfY,show Txt.startswith ("ref "++(l++(" "++(a++("|"++b))))) "ref "=true from sw rfl,Bool.true_and,decide_eq_false_iff_not];simp only[Z8,List.count_append,List.count_eq_zero.mpr hl,List.count_eq_zero.mpr ha,List.count_eq_zero.mpr hb];rw[show(cs "ref ").count 124=0 from rfl,show(cs " ").count 124=0 from rfl,show(cs "|").count 124=1 from rfl];omega
def Qcn{i:It}(h:i.free):∀r∈i.rows,VR r=false:=by cases i with
 |ref l a b=>exact λr hr=>by rw[q_1.mp hr];exact A9 h.1 h.2.1 h.2.2|word x ns=>
  intro r hr;rcases q_7.mp hr with rfl|hr;.exact T2<|sw rfl
  .obtain⟨n,_,rfl⟩:=q_26.mp hr;exact T2<|sw rfl|mark l=>exact λr hr=>by rw[q_1.mp hr];exact T2<|sw rfl|key x=>exact λr hr=>by rw[q_1.mp hr];exact T2<|sw rfl
def QbH(b:Bo):VR b.first=false:=by refine T2 ?_;cases b with|chap t l=>show Txt.startswith ("chapter "++Je l++" "++t) _=_;simp only[XU];exact sw rfl|head t k l=>show Txt.startswith ("heading "++ZB k++" "++Je l++" "++t) _=_;simp only[XU];exact sw rfl|tab rs l=>exact sw rfl|plat n l=>show Txt.startswith ("plates "++ZB n++" "++Je l) _=_;simp only[XU];exact sw rfl|para is=>show Txt.startswith "para" "ref "=false;rw[Ts];rfl
def AQ{bs:List Bo}(h:∀b∈bs,b.free):V4 0 (Jp bs)=-1:=GK _ 0 λr hr=>by
 obtain⟨b,hb,hr⟩:=List.mem_flatMap.mp hr;rcases q_7.mp hr with rfl|hr;.exact QbH b
 .have hf:=h b hb;cases b with|para is=>obtain⟨i,hi,hr⟩:=List.mem_flatMap.mp hr;exact Qcn (hf i hi) r hr|tab rs l=>obtain⟨n,_,rfl⟩:=q_26.mp hr;exact T2<|sw rfl|chap t l=>cases hr|head t k l=>cases hr|plat n l=>cases hr
def Qdq(k a b c d:Str):∃q,D.notInO (.str k) (.tup [.str a,.str b,.str c,.str d])=QL q:=by refine⟨_,show(if Zq (.str k)=true/\[D.str a,D.str b,.str c,.str d].all Zq=true then some<|D.bl<|!inD (.str k) [.str a,.str b,.str c,.str d]else none)=_ from if_pos ⟨rfl,rfl⟩⟩
theorem GN{A:D}:∀(xs:List Str),(∀x∈xs,x.length<=1000)->∀(a b c:Option D),(∃a' b' c',Zz (gS 1) (sQ (QO (Q4 (QX ZE) (eV 1)<|Q1 " ")<|gS 2)<|sQ (QO (QG (Q2 1)<|QD D.intB<|Q4 D.inO (Q9 2 0)<|Qe<|J3 (Q1 "heading")<|Q1 "plates")<|gS 3)<|QM (QH (Q4 D.gt (QD D.len<|eV 2)<|eV 3)<|QH (Q4 D.gt (QD D.len<|QW (eV 2)<|eV 3)<|Q2 12)<|Q4 D.notInO (Q9 2 0)<|Qe<|Jw (Q1 "word") (Q1 "key") (Q1 "row")<|Q1 "note") (QK<|JB true) QU) (xs.map .str) [some A,a,b,c]=some (.nx [some A,a',b',c']))\/Zz (gS 1) (sQ (QO (Q4 (QX ZE) (eV 1)<|Q1 " ")<|gS 2)<|sQ (QO (QG (Q2 1)<|QD D.intB<|Q4 D.inO (Q9 2 0)<|Qe<|J3 (Q1 "heading")<|Q1 "plates")<|gS 3)<|QM (QH (Q4 D.gt (QD D.len<|eV 2)<|eV 3)<|QH (Q4 D.gt (QD D.len<|QW (eV 2)<|eV 3)<|Q2 12)<|Q4 D.notInO (Q9 2 0)<|Qe<|Jw (Q1 "word") (Q1 "key") (Q1 "row")<|Q1 "note") (QK<|JB true) QU) (xs.map .str) [some A,a,b,c]=some (.rt<|.bl true)
 |[],_,a,b,c=>.inl ⟨a,b,c,rfl⟩|x::xs,h,a,b,c=>by
  have xl:=h x JY;obtain⟨p,ps,hp⟩:∃p ps,Qo x=p::ps:=by cases e:Qo x with|nil=>exact absurd e<|Wa x|cons p ps=>exact⟨p,ps,rfl⟩
  obtain⟨n,n0,kU⟩:∃n:Nat,0<n/\∀v,QG (Q2 1) (QD D.intB<|Q4 D.inO (Q9 2 0)<|Qe<|J3 (Q1 "heading")<|Q1 "plates") [some A,QI x,some<|QB<|p::ps,v]=QA (n:Int):=by cases hq:decide (("heading":Str)=p)||decide (("plates":Str)=p)with
   |true=>exact⟨2,by omega,λv=>Q0 rfl (Qf (Q0 (Q0 rfl rfl<|Xj p ps) (YM rfl rfl)<|(Pk _ _ _).trans<|by rw[hq]) rfl) rfl⟩|false=>exact⟨1,by omega,λv=>Q0 rfl (Qf (Q0 (Q0 rfl rfl<|Xj p ps) (YM rfl rfl)<|(Pk _ _ _).trans<|by rw[hq]) rfl) rfl⟩
  obtain⟨q,hc⟩:∃q,QH (Q4 D.gt (QD D.len<|eV 2)<|eV 3) (QH (Q4 D.gt (QD D.len<|QW (eV 2)<|eV 3)<|Q2 12)<|Q4 D.notInO (Q9 2 0)<|Qe<|Jw (Q1 "word") (Q1 "key") (Q1 "row")<|Q1 "note") [some A,QI x,some<|QB<|p::ps,QA (n:Int)]=QL q:=by
   by_cases hn:(n:Int)<((p::ps).length:Nat)
   .obtain⟨y,hy,ey⟩:=W5 (xs:=(p::ps).map D.str) (j:=(n:Int)) (by omega) (by rw[Qr];exact hn);obtain⟨z,hz,rfl⟩:=q_26.mp hy;have zl:z.length<=1000:=by have:=(D5 x z<|by rw[hp];exact hz).2;omega
    obtain⟨q,hq⟩:=Qdq p "word" "key" "row" "note";refine⟨_,JE (Q0 (Qf rfl<|VB _) rfl<|SQ hn)<|Y5 (p:=decide<|(12:Int)<(z.length:Nat)) (Q0 (Qf (Q0 rfl rfl ey)<|O3 zl) rfl rfl) λ_=>Q0 (Q0 rfl rfl<|Xj p ps) (U8 rfl rfl rfl rfl) hq⟩
   .exact⟨false,JT<|Q0 (Qf rfl<|VB _) rfl<|SO hn⟩
  have hs:Q4 (QX ZE) (eV 1) (Q1 " ") [some A,QI x,b,c]=some (QB<|p::ps):=by rw[<-hp];exact Rf rfl<|by omega
  have ih:=GN (A:=A) xs (λy hy=>h y<|Qy _ hy) (QI x) (some<|QB<|p::ps)<|QA (n:Int);cases q with
  |true=>refine .inr ?_;have body:(gS 1 (.str x) [some A,a,b,c]).bind (sQ (QO (Q4 (QX ZE) (eV 1)<|Q1 " ")<|gS 2)<|sQ (QO (QG (Q2 1)<|QD D.intB<|Q4 D.inO (Q9 2 0)<|Qe<|J3 (Q1 "heading")<|Q1 "plates")<|gS 3)<|QM (QH (Q4 D.gt (QD D.len<|eV 2)<|eV 3)<|QH (Q4 D.gt (QD D.len<|QW (eV 2)<|eV 3)<|Q2 12)<|Q4 D.notInO (Q9 2 0)<|Qe<|Jw (Q1 "word") (Q1 "key") (Q1 "row")<|Q1 "note") (QK<|JB true) QU)=some (.rt<|.bl true):=YQ rfl<|st (QP hs rfl)<|st (QP (kU _) rfl)<|Qc hc<|ret rfl;show YN ((gS 1 (.str x) [some A,a,b,c]).bind _) _=_;rw[body];rfl|false=>
   have body:(gS 1 (.str x) [some A,a,b,c]).bind (sQ (QO (Q4 (QX ZE) (eV 1)<|Q1 " ")<|gS 2)<|sQ (QO (QG (Q2 1)<|QD D.intB<|Q4 D.inO (Q9 2 0)<|Qe<|J3 (Q1 "heading")<|Q1 "plates")<|gS 3)<|QM (QH (Q4 D.gt (QD D.len<|eV 2)<|eV 3)<|QH (Q4 D.gt (QD D.len<|QW (eV 2)<|eV 3)<|Q2 12)<|Q4 D.notInO (Q9 2 0)<|Qe<|Jw (Q1 "word") (Q1 "key") (Q1 "row")<|Q1 "note") (QK<|JB true) QU)=some (.nx [some A,QI x,some<|QB<|p::ps,QA (n:Int)]):=YQ rfl<|st (QP hs rfl)<|st (QP (kU _) rfl)<|QE hc rfl;have go:∀r,Zz (gS 1) _ (xs.map .str) [some A,QI x,some<|QB<|p::ps,QA (n:Int)]=r->Zz (gS 1) _ ((x::xs).map .str) [some A,a,b,c]=r:=λr hr=>by show YN ((gS 1 (.str x) [some A,a,b,c]).bind _) _=_;rw[body];exact hr
   rcases ih with⟨a',b',c',h1⟩|h1;.exact .inl ⟨a',b',c',go _ h1⟩
   .exact .inr<|go _ h1
def AB{xs:List Str}(h:∀x∈xs,x.length<=1000):∃q,Mg [QB xs]=QL q:=by
 rcases GN (A:=QB xs) xs h none none none with⟨a,b,c,e⟩|e;.exact⟨false,QR rfl<|st e<|ret rfl⟩
 .exact⟨true,QR rfl<|Qt e⟩
def QcJ(k:Nat):Mh [.exc 6<|.int k]=some (.lst [.int k]):=by refine QR rfl<|st (QP rfl rfl)<|st (Qc rfl<|Yz rfl rfl rfl)<|st (QE rfl rfl)<|st (QE rfl rfl)<|st (QE rfl rfl)<|st (QE rfl rfl)<|ret rfl
def Qf1{R:D}{k:Nat}(h:UX [R]=some (.inr (6,.int k))):Mi [R]=some (.lst [.int k]):=by
 have h1:Oz 1 2 (RU UX<|lC (eV 0) lN) [some R,some .non,none]=some (.nx [some R,some<|.exc 6<|.int k,none]):=by
  unfold Oz;rw[show RU UX (lC (eV 0) lN) [some R,some .non,none]=some (.rz 6<|.int k)by
   unfold RU lC lN;show(UX [R]).map _=_;rw[h];rfl];rfl
 exact QR rfl<|st (QP rfl rfl)<|st h1<|ret<|Qs rfl<|QcJ k
def QcV(ns:List Int):SN [.scr ns]=QL true:=by
 obtain⟨bs,eb,ok,_⟩:=AO ns;have rl:=Lz ok;obtain⟨ds,ed,ld,hd⟩:=MN ns (turn:=700) (many:=5) (by omega) (by omega);have hit:Zc (eK Pc<|QT<|eK PZ<|QT<|eV 0) (Jq 7 [.scr ns])=some ((Jp bs).map .str):=by
  unfold Zc;rw[Qs (Qs rfl eb)<|QcT ok];rfl
 obtain⟨ys,ey,ly,hy⟩:=Qf6 (Qf7 ok) (by omega) hit rfl;obtain⟨zs,v,lz,hz,ez⟩:=Qf0 (S:=some<|.scr ns) hy (by omega);refine QR rfl<|st (QP ey rfl)<|st ez<|st (QP (T3 rfl rfl rfl ed) rfl) ?_;obtain⟨d3,r3,e3⟩:=Xi ld hd 3 (by decide);obtain⟨us,mB,lu,hu,eu⟩:∃us:List Str,0<us.length/\us.length<=40000/\(∀u∈us,Rn 247 u)/\QM (QF (eV 1)<|QS lN) (QO (QS<|QT<|eK TH<|QT<|Q9 3 3)<|gS 1) QU [some<|.scr ns,some<|QB zs,v,some<|iL ds,none,none,none]=some (.nx [some<|.scr ns,some<|QB us,v,some<|iL ds,none,none,none]):=by
  have c:QF (eV 1) (QS lN) [some<|.scr ns,some<|QB zs,v,some<|iL ds,none,none,none]=some (.bl (zs.map D.str).isEmpty):=Q0 rfl rfl<|MX<|MH zs;cases zs with|nil=>obtain⟨x,ex,hx⟩:=El d3;exact⟨[x],by simp,by simp,λu h=>by rw[q_1.mp h];exact hx.mono<|by omega,Qc c<|QP (EM<|Qs (Q0 rfl rfl e3) ex) rfl⟩|cons z zs=>exact⟨z::zs,by simp,by omega,hz,QE c rfl⟩
 refine st eu ?_;obtain⟨xs,ex,hx,lx⟩:=QgD hu lu mB ld hd;refine st (QP (Zb rfl rfl ex) rfl) ?_;have hR:∀x∈xs,Rw x:=λx h=>(hx x h).rw (by omega);obtain⟨q,eq⟩:=AB (xs:=xs) λx h=>by have:=(hx x h).2;omega
 cases q with
 |true=>exact Qt<|Qc (Qs rfl eq)<|ret rfl|false=>
  refine st (QE (Qs rfl eq) rfl) ?_;have ar:Al 6<|QB xs:=(Nq<|by omega).mono (by omega);rcases QfX hR<|by omega with⟨k,hk,hl,hp⟩|⟨gT,hi,er,hl,hp⟩
  .have ak:Al 1<|.lst [.int (k:Int)]:=.lst (by simp) λd h=>by rw[q_1.mp h];exact .int 0 _
   refine st (QP (Qs rfl hl) rfl)<|st (QP (Qf rfl rfl) rfl)<|Qt<|Qc (JE (Q0 rfl rfl<|neL<|by have:=ak.eq.2;omega) rfl)<|ret<|JE (Q0 (Qs rfl<|Qf1 hp) rfl<|ak.eqO<|by omega)<|Q0 rfl rfl<|ar.eqO<|by omega
  .have ab:=HB hi.w;have hw:=Qhk hi.w<|AQ λb hb=>(hi.1 b hb).2;rw[er]at hw;refine st (QP (Qs rfl hl) rfl)<|st (QP (Qf rfl rfl) rfl)<|st (QE ?_ rfl)<|st (QP (Qs rfl hp) rfl)<|ret<|JE (Zb rfl rfl<|HD ab)<|JE (Zb (Qs rfl hw) rfl<|HD ar)<|Q0 rfl rfl<|ar.eqO (by omega);have hn:=neL<|GU hi;cases gT with
   |nil=>exact JT<|Q0 rfl rfl hn|cons b gT=>
    refine JE (Q0 rfl rfl hn) ?_;have:D.ix (.lst<|(b::gT).map Bo.d) (.int 0)=some b.d:=by show((JD ((b::gT).map Bo.d).length 0).bind λk=>((b::gT).map Bo.d)[k]?)=_;unfold JD;rw[if_pos<|by omega,if_pos<|by first|(simp;done)|(simp;omega)];rfl
    refine YW (Q0 rfl rfl this) ?_;cases b<;>rfl
end
section
open PySem PySem.Spec PyProof.Rows L2 Wd
abbrev CK:Stmt:=Qw 10
abbrev N1:Stmt:=Qw 11
abbrev KN:Stmt:=Qw 13
abbrev CC:Stmt:=Qw 14
abbrev KJ:Stmt:=Qw 15
abbrev KP:Stmt:=Qw 16
abbrev CG:Stmt:=Qw 17
abbrev KL:Stmt:=Qw 18
abbrev CD:Stmt:=Qw 19
abbrev CJ:Stmt:=Qw 20
abbrev CH:Stmt:=Qw 21
abbrev CF:Stmt:=Qw 22
abbrev CQ:Stmt:=Qw 23
abbrev CN:Stmt:=Qw 24
abbrev CO:Stmt:=Qw 25
abbrev CU:Stmt:=Qw 26
abbrev CS:Stmt:=Qw 27
abbrev CM:Stmt:=Qw 28
abbrev CT:Stmt:=Qw 29
abbrev CP:Stmt:=Qw 30
abbrev N4:Stmt:=Qw 31
abbrev KO:Stmt:=Qw 32
abbrev CL:Stmt:=Qw 33
abbrev KI:Stmt:=Qw 34
abbrev KH:Stmt:=Qw 35
abbrev N0:Stmt:=Qw 36
abbrev N3:Stmt:=Qw 37
abbrev Dw:Stmt:=Qw 39
abbrev K2:Stmt:=Qw 40
abbrev C8:Stmt:=Qw 41
abbrev C5:Stmt:=Qw 42
abbrev C9:Stmt:=Qw 43
abbrev K7:Stmt:=Qw 44
abbrev K3:Stmt:=Qw 45
abbrev K5:Stmt:=Qw 46
abbrev Dv:Stmt:=Qw 47
abbrev K4:Stmt:=Qw 48
abbrev C7:Stmt:=Qw 49
abbrev K6:Stmt:=Qw 50
abbrev KD:Stmt:=Qw 51
abbrev Dy:Stmt:=Qw 52
abbrev K8:Stmt:=Qw 53
abbrev KA:Stmt:=Qw 54
abbrev CA:Stmt:=Qw 55
abbrev Dt:Stmt:=Qw 56
abbrev Dx:Stmt:=Qw 57
abbrev K9:Stmt:=Qw 58
abbrev KC:Stmt:=Qw 59
abbrev C3:Stmt:=Qw 60
abbrev Ds:Stmt:=Qw 61
abbrev C0:Stmt:=Qw 62
abbrev C6:Stmt:=Qw 63
abbrev KG:Stmt:=Qw 64
abbrev C4:Stmt:=Qw 65
abbrev RX:Stmt:=Qw 66
structure Txt(K:Fg)(mg:Str->Option Value):Prop where
 b_ValueError:mg "ValueError"=none
 b_all:mg "all"=none
 b_bool:mg "bool"=none
 b_enumerate:mg "enumerate"=none
 b_int:mg "int"=none
 b_isinstance:mg "isinstance"=none
 b_len:mg "len"=none
 b_list:mg "list"=none
 b_max:mg "max"=none
 b_min:mg "min"=none
 b_ord:mg "ord"=none
 b_range:mg "range"=none
 b_str:mg "str"=none
 b_tuple:mg "tuple"=none
 y_Loose:mg "Loose"=some (.ref<|Jn K 4)y_NoLabel:mg "NoLabel"=some (.ref<|Jn K 5)y_NoRow:mg "NoRow"=some (.ref<|Jn K 6)y_NoStyle:mg "NoStyle"=some (.ref<|Jn K 0)y_TooHigh:mg "TooHigh"=some (.ref<|Jn K 2)y_TooWide:mg "TooWide"=some (.ref<|Jn K 1)y_Twice:mg "Twice"=some (.ref<|Jn K 3)xt:XT K mg "BookError"xr:XR K
 z:True
section
variable{P:Program}{w:World}{K:Fg}{mg:Str->Option Value}{ae:Heap}
def Qea(h:∃C CB f fd,XDf K mg "NoRow" "NoRow.__init__" 6 RW C CB f fd):Rv P w K mg ae 1 "NoRow" 6:=XDf.mk' h ⟨rfl,rfl,rfl,by decide+kernel,rfl,by decide+kernel,by decide+kernel⟩ rfl λC CB f fd z ah A af s H E=>⟨QfB z.xb z.cl rfl z.mb<|J5 (J8 (i:=0) rfl<|Or.inl rfl)<|J5 (Qff (J8 (i:=1) rfl<|Or.inl rfl) (by decide)<|by decide) JL,QfC z.cl (J8 (i:=0) rfl<|Or.inl rfl)<|J8 (i:=1) rfl<|Or.inl rfl⟩
abbrev R6:List Str:=["block"]
abbrev Xo:List Str:=["block"]
abbrev Tg:List Str:=["item"]
abbrev Oh:List Str:=["block"]
noncomputable abbrev Bl:List Str:=["block","kind","inner","label","keep"]
abbrev Og:List Str:=["block"]
abbrev Ir:List Str:=["block","rows","item"]
abbrev RA:List Str:=["book"]
abbrev Iv:List Str:=["book","rows","block","number","row"]
abbrev R3:List Str:=["sign"]
abbrev Tf:List Str:=["text"]
abbrev Sz:List Str:=["text"]
abbrev R5:List Str:=["text"]
abbrev R4:List Str:=["text"]
abbrev R0:List Str:=["text"]
abbrev R9:List Str:=["text"]
abbrev Oi:List Str:=["row"]
abbrev Bn:List Str:=["row","parts"]
abbrev Oj:List Str:=["row"]
abbrev Bp:List Str:=["row","parts"]
abbrev Oq:List Str:=["row"]
abbrev Bt:List Str:=["row","parts"]
abbrev Om:List Str:=["row"]
abbrev Br:List Str:=["row","parts"]
abbrev R8:List Str:=["row"]
abbrev Oo:List Str:=["row"]
noncomputable abbrev Bs:List Str:=["row","parts","texts"]
abbrev Ol:List Str:=["row"]
abbrev Bq:List Str:=["row","inner"]
abbrev Xp:List Str:=["book"]
abbrev Ld:List Str:=["book"]
abbrev Bm:List Str:=["book","items"]
abbrev R7:List Str:=["book"]
abbrev Of:List Str:=["texts","row"]
abbrev Od:List Str:=["book","item"]
abbrev Oe:List Str:=["book","row"]
noncomputable abbrev Iq:List Str:=["book","row","block"]
abbrev Ui:List Str:=["rows"]
abbrev Iu:List Str:=["rows","book","number","row"]
noncomputable abbrev OM:List Str:=["_law_script","_law_turn","_law_many"]
noncomputable abbrev BX:List Str:=["_law_script","_law_turn","_law_many","_law_cells","_law_found","_law_k","_law_place","_law_number"]
noncomputable abbrev Sx:List Str:=["_law_found","_law_due"]
noncomputable abbrev Nb:List Str:=["_law_found","_law_due","_law_k"]
noncomputable abbrev Oa:List Str:=["_law_draw","_law_many"]
noncomputable abbrev Bh:List Str:=["_law_draw","_law_many","_law_some","_law_text_here","_law_k"]
abbrev OV:List Str:=["_law_draw"]
noncomputable abbrev Be:List Str:=["_law_draw","_law_ahead"]
abbrev Ob:List Str:=["_law_draw"]
noncomputable abbrev Bi:List Str:=["_law_draw","_law_title_here"]
noncomputable abbrev OQ:List Str:=["_law_k","_law_draw"]
noncomputable abbrev Il:List Str:=["_law_k","_law_draw","_law_letters","_law_base","_law_at","_law_pair"]
noncomputable abbrev OH:List Str:=["_law_kind_here","_law_label_here","_law_some"]
noncomputable abbrev Ii:List Str:=["_law_kind_here","_law_label_here","_law_some","_law_keep","_law_many","_law_low","_law_j"]
noncomputable abbrev ON:List Str:=["_law_kind_here","_law_label_here","_law_some"]
noncomputable abbrev Ik:List Str:=["_law_kind_here","_law_label_here","_law_some","_law_many","_law_notes"]
noncomputable abbrev OK:List Str:=["_law_told","_law_labels","_law_draw"]
noncomputable abbrev BW:List Str:=["_law_told","_law_labels","_law_draw","_law_items","_law_item_here"]
abbrev OJ:List Str:=["_law_script"]
noncomputable abbrev Ij:List Str:=["_law_script","_law_many","_law_draws_here","_law_book_here","_law_labels","_law_k","_law_some","_law_kind_here","_law_label_here"]
abbrev Sy:List Str:=["_law_label_here"]
abbrev Tc:List Str:=["_law_item_here"]
abbrev OX:List Str:=["_law_book_here"]
noncomputable abbrev Io:List Str:=["_law_book_here","_law_rows_here","_law_block_here","_law_item_here"]
abbrev OP:List Str:=["_law_error"]
noncomputable abbrev BZ:List Str:=["_law_error","_law_found"]
noncomputable abbrev Td:List Str:=["_law_text_here","_law_bare"]
noncomputable abbrev Te:List Str:=["_law_text_here","_law_low"]
abbrev Oc:List Str:=["_law_parts"]
noncomputable abbrev Bj:List Str:=["_law_parts","_law_title_here"]
abbrev OI:List Str:=["_law_parts"]
noncomputable abbrev BV:List Str:=["_law_parts","_law_number"]
abbrev OO:List Str:=["_law_parts"]
noncomputable abbrev BY:List Str:=["_law_parts","_law_texts"]
noncomputable abbrev OR:List Str:=["_law_book_here","_law_row_here"]
noncomputable abbrev Ba:List Str:=["_law_book_here","_law_row_here","_law_last"]
noncomputable abbrev OW:List Str:=["_law_book_here","_law_row_here"]
noncomputable abbrev Bf:List Str:=["_law_book_here","_law_row_here","_law_parts","_law_block_here","_law_item_here"]
abbrev OT:List Str:=["_law_rows_here"]
noncomputable abbrev Bc:List Str:=["_law_rows_here","_law_book_here","_law_k"]
abbrev OG:List Str:=["_law_rows_here"]
noncomputable abbrev BU:List Str:=["_law_rows_here","_law_row_here","_law_parts","_law_at"]
abbrev OS:List Str:=["_law_draw"]
noncomputable abbrev Bb:List Str:=["_law_draw","_law_some"]
noncomputable abbrev OY:List Str:=["_law_row_here","_law_draws_here"]
noncomputable abbrev Bg:List Str:=["_law_row_here","_law_draws_here","_law_some","_law_sign","_law_at"]
noncomputable abbrev OZ:List Str:=["_law_rows_here","_law_draws_here"]
noncomputable abbrev Ip:List Str:=["_law_rows_here","_law_draws_here","_law_turn","_law_at","_law_to"]
abbrev OU:List Str:=["_law_rows_here"]
noncomputable abbrev Bd:List Str:=["_law_rows_here","_law_caught","e"]
abbrev Qe2:List Str:=["_law_script"]
noncomputable abbrev Nc:List Str:=["_law_script","_law_rows_here","_law_k","_law_draws_here","_law_due","_law_handed","_law_found"]
section
variable(P:Program)(w:World)(K:Fg)(mg:Str->Option Value)(ae:Heap)
abbrev IM:=Qb P w K mg ae 1 "label_of" R6<|spD K TM
abbrev IL:=Qb P w K mg ae 1 "items_of" Xo<|spD K SM
abbrev IK:=Qb P w K mg ae 1 "item_rows" Tg<|spD K SK
abbrev IH:=Qb P w K mg ae 2 "first_row" Oh<|spD K Ml
abbrev IG:=Qb P w K mg ae 3 "block_rows" Og<|spD K SJ
abbrev Ia:=Qb P w K mg ae 4 "written" RA<|spO K Ms
abbrev II:=Qb P w K mg ae 1 "is_sign" R3<|spD K Pf
abbrev Rt:=Qb P w K mg ae 1 "is_label" Tf<|spD K UU
abbrev S0:=Qb P w K mg ae 2 "is_block_label" Sz<|spD K Vx
abbrev IJ:=Qb P w K mg ae 1 "is_word" R5<|spD K Pg
abbrev NT:=Qb P w K mg ae 1 "is_title" R4<|spD K TL
abbrev NS:=Qb P w K mg ae 1 "is_number" R0<|spD K TK
abbrev S1:=Qb P w K mg ae 1 "read_label" R9<|spD K TN
abbrev IS:=Qb P w K mg ae 3 "read_chapter" Oi<|spD K Mn
abbrev IT:=Qb P w K mg ae 3 "read_heading" Oj<|spD K Mo
abbrev IY:=Qb P w K mg ae 3 "read_table" Oq<|spD K Mq
abbrev IV:=Qb P w K mg ae 3 "read_plates" Om<|spD K Mp
abbrev IQ:=Qb P w K mg ae 4 "read_block" R8<|spD K Zr
abbrev IW:=Qb P w K mg ae 2 "read_ref" Oo<|spD K Ph
abbrev IU:=Qb P w K mg ae 3 "read_item" Ol<|spD K Ym
abbrev IZ:=Qb P w K mg ae 1 "rows_of_last" Xp<|spD K Mr
abbrev Ru:=Qb P w K mg ae 2 "lacks_row" R7<|spD K UW
abbrev IP:=Qb P w K mg ae 6 "read" Ui<|spD K Mm
abbrev NO:=Qb P w K mg ae 1 "_law_draws" OM<|spD K SH
abbrev Kn:=Qb P w K mg ae 8 "_law_alike" Sx<|spD K PY
abbrev Tz:=Qb P w K mg ae 1 "_law_text" Oa<|spD K Yl
abbrev NR:=Qb P w K mg ae 2 "_law_row" OV<|spD K Wu
abbrev IE:=Qb P w K mg ae 2 "_law_title" Ob<|spD K Pd
abbrev Kx:=Qb P w K mg ae 1 "_law_label" OQ<|spD K TF
abbrev Kp:=Qb P w K mg ae 3 "_law_block" OH<|spD K UT
abbrev Kt:=Qb P w K mg ae 3 "_law_item" ON<|spD K SI
abbrev Ks:=Qb P w K mg ae 2 "_law_closed" OK<|spD K SG
abbrev Kr:=Qb P w K mg ae 4 "_law_book" OJ<|spD K PZ
abbrev ID:=Qb P w K mg ae 1 "_law_tag" Sy<|spD K TJ
abbrev Kv:=Qb P w K mg ae 1 "_law_item_rows" Tc<|spD K Pa
abbrev IA:=Qb P w K mg ae 2 "_law_rows" OX<|spD K Pc
abbrev Kw:=Qb P w K mg ae 1 "_law_kind" OP<|spD K Mh
abbrev NP:=Qb P w K mg ae 1 "_law_label_in" Td<|spD K Vv
abbrev Ky:=Qb P w K mg ae 1 "_law_number_in" Te<|spD K WV
abbrev IF:=Qb P w K mg ae 1 "_law_title_in" Oc<|spD K Pe
abbrev Kq:=Qb P w K mg ae 2 "_law_block_in" OI<|spD K Zj
abbrev Ku:=Qb P w K mg ae 2 "_law_item_in" OO<|spD K YV
abbrev Kz:=Qb P w K mg ae 4 "_law_read" OT<|spD K Pb
abbrev Ko:=Qb P w K mg ae 1 "_law_beyond" OG<|spD K Mg
abbrev NQ:=Qb P w K mg ae 1 "_law_odd" OS<|spD K TH
abbrev IB:=Qb P w K mg ae 1 "_law_signed" OY<|spD K Mj
abbrev IC:=Qb P w K mg ae 2 "_law_spoiled" OZ<|spD K Mk
abbrev I0:=Qb P w K mg ae 7 "_law_refused" OU<|spD K Mi
end
section
variable(P:Program)(w:World)(K:Fg)(mg:Str->Option Value)(ae:Heap)
abbrev NV:=Qb P w K mg ae 5 "add_row" Oe<|spB K V9
abbrev Ie:=NU P w K mg ae 6 "read" Ui<|N8 K UX
abbrev Ib:=Qb P w K mg ae 1 "_law_more_in" OR<|spB K Wt
abbrev Ic:=Qb P w K mg ae 3 "_law_row_in" OW<|spB K Xd
end
def Qep(h:Df K mg "label_of" CK R6)(T:Txt K mg):IM P w K mg ae:=JI R6 R6 G3 0 h λnd=>λhr=>So<|QQ<|T6 (dE hr (dx 0)<|dr Q7) Q7<|Qp (dv 0)<|dr<|YG dq
def Cb:FnScope Xo Xo<|QN N1:=by constructor<;>first|rfl|decide+kernel
def Qen(h:Df K mg "items_of" N1 Xo)(T:Txt K mg):IL P w K mg ae:=JI Xo Xo G0 0 h λnd=>λhr=>So<|QQ<|T6 (dE hr (dx 0)<|dr Q7) (dy 0)<|J4 Dz ZA
def Qeo(h:Df K mg "items_of" N1 Xo)(T:Txt K mg):Qb P w K mg ae 1 "items_of" ["block"]<|spIo K:=have nd:=(Cb).nd
 QdE (k:=0) h Cb λf ah A af s H E hr=>by refine ZT<|ZN<|RC ?_ (Y1 Zy (J8 (i:=0) rfl<|by first|exact Or.inl rfl|exact Or.inr<|Or.inl rfl|exact Or.inr<|Or.inr rfl) WD λ_ _=>rfl)<|X5 JL;exact dE hr (dx 0)<|dr Q7
def Qem(h:Df K mg "item_rows" KN Tg)(T:Txt K mg):IK P w K mg ae:=JI Tg Tg Hz 0 h λnd=>λhr=>by refine Ss (O1:=[]) ?_ ?_;refine QZ ?_ ?_ ?_;exact dE hr (dx 0)<|dr Q7;refine So ?_;refine QQ ?_;refine QC QV ?_ ?_;exact dr<|J4 (Db (QC QV (dr Q7)<|dx 0) Dz) YB;refine dr ?_;refine Yj ?_;refine VT rfl rfl (Yg<|show YF (QN KN) Tg _ 1 ["note"] []=true by decide+kernel) (by decide) ?_ ?_ ?_ ?_;exact Yk<|VW<|dy 0;exact λ_ _ _ _ _ _=>Jo 0 (show List.Nodup (["note"]:List Str)by decide+kernel);exact λ_ _ _ _ _ _=>VX;exact λ_ _ _ _ _ _=>QC QV (dr Q7)<|dv 0;exact Sn;refine Ss (O1:=[]) ?_ ?_;exact QZ (dE hr (dx 0)<|dr Q7) (So<|QQ<|J4 (Db (QC QV (dr<|QC QV (dr<|QC QV (dr<|QC QV (dr<|QC QV (dr Q7)<|dx 0)<|dr Q7)<|dx 0)<|dr Q7)<|dx 0) Dz) YB) Sn;exact So<|QQ<|J4 (Db (QC QV (dr<|QC QV (dx 0)<|dr Q7)<|dx 0) Dz) YB
def Qef(h:Df K mg "first_row" CC Oh)(T:Txt K mg)(aS:IM P w K mg ae):IH P w K mg ae:=JI Bl Oh Hs 1 h λnd=>λhr=>by refine Ss (O1:=[]) ?_ ?_;exact Qi 1 nd<|dy 0;refine Ss (O1:=[]) ?_ ?_;exact Qi 2 nd<|dy 0;refine Ss (O1:=[]) ?_ ?_;exact Qi 3 nd<|T6 (dE hr (dr<|dc aS hr<|dn 0 Dz)<|dr Q7) Q7<|dc aS hr<|dn 0 Dz;refine Ss (O1:=[]) ?_ ?_;exact QZ (dE hr (dv 1)<|dr Q7) (So<|QQ<|PH (by decide)<|PFs.lit (by decide)<|PFs.val (JS 3)<|PFs.lit (by decide)<|PFs.val (JS 2) PFs.nil) Sn;refine Ss (O1:=[]) ?_ ?_;exact QZ (dE hr (dv 1)<|dr Q7) (Ss (O1:=[]) (Qi 4 nd<|dy 0)<|So<|QQ<|PH (by decide)<|PFs.lit (by decide)<|PFs.val (JS 4)<|PFs.lit (by decide)<|PFs.val (JS 3)<|PFs.lit (by decide)<|PFs.val (JS 2) PFs.nil) Sn;exact Ss (O1:=[]) (QZ (dE hr (dv 1)<|dr Q7) (So<|QQ<|PH (by decide)<|PFs.lit (by decide)<|PFs.val (JS 2)<|PFs.lit (by decide)<|PFs.val (JS 3) PFs.nil) Sn)<|So<|QQ<|T6 (dE hr (dv 1)<|dr Q7) (PH (by decide)<|PFs.lit (by decide)<|PFs.val (JS 3) PFs.nil) Q7
def Qee(h:Df K mg "block_rows" KJ Og)(T:Txt K mg)(bg:IH P w K mg ae)(bf:IK P w K mg ae)(bw:IL P w K mg ae):IG P w K mg ae:=JI Ir Og Hr 2 h λnd=>λhr=>by refine Ss (O1:=[1]) ?_ ?_;exact Vt 1 nd<|Wr (Dl (dc bg hr<|dn 0 Dz) Dz) YB;refine Ss (O1:=[1]) ?_ ?_;refine QZ ?_ ?_ ?_;exact dE hr (dx 0)<|dr Q7;refine So ?_;refine MP 1 (by decide) ?_;refine dr ?_;refine Yj ?_;refine VT rfl rfl (Yg<|show YF (QN KJ) Ir _ 1 ["row"] []=true by decide+kernel) (by decide) ?_ ?_ ?_ ?_;exact Yk<|VW<|dy 0;exact λ_ _ _ _ _ _=>Jo 0 (show List.Nodup (["row"]:List Str)by decide+kernel);exact λ_ _ _ _ _ _=>VX;exact λ_ _ _ _ _ _=>QC QV (dr Q7)<|dv 0;exact Sn;exact Ss (O1:=[1]) (VZ rfl PassesOwn.never (VW<|dc bw hr<|dn 0 Dz) (Jo 2 nd)<|So<|MP 1 (by decide)<|dr<|dc bf hr<|dn 2 Dz)<|UN 1<|So<|QQ<|JS 1
def Ce:FnScope Iv RA<|QN KP:=by constructor<;>first|rfl|decide+kernel
def QeF(h:Df K mg "written" KP RA)(T:Txt K mg)(aW:IG P w K mg ae):Ia P w K mg ae:=have nd:=(Ce).nd
 QdB (b:=GJ) (k:=3) (N:=Iv) (ps:=RA) (O':=[]) (OL:=[]) h Ce (λf ah A af s H E hr=>by refine Ss (O1:=[1]) ?_ ?_;exact Vt 1 nd<|Wr Dz ZA;refine Ss (O1:=[1]) ?_ ?_;exact VZ rfl PassesOwn.never (VW<|JS 0) (Jo 2 nd)<|So<|MP 1 (by decide)<|dr<|dc aW hr<|dn 2 Dz;refine Ss (O1:=[1]) ?_ ?_;refine Qbk (OL':=[]) (w':=false) ?_;exact VZ rfl PassesOwn.never (ML rfl T.b_enumerate<|JS 1) (MJ rfl (T7 (O1:=[1001]) (Jo 3 nd)<|T7 (O1:=[1001]) (Jo 4 nd) MK) rfl)<|So<|QZ (PW.pt<|JA (JG<|dr<|ZL Vh PySem.F.slot_str_startswith PySem.F.type_str_startswith (dv 4)<|dr Q7)<|JN<|ZF VE (dr<|ZL LQ PySem.F.slot_str_count PySem.F.type_str_count (dv 4)<|dr Q7) dq<|JU _) (So Wd.ds_none) Sn;exact So<|Qbl 1<|by decide) λds=>(K1<|K1<|K1 Qgd) _
def Qej(h:Df K mg "is_sign" CG R3)(T:Txt K mg):II P w K mg ae:=JI R3 R3 Hw 0 h λnd=>λhr=>So<|QQ<|VU (dr<|FA OF OF (dr Q7) (dv 0)<|dr Q7)<|VV<|Zo (X3 hr.units) (dr<|JF Ae rfl T.b_ord boot_ord<|dv 0) dq<|JU _
def Qeh(h:Df K mg "is_label" KL Tf)(T:Txt K mg):Rt P w K mg ae:=JI Tf Tf Hu 0 h λnd=>λhr=>by refine So ?_;refine QQ ?_;refine VU ?_ ?_;exact dr<|Zo (X3 hr.units) (dv 0) (dr Q7)<|JU _;refine VV ?_;refine JF (GY rfl) rfl T.b_all boot_all ?_;refine dr ?_;refine Yj ?_;refine VT rfl rfl (Yg<|show YF (QN KL) Tf _ 1 ["sign"] []=true by decide+kernel) (by decide) ?_ ?_ ?_ ?_;exact Yk<|PL<|JS 0;exact λ_ _ _ _ _ _=>Jo 0 (show List.Nodup (["sign"]:List Str)by decide+kernel);exact λ_ _ _ _ _ _=>VX;exact λ_ _ _ _ _ _=>FA OF OF (dr Q7) (dv 0)<|dr Q7
def Qeg(h:Df K mg "is_block_label" CD Sz)(T:Txt K mg)(aw:Rt P w K mg ae):S0 P w K mg ae:=JI Sz Sz Ht 1 h λnd=>λhr=>So<|QQ<|FC (dr<|Zo (Yr hr.units) (dv 0) (dr Q7)<|JU _)<|VV<|dc aw hr<|dn 0 Dz
def Qel(h:Df K mg "is_word" CJ R5)(T:Txt K mg):IJ P w K mg ae:=JI R5 R5 Hy 0 h λnd=>λhr=>So<|QQ<|VU (dr<|Zo (X3 hr.units) (dv 0) (dr Q7)<|JU _)<|VV<|Zo Lc (dr Q7) (dv 0)<|by with_unfolding_all rfl
def Qek(h:Df K mg "is_title" CH R4)(T:Txt K mg):NT P w K mg ae:=JI R4 R4 Hx 0 h λnd=>λhr=>So<|QQ<|VU (dr<|Zo (X3 hr.units) (dv 0) (dr Q7)<|JU _)<|VV<|Zo (Yr hr.units) (dv 0) (dr<|ZL EW PySem.F.slot_str_strip PySem.F.type_str_strip (dv 0)<|dr Q7)<|JU _
def Qei(h:Df K mg "is_number" CF R0)(T:Txt K mg):NS P w K mg ae:=JI R0 R0 Hv 0 h λnd=>λhr=>So<|QQ<|FC (dr<|Zo (Yr hr.units) (dv 0) (dr Q7)<|JU _)<|VV<|VU (dr<|Qbb Qde PySem.F.slot_str_isdigit PySem.F.type_str_isdigit<|dv 0)<|VV<|Zo (X3 hr.units) (dx 0) (dr Q7)<|JU _
def Qez(h:Df K mg "read_label" CQ R9)(T:Txt K mg):S1 P w K mg ae:=JI R9 R9 GD 0 h λnd=>λhr=>So<|QQ<|T6 (dE hr (dv 0)<|dr Q7) Q7<|JS 0
def Qew(h:Df K mg "read_chapter" CN Oi)(T:Txt K mg)(ag:S0 P w K mg ae)(aE:NT P w K mg ae)(aj:S1 P w K mg ae):IS P w K mg ae:=JI Bn Oi GA 2 h λnd=>λhr=>by refine Ss (O1:=[]) ?_ ?_;exact Qi 1 nd<|FD (n:=2) EV PySem.F.slot_str_split PySem.F.type_str_split (dv 0) (dr Q7) Zh;refine Ss (O1:=[]) ?_ ?_;exact QZ (PW.pt<|JA (dE hr (dr<|JF JM rfl T.b_len boot_len<|dv 1) dq)<|JA (JG<|dr<|dc ag hr<|Du (dy 1) Dz)<|JN<|JG<|dr<|dc aE hr<|Du (dy 1) Dz) (So<|QQ<|Jd (Dk Q7<|Du (dy 1)<|Dl (dc aj hr<|Du (dy 1) Dz) Dz) YY) Sn;exact So<|QQ Y9
def Qex(h:Df K mg "read_heading" CO Oj)(T:Txt K mg)(ag:S0 P w K mg ae)(aA:NS P w K mg ae)(aE:NT P w K mg ae)(aj:S1 P w K mg ae):IT P w K mg ae:=JI Bp Oj GB 2 h λnd=>λhr=>by refine Ss (O1:=[]) ?_ ?_;exact Qi 1 nd<|FD (n:=3) EV PySem.F.slot_str_split PySem.F.type_str_split (dv 0) (dr Q7) Zh;refine Ss (O1:=[]) ?_ ?_;refine QZ ?_ ?_ ?_;refine PW.pt ?_;exact JA (dE hr (dr<|JF JM rfl T.b_len boot_len<|dv 1) dq)<|JA (JG<|dr<|dc aA hr<|Du (dy 1) Dz)<|JA (JG<|dr<|dc ag hr<|Du (dy 1) Dz)<|JN<|JG<|dr<|dc aE hr<|Du (dy 1) Dz;exact So<|QQ<|Jd (Dk Q7<|Du (dy 1)<|Dl (WT P7 rfl T.b_int boot_int<|dx 1)<|Dl (dc aj hr<|Du (dy 1) Dz) Dz) Vg;exact Sn;exact So<|QQ Y9
def QeC(h:Df K mg "read_table" CU Oq)(T:Txt K mg)(ag:S0 P w K mg ae)(aj:S1 P w K mg ae):IY P w K mg ae:=JI Bt Oq GH 2 h λnd=>λhr=>by refine Ss (O1:=[]) ?_ ?_;exact Qi 1 nd<|ZL Ue PySem.F.slot_str_split PySem.F.type_str_split (dv 0)<|dr Q7;refine Ss (O1:=[]) ?_ ?_;refine QZ ?_ ?_ ?_;exact PW.pt<|JA (dE hr (dr<|JF JM rfl T.b_len boot_len<|dv 1) dq)<|JN<|JG<|dr<|dc ag hr<|Du (dy 1) Dz;refine So ?_;refine QQ ?_;refine Jd ?_ ?_;refine Dk ?_ ?_;exact Q7;refine XZ ?_ ?_;exact J4 Dz ZA;exact Dl (dc aj hr<|Du (dy 1) Dz) Dz;exact YY;exact Sn;exact So<|QQ Y9
def QeA(h:Df K mg "read_plates" CS Om)(T:Txt K mg)(ag:S0 P w K mg ae)(aA:NS P w K mg ae)(aj:S1 P w K mg ae):IV P w K mg ae:=JI Br Om GF 2 h λnd=>λhr=>by refine Ss (O1:=[]) ?_ ?_;exact Qi 1 nd<|ZL Ue PySem.F.slot_str_split PySem.F.type_str_split (dv 0)<|dr Q7;refine Ss (O1:=[]) ?_ ?_;refine QZ ?_ ?_ ?_;refine PW.pt ?_;exact JA (dE hr (dr<|JF JM rfl T.b_len boot_len<|dv 1) dq)<|JA (JG<|dr<|dc aA hr<|Du (dy 1) Dz)<|JA (dF hr (dx 1)<|dr Q7)<|JN<|JG<|dr<|dc ag hr<|Du (dy 1) Dz;exact So<|QQ<|Jd (Dk Q7<|Dl (WT P7 rfl T.b_int boot_int<|dx 1)<|Dl (dc aj hr<|Du (dy 1) Dz) Dz) YY;exact Sn;exact So<|QQ Y9
def Qev(h:Df K mg "read_block" CM R8)(T:Txt K mg)(aN:IS P w K mg ae)(aM:IT P w K mg ae)(aP:IV P w K mg ae)(aU:IY P w K mg ae):IQ P w K mg ae:=JI R8 R8 G9 3 h λnd=>λhr=>by refine Ss (O1:=[]) ?_ ?_;refine QZ ?_ ?_ ?_;exact dE hr (dv 0)<|dr Q7;refine So ?_;refine QQ ?_;refine Jd ?_ ?_;refine Dk ?_ ?_;exact Q7;refine XZ ?_ ?_;exact J4 Dz ZA;exact Dz;exact YX;exact Sn;refine Ss (O1:=[]) ?_ ?_;exact QZ (JG<|dr<|ZL Vh PySem.F.slot_str_startswith PySem.F.type_str_startswith (dv 0)<|dr Q7) (So<|QQ<|dc aN hr<|dn 0 Dz) Sn;refine Ss (O1:=[]) ?_ ?_;exact QZ (JG<|dr<|ZL Vh PySem.F.slot_str_startswith PySem.F.type_str_startswith (dv 0)<|dr Q7) (So<|QQ<|dc aM hr<|dn 0 Dz) Sn;exact Ss (O1:=[]) (QZ (JG<|dr<|ZL Vh PySem.F.slot_str_startswith PySem.F.type_str_startswith (dv 0)<|dr Q7) (So<|QQ<|dc aU hr<|dn 0 Dz) Sn)<|Ss (O1:=[]) (QZ (JG<|dr<|ZL Vh PySem.F.slot_str_startswith PySem.F.type_str_startswith (dv 0)<|dr Q7) (So<|QQ<|dc aP hr<|dn 0 Dz) Sn)<|So<|QQ Y9
def QeB(h:Df K mg "read_ref" CT Oo)(T:Txt K mg)(aw:Rt P w K mg ae):IW P w K mg ae:=JI Bs Oo GG 1 h λnd=>λhr=>by refine Ss (O1:=[]) ?_ ?_;exact Qi 1 nd<|ZL Ue PySem.F.slot_str_split PySem.F.type_str_split (dv 0)<|dr Q7;refine Ss (O1:=[]) ?_ ?_;refine QZ ?_ ?_ ?_;refine PW.pt ?_;exact JA (dE hr (dr<|JF JM rfl T.b_len boot_len<|dv 1) dq)<|JA (JG<|dr<|dc aw hr<|Du (dy 1) Dz)<|JN<|dE hr (dr<|ZL LQ PySem.F.slot_str_count PySem.F.type_str_count (dx 1)<|dr Q7) dq;exact Ss (O1:=[]) (Qi 2 nd<|ZL Ue PySem.F.slot_str_split PySem.F.type_str_split (dx 1)<|dr Q7)<|So<|QQ<|Jd (Dk Q7<|Du (dy 1)<|Du (dy 2)<|Du (dy 2) Dz) Vg;exact Sn;exact So<|QQ Y9
def Qey(h:Df K mg "read_item" CP Ol)(T:Txt K mg)(aw:Rt P w K mg ae)(bp:IJ P w K mg ae)(bu:IW P w K mg ae):IU P w K mg ae:=JI Bq Ol GC 2 h λnd=>λhr=>by refine Ss (O1:=[]) ?_ ?_;exact Qi 1 nd<|Qp (dr<|ZL EU PySem.F.slot_str_partition PySem.F.type_str_partition (dv 0)<|dr Q7) dq;refine Ss (O1:=[]) ?_ ?_;exact QZ (JG<|dr<|ZL Vh PySem.F.slot_str_startswith PySem.F.type_str_startswith (dv 0)<|dr Q7) (So<|QQ<|dc bu hr<|dn 0 Dz) Sn;refine Ss (O1:=[]) ?_ ?_;refine QZ ?_ ?_ ?_;exact PW.pt<|JA (JG<|dr<|ZL Vh PySem.F.slot_str_startswith PySem.F.type_str_startswith (dv 0)<|dr Q7)<|JN<|JG<|dr<|dc bp hr<|dn 1 Dz;refine So ?_;refine QQ ?_;refine Jd ?_ ?_;refine Dk ?_ ?_;exact Q7;refine Gy ?_ ?_;exact JS 1;refine XZ ?_ ?_;exact J4 Dz ZA;exact Dz;exact YY;exact Sn;exact Ss (O1:=[]) (QZ (PW.pt<|JA (JG<|dr<|ZL Vh PySem.F.slot_str_startswith PySem.F.type_str_startswith (dv 0)<|dr Q7)<|JN<|JG<|dr<|dc bp hr<|dn 1 Dz) (So<|QQ<|Jd (Dk Q7<|dn 1 Dz) YX) Sn)<|Ss (O1:=[]) (QZ (PW.pt<|JA (JG<|dr<|ZL Vh PySem.F.slot_str_startswith PySem.F.type_str_startswith (dv 0)<|dr Q7)<|JN<|JG<|dr<|dc aw hr<|dn 1 Dz) (So<|QQ<|Jd (Dk Q7<|dn 1 Dz) YX) Sn)<|So<|QQ Y9
def Cd:FnScope Xp Xp<|QN N4:=by constructor<;>first|rfl|decide+kernel
def QeD(h:Df K mg "rows_of_last" N4 Xp)(T:Txt K mg):IZ P w K mg ae:=JI Xp Xp GI 0 h λnd=>λhr=>So<|QQ<|T6 (PW.pt<|JA (ZF VE (dr<|JF JM rfl T.b_len boot_len<|dv 0) dq<|JU _)<|JN<|dE hr (dr<|Qp (dr<|Qp (dv 0)<|dr<|YG dq) dq)<|dr Q7) (Qp (dr<|Qp (dv 0)<|dr<|YG dq) dq) Y9
def QeE(h:Df K mg "rows_of_last" N4 Xp)(T:Txt K mg):Qb P w K mg ae 1 "rows_of_last" ["book"]<|spAl K Vp Rp:=have nd:=(Cd).nd
 QdI (k:=0) h Cd λf ah A af s H E hr=>by refine ZT<|ZN<|RC ?_ (Y1 Zy (Y1 Zy (J8 (i:=0) rfl<|by first|exact Or.inl rfl|exact Or.inr<|Or.inl rfl|exact Or.inr<|Or.inr rfl) Xr λ_ _=>rfl) WD λ_ _=>rfl) RD;exact PW.pt<|JA (ZF VE (dr<|JF JM rfl T.b_len boot_len<|dv 0) dq<|JU _)<|JN<|dE hr (dr<|Qp (dr<|Qp (dv 0)<|dr<|YG dq) dq)<|dr Q7
def Cc:FnScope Bm Ld<|QN KO:=by constructor<;>first|rfl|decide+kernel
def Qes(h:Df K mg "notes_of_last" KO Ld)(T:Txt K mg)(bc:Qb P w K mg ae 1 "items_of" ["block"]<|spIo K):Qb P w K mg ae 2 "notes_of_last" ["book"]<|spAl K YD Ro:=have nd:=(Cc).nd
 QdH (k:=1) h Cc λf ah A af s H E hr=>by refine Z1 (VG nd rfl (by first|exact Or.inl rfl|exact Or.inr rfl)<|RC ?_ (Ys bc (hr.mono<|by decide) rfl<|J5 (Y1 Zy (J8 (i:=0) rfl<|by first|exact Or.inl rfl|exact Or.inr<|Or.inl rfl|exact Or.inr<|Or.inr rfl) Xr λ_ _=>rfl) JL)<|X5 JL)<|ZT<|ZN<|RC ?_ (Y1 Zy (Y1 Zy (J8 (i:=1) rfl<|by first|exact Or.inl rfl|exact Or.inr<|Or.inl rfl|exact Or.inr<|Or.inr rfl) Xr λ_ _=>rfl) WD λ_ _=>rfl) RD;exact ZF VE (dr<|JF JM rfl T.b_len boot_len<|dv 0) dq<|JU _;exact PW.pt<|JA (ZF VE (dr<|JF JM rfl T.b_len boot_len<|dv 1) dq<|JU _)<|JN<|dE hr (dr<|Qp (dr<|Qp (dv 1)<|dr<|YG dq) dq)<|dr Q7
def Qeq(h:Df K mg "lacks_row" CL R7)(T:Txt K mg)(aL:IZ P w K mg ae):Ru P w K mg ae:=JI R7 R7 G5 1 h λnd=>λhr=>So<|QQ<|Zo (QeK hr.units) (dr<|dc aL hr<|dn 0 Dz) (dr<|J4 Dz ZA)<|JU _
def Ca:FnScope Of Of<|QN KI:=by constructor<;>first|rfl|decide+kernel
def Qed(h:Df K mg "add_text" KI Of)(T:Txt K mg):Qb P w K mg ae 1 "add_text" ["texts","row"] spT:=have nd:=(Ca).nd
 okT (k:=0) h Ca λf ah A af s H E hr=>by refine Z1 (Yt (DF<|D6<|J8 (i:=0) rfl<|by first|exact Or.inl rfl|exact Or.inr<|Or.inl rfl|exact Or.inr<|Or.inr rfl) (ZT<|ZN YI) Yu)<|Z1 (VF<|YJ PySem.F.plainAttrs_list PySem.F.slot_list_append PySem.F.type_list_append VC (J8 (i:=0) rfl<|by first|exact Or.inl rfl|exact Or.inr<|Or.inl rfl|exact Or.inr<|Or.inr rfl)<|J5 ?_ JL)<|ZT<|ZN YI;exact Qp (dr<|ZL EU PySem.F.slot_str_partition PySem.F.type_str_partition (dv 1)<|dr Q7) dq
def CY:FnScope Od Od<|QN KH:=by constructor<;>first|rfl|decide+kernel
def Qeb(h:Df K mg "add_item" KH Od)(T:Txt K mg):Qb P w K mg ae 1 "add_item" ["book","item"]<|spIt K:=have nd:=(CY).nd
 QdF (k:=0) h CY λf ah A af s H E hr=>by refine Z1 (Yt ?_ (ZT<|ZN YI) Yu)<|Z1 (VF<|YJ PySem.F.plainAttrs_list PySem.F.slot_list_append PySem.F.type_list_append VC (Y1 Zy (Y1 Zy (J8 (i:=0) rfl<|by first|exact Or.inl rfl|exact Or.inr<|Or.inl rfl|exact Or.inr<|Or.inr rfl) Xr λ_ _=>rfl) WD λ_ _=>rfl)<|J5 (J8 (i:=1) rfl<|by first|exact Or.inl rfl|exact Or.inr<|Or.inl rfl|exact Or.inr<|Or.inr rfl) JL)<|ZT<|ZN YI;exact PW.pt<|V6 (Qbt<|dv 1)<|V6 (dE hr (dr<|JF JM rfl T.b_len boot_len<|dv 0) dq)<|JN<|dF hr (dr<|Qp (dr<|Qp (dv 0)<|dr<|YG dq) dq)<|dr Q7
def CZ:FnScope Iq Oe<|QN N0:=by constructor<;>first|rfl|decide+kernel
def Qec(h:Df K mg "add_row" N0 Oe)(T:Txt K mg)(bz:Qb P w K mg ae 1 "add_item" ["book","item"]<|spIt K)(aT:Qb P w K mg ae 1 "add_text" ["texts","row"] spT)(bR:II P w K mg ae)(au:Ru P w K mg ae)(aH:Qb P w K mg ae 2 "notes_of_last" ["book"]<|spAl K YD Ro)(aV:IQ P w K mg ae)(a9:IU P w K mg ae)(aG:Qb P w K mg ae 1 "rows_of_last" ["book"]<|spAl K Vp Rp):NV P w K mg ae:=have nd:=(CZ).nd
 OC (b:=Hq) (k:=4) h CZ λf ah A af s H E hr=>by refine RR ?_ (Lu<|ZN YI)<|RR ?_ (DZ (QbT _)<|ZN<|Ys aT (hr.mono<|by decide) rfl<|J5 (Ys aG (hr.mono<|by decide) rfl<|J5 (J8 (i:=0) rfl<|by first|exact Or.inl rfl|exact Or.inr<|Or.inl rfl|exact Or.inr<|Or.inr rfl) JL)<|J5 (J8 (i:=1) rfl<|by first|exact Or.inl rfl|exact Or.inr<|Or.inl rfl|exact Or.inr<|Or.inr rfl) JL)<|RR ?_ (Lu<|ZN YI)<|RR ?_ (DZ (QbS _)<|ZN<|Ys aT (hr.mono<|by decide) rfl<|J5 (Ys aH (hr.mono<|by decide) rfl<|J5 (J8 (i:=0) rfl<|by first|exact Or.inl rfl|exact Or.inr<|Or.inl rfl|exact Or.inr<|Or.inr rfl) JL)<|J5 (J8 (i:=1) rfl<|by first|exact Or.inl rfl|exact Or.inr<|Or.inl rfl|exact Or.inr<|Or.inr rfl) JL)<|QfV<|Z1 (VG nd rfl (by first|exact Or.inl rfl|exact Or.inr rfl)<|Ys aV (hr.mono<|by decide) rfl<|J5 (J8 (i:=1) rfl<|by first|exact Or.inl rfl|exact Or.inr<|Or.inl rfl|exact Or.inr<|Or.inr rfl) JL)<|Z1 (Yt (DF<|D6<|J8 (i:=2) rfl<|by first|exact Or.inl rfl|exact Or.inr<|Or.inl rfl|exact Or.inr<|Or.inr rfl) (ZT<|ZN<|Ys bz (hr.mono<|by decide) rfl<|J5 (J8 (i:=0) rfl<|by first|exact Or.inl rfl|exact Or.inr<|Or.inl rfl|exact Or.inr<|Or.inr rfl)<|J5 (Ys a9 (hr.mono<|by decide) rfl<|J5 (J8 (i:=1) rfl<|by first|exact Or.inl rfl|exact Or.inr<|Or.inl rfl|exact Or.inr<|Or.inr rfl) JL) JL) Yu)<|Z1 (VF<|YJ PySem.F.plainAttrs_list PySem.F.slot_list_append PySem.F.type_list_append VC (J8 (i:=0) rfl<|by first|exact Or.inl rfl|exact Or.inr<|Or.inl rfl|exact Or.inr<|Or.inr rfl)<|J5 (J8 (i:=2) rfl<|by first|exact Or.inl rfl|exact Or.inr<|Or.inl rfl|exact Or.inr<|Or.inr rfl) JL)<|ZT<|ZN YI;refine SE ?_;refine JG ?_;refine dr ?_;refine JF (GY rfl) rfl T.b_all boot_all ?_;refine dr ?_;refine Yj ?_;refine VT rfl rfl (Yg<|show YF (QN N0) Iq _ 1 ["sign"] []=true by decide+kernel) (by decide) ?_ ?_ ?_ ?_;exact Yk<|PL<|JS 1;exact λ_ _ _ _ _ _=>Jo 0 (show List.Nodup (["sign"]:List Str)by decide+kernel);exact λ_ _ _ _ _ _=>VX;exact λ_ _ _ _ _ _=>dc bR hr<|dn 0 Dz;exact JG<|dr<|ZL Vh PySem.F.slot_str_startswith PySem.F.type_str_startswith (dv 1)<|dr Q7;exact JG<|dr<|dc au hr<|dn 0 Dz;exact JG<|dr<|ZL Vh PySem.F.slot_str_startswith PySem.F.type_str_startswith (dv 1)<|dr Q7
def N5:FnScope Iu Ui<|QN N3:=by constructor<;>first|rfl|decide+kernel
def Qet(h:Df K mg "read" N3 Ui)(T:Txt K mg)(cf:Rv P w K mg ae 1 "NoRow" 6)(aJ:NV P w K mg ae)(au:Ru P w K mg ae):Ie P w K mg ae:=have nd:=(N5).nd
 QdC (b:=G7) (k:=5) (N:=Iu) (ps:=Ui) (O':=[]) (OL:=[]) h N5 λf ah A af s H E hr=>by refine MU (i:=1) (O':=[]) (OL:=[]) (VG nd rfl (by first|exact Or.inl rfl|exact Or.inr rfl)<|X5 JL) (MQ (BRes2.gr _) rfl PassesOwn.leaving ?_ ?_<|by refine MT<|MO (O':=[]) (OL:=[]) (Ov<|RF<|Ys aJ (hr.mono<|by decide) rfl<|J5 (J8 (i:=1) rfl<|by first|exact Or.inl rfl|exact Or.inr<|Or.inl rfl|exact Or.inr<|Or.inr rfl)<|J5 ?_ JL) ?_;exact JS 3;exact So<|FL cf (hr.mono<|by decide) rfl<|JS 2) ?_ ?_<|ZN<|J8 (i:=1) rfl (by first|exact Or.inl rfl|exact Or.inr<|Or.inl rfl|exact Or.inr<|Or.inr rfl);exact ML rfl T.b_enumerate<|JS 0;exact MJ rfl (T7 (O1:=[1001]) (Jo 2 nd)<|T7 (O1:=[1001]) (Jo 3 nd) MK) rfl;exact JG<|dr<|dc au hr<|dn 1 Dz;exact So<|FL cf (hr.mono<|by decide) rfl<|JF JM rfl T.b_len boot_len<|dv 0
def Qeu(h:Df K mg "read" N3 Ui)(T:Txt K mg)(aJ:NV P w K mg ae)(au:Ru P w K mg ae):IP P w K mg ae:=have nd:=(N5).nd
 LY (b:=G8) (k:=5) (N:=["rows","book","number","row"]) (ps:=["rows"]) (O':=[]) (OL:=[]) h N5 λf ah A af s H E hr=>by refine MU (i:=1) (O':=[]) (OL:=[]) (VG nd rfl (by first|exact Or.inl rfl|exact Or.inr rfl)<|X5 JL) (MQ (BRes2.gr _) rfl PassesOwn.never ?_ ?_<|by refine MT<|MO (O':=[]) (OL:=[]) (Ov<|RF<|Ys aJ (hr.mono<|by decide) rfl<|J5 (J8 (i:=1) rfl<|by first|exact Or.inl rfl|exact Or.inr<|Or.inl rfl|exact Or.inr<|Or.inr rfl)<|J5 ?_ JL) ?_;exact JS 3;exact So Wd.ds_none) ?_ ?_<|ZN<|J8 (i:=1) rfl (by first|exact Or.inl rfl|exact Or.inr<|Or.inl rfl|exact Or.inr<|Or.inr rfl);exact ML rfl T.b_enumerate<|JS 0;exact MJ rfl (T7 (O1:=[1001]) (Jo 2 nd)<|T7 (O1:=[1001]) (Jo 3 nd) MK) rfl;exact JG<|dr<|dc au hr<|dn 1 Dz;exact So Wd.ds_none
def QdP(h:Df K mg "_law_draws" Dw OM)(T:Txt K mg):NO P w K mg ae:=JI BX OM HR 0 h λnd=>λhr=>by refine Ss (O1:=[]) ?_ ?_;exact Qi 3 nd<|QC QV (dr<|Jy (dv 0) Z4<|Jv dq)<|dr<|J4 (dn 1 Dz) YB;refine Ss (O1:=[4]) ?_ ?_;exact Vt 4 nd<|Wr Dz ZA;refine Ss (O1:=[4]) ?_ ?_;refine VZ rfl PassesOwn.never ?_ ?_ ?_;exact Vs rfl T.b_range<|dv 2;exact Jo 5 nd;refine Ss (O1:=[4]) ?_ ?_;exact Qi 6 nd<|QC QV (dr<|QC Y0 (dr<|QC Y0 (dr<|QC QV (dv 5)<|dv 1)<|dr<|QC QV (dv 5)<|dv 1) dq) dq;exact Ss (O1:=[4]) (Qi 7 nd<|QC J6 (dr<|QC Y0 (dr<|QC QV (dr<|QC J6 (dr<|Qp (dv 3)<|dr<|QC J6 (dv 5)<|dr<|JF JM rfl T.b_len boot_len<|dv 3) dq)<|dv 6) dq) dq)<|So<|YT 4 (by decide)<|QC J6 (dr<|QC QV (dr<|QC Y0 (dv 7)<|dv 7)<|dr<|QC Y0 dq<|dv 5) dq;exact UN 4<|So<|QQ<|JS 4
def KQ:FnScope Nb Sx<|QN K2:=by constructor<;>first|rfl|decide+kernel
def QdJ(h:Df K mg "_law_alike" K2 Sx)(T:Txt K mg):Kn P w K mg ae:=have nd:=(KQ).nd
 Em (N:=Nb) (b:=P4) (QdG h KQ) (λg j c=>LY (b:=P4 g) (k:=j) (N:=Nb) (ps:=Sx) (O':=[]) (OL:=[]) h KQ λf ah A af s H E hr=>by refine Ss (O1:=[]) ?_ ?_;exact QZ (JG<|dr<|WS (E9 _) rfl T.b_isinstance boot_isinstance rfl T.b_str boot_str<|dv 1) (So<|QQ<|VU (dr<|WS (E9 _) rfl T.b_isinstance boot_isinstance rfl T.b_str boot_str<|dv 0)<|VV<|Zo (Yr hr.units) (dv 0) (dv 1)<|JU _) Sn;refine Ss (O1:=[]) ?_ ?_;exact QZ (JG<|dr<|WS (LG _) rfl T.b_isinstance boot_isinstance rfl T.b_int boot_int<|dv 1) (So<|QQ<|VU (dr<|WS (LG _) rfl T.b_isinstance boot_isinstance rfl T.b_int boot_int<|dv 0)<|VU (dr<|Qa9<|dr<|WS (E7 _) rfl T.b_isinstance boot_isinstance rfl T.b_bool boot_bool<|dv 0)<|VV<|Zo (Yr hr.units) (dv 0) (dv 1)<|JU _) Sn;refine Ss (O1:=[]) ?_ ?_;exact QZ (JG<|dr<|WS (E8 _) rfl T.b_isinstance boot_isinstance rfl T.b_list boot_list<|dv 1) (So<|QZ (SE<|JG<|dr<|WS (E8 _) rfl T.b_isinstance boot_isinstance rfl T.b_list boot_list<|dv 0) (So<|QQ Yi) Sn)<|So<|QZ (SE<|JG<|dr<|WS (QcL _) rfl T.b_isinstance boot_isinstance rfl T.b_tuple boot_tuple<|dv 0) (So<|QQ Yi) Sn;refine Ss (O1:=[]) ?_ ?_;exact QZ (dF hr (dr<|JF JM rfl T.b_len boot_len<|dv 0)<|dr<|JF JM rfl T.b_len boot_len<|dv 1) (So<|QQ Yi) Sn;exact Ss (O1:=[]) (VZ rfl PassesOwn.never (Vs rfl T.b_range<|dr<|JF JM rfl T.b_len boot_len<|dv 1) (Jo 2 nd)<|So<|QZ (SE<|JG<|dr<|F9 c (hr.mono<|Qm _) rfl<|Du (Qp (dv 0)<|dv 2)<|Du (Qp (dv 1)<|dv 2) Dz) (So<|QQ Yi) Sn)<|So<|QQ Yi) 7
def Qd7(h:Df K mg "_law_text" C8 Oa)(T:Txt K mg):Tz P w K mg ae:=JI Bh Oa Nx 0 h λnd=>λhr=>by refine Ss (O1:=[]) ?_ ?_;exact Qi 2 nd Q7;refine Ss (O1:=[]) ?_ ?_;exact Qi 3 nd Q7;refine Ss (O1:=[]) ?_ ?_;refine VZ rfl PassesOwn.never ?_ ?_ ?_;exact Vs rfl T.b_range<|dv 1;exact Jo 4 nd;exact Ss (O1:=[]) (Qi 0 nd<|QC J6 (dr<|QC QV (dr<|QC QV (dr<|QC Y0 (dv 0) dq)<|dr<|QC Y0 dq<|dv 4) dq) dq)<|So<|Qi 3 nd<|QC QV (dv 3)<|dr<|Qp (dv 2)<|dr<|QC J6 (dv 0)<|dr<|JF JM rfl T.b_len boot_len<|dv 2;exact So<|QQ<|JS 3
def Qd1(h:Df K mg "_law_row" C5 OV)(T:Txt K mg)(av:Tz P w K mg ae):NR P w K mg ae:=JI Be OV Hh 1 h λnd=>λhr=>by refine Ss (O1:=[]) ?_ ?_;exact Qi 1 nd<|Qp (dr<|J4 (Dk Q7<|Dk Q7<|Dk Q7<|Dk Q7 Dz) Vg)<|dr<|QC J6 (dv 0) dq;refine So ?_;refine QQ ?_;exact QC QV (dr<|QC QV (dv 1)<|dr<|dc av hr<|dn 0<|Db (QC J6 (dr<|QC Zk (dv 0) dq) dq) Dz)<|dr<|Qp (dr<|J4 (Dk Q7<|Dk Q7<|Dk Q7 Dz) YY)<|dr<|QC J6 (dr<|QC Zk (dv 0) dq) dq
def Qd8(h:Df K mg "_law_title" C9 Ob)(T:Txt K mg)(av:Tz P w K mg ae):IE P w K mg ae:=JI Bi Ob Hn 1 h λnd=>λhr=>by refine Ss (O1:=[]) ?_ ?_;exact Qi 1 nd<|dc av hr<|dn 0<|Db (QC QV dq<|dr<|QC J6 (dr<|QC Zk (dv 0) dq) dq) Dz;refine Ss (O1:=[]) ?_ ?_;exact QZ (dE hr (dr<|QC J6 (dv 0) dq) dq) (So<|Qi 1 nd<|QC QV (dr<|QC QV (dv 1)<|dr Q7)<|dr<|dc av hr<|Db (QC Zk (dv 0) dq)<|Db (QC QV dq<|dr<|QC J6 (dr<|QC Zk (dv 0) dq) dq) Dz) Sn;exact So<|QQ<|JS 1
def QdU(h:Df K mg "_law_label" K7 OQ)(T:Txt K mg):Kx P w K mg ae:=JI Il OQ HX 0 h λnd=>λhr=>by refine Ss (O1:=[]) ?_ ?_;exact Qi 2 nd Q7;refine Ss (O1:=[]) ?_ ?_;refine Qi 3 nd ?_;refine ME (by decide) ?_;refine dr ?_;refine Yj ?_;refine VT rfl rfl (Yg<|show YF (QN K7) Il _ 1 ["_law_j","_law_letters","_law_draw"] [2,1]=true by decide+kernel) (by decide) ?_ ?_ ?_ ?_;exact Yk<|Vs rfl T.b_range<|dr<|QC J6 (dv 1) dq;exact λ_ _ _ _ _ _=>Jo 0 (show List.Nodup (["_law_j","_law_letters","_law_draw"]:List Str)by decide+kernel);exact λ_ _ _ _ _ _=>VX;exact λ_ _ _ _ _ _=>Qp (dv 1)<|dr<|QC J6 (dr<|QC QV (dr<|QC Zk (dv 2) dq)<|dr<|QC Y0 (dv 0)<|dv 0) dq;refine Ss (O1:=[]) ?_ ?_;exact Qi 4 nd<|QC J6 (dr<|QC Zk (dv 1) dq)<|dr<|QC QV (dr<|JF JM rfl T.b_len boot_len<|dv 3) dq;exact Ss (O1:=[]) (Qi 5 nd<|QC QV (dr<|Qp (dv 2)<|dr<|QC J6 (dv 0) dq)<|dr<|Qp (dv 2)<|dr<|QC J6 (dr<|QC QV (dr<|QC Zk (dv 0) dq)<|dv 1) dq)<|So<|QQ<|QC QV (dr<|QC QV (dr<|Jy (dv 3) Z4<|Jv<|dv 4)<|dv 5)<|dr<|Jy (dv 3) (Jv<|dv 4) Z4
def QdL(h:Df K mg "_law_block" K3 OH)(T:Txt K mg)(bN:NR P w K mg ae)(bJ:IE P w K mg ae):Kp P w K mg ae:=JI Ii OH HM 2 h λnd=>λhr=>by refine Ss (O1:=[]) ?_ ?_;exact QZ (dE hr (dv 0) dq) (So<|QQ<|Jd (Dk Q7<|Dl (dc bJ hr<|Du (dy 2) Dz)<|dn 1 Dz) YY) Sn;refine Ss (O1:=[]) ?_ ?_;refine QZ ?_ ?_ ?_;exact dE hr (dv 0) dq;refine Ss (O1:=[]) ?_ ?_;refine Qi 3 nd ?_;exact Qp (dr<|J4 (Db (QC J6 (dx 2) dq)<|Db (QC J6 (dx 2) dq)<|Du (dy 2)<|Db (QC QV (dr<|QC Ey dq dq)<|dx 2) Dz) Vg)<|dr<|QC J6 (dr<|QC Zk (dx 2) dq) dq;exact So<|QQ<|Jd (Dk Q7<|Dl (dc bJ hr<|Du (dy 2) Dz)<|dn 3<|dn 1 Dz) Vg;exact Sn;refine Ss (O1:=[]) ?_ ?_;refine QZ ?_ ?_ ?_;exact dE hr (dv 0) dq;refine Ss (O1:=[]) ?_ ?_;exact Qi 4 nd<|QC QV dq<|dr<|QC J6 (dx 2) dq;refine Ss (O1:=[]) ?_ ?_;exact QZ (dE hr (dr<|QC J6 (dr<|QC Zk (dx 2) dq) dq) dq) (So<|Qi 4 nd<|QC QV dq<|dr<|QC J6 (dr<|QC Zk (dx 2) dq) dq) Sn;refine So ?_;refine QQ ?_;refine Jd ?_ ?_;refine Dk ?_ ?_;exact Q7;refine Qa5 ?_ ?_;refine Yj ?_;refine VT rfl rfl (Yg<|show YF (QN K3) Ii _ 1 ["_law_j","_law_some"] [2]=true by decide+kernel) (by decide) ?_ ?_ ?_ ?_;exact Yk<|Vs rfl T.b_range<|dv 4;exact λ_ _ _ _ _ _=>Jo 0 (show List.Nodup (["_law_j","_law_some"]:List Str)by decide+kernel);exact λ_ _ _ _ _ _=>VX;exact λ_ _ _ _ _ _=>dc bN hr<|Db (QC QV (dx 1)<|dr<|QC Y0 (dr<|QC Y0 dq<|dv 0)<|dv 0) Dz;exact dn 1 Dz;exact YY;exact Sn;refine Ss (O1:=[]) ?_ ?_;exact Qi 5 nd Zh;refine Ss (O1:=[]) ?_ ?_;exact VZ rfl PassesOwn.never (Vs rfl T.b_range<|dr<|QC J6 (dr<|QC Zk (dx 2) dq)<|dr<|Qp (dr<|J4 (Dk Zh<|Dk Zh<|Dk Zh<|Dk Zh Dz) Vg)<|dr<|QC J6 (dx 2) dq) (Jo 6 nd)<|So<|Qi 5 nd<|QC Y0 (dv 5) dq;exact Ss (O1:=[]) (QZ (dE hr (dr<|QC J6 (dr<|QC Zk (dx 2) dq) dq) dq) (So<|Qi 5 nd<|QC QV (dr<|QC Ey dq dq)<|dx 2) Sn)<|So<|QQ<|Jd (Dk Q7<|Dl (Gz (Aa rfl) rfl T.b_max boot_max dq<|dr<|QC Qe0 (dv 5)<|dr<|QC J6 (dx 2) dq)<|dn 1 Dz) YY
def QdQ(h:Df K mg "_law_item" K5 ON)(T:Txt K mg)(bN:NR P w K mg ae)(av:Tz P w K mg ae):Kt P w K mg ae:=JI Ik ON HS 2 h λnd=>λhr=>by refine Ss (O1:=[]) ?_ ?_;exact QZ (dE hr (dv 0) dq) (So<|QQ<|Jd (Dk Q7<|dn 1 Dz) YX) Sn;refine Ss (O1:=[]) ?_ ?_;exact QZ (dE hr (dv 0) dq) (So<|QQ<|Jd (Dk Q7<|Dl (dc av hr<|Db (QC QV dq<|dr<|QC J6 (dx 2) dq)<|Db (QC QV dq<|dr<|QC J6 (dx 2) dq) Dz) Dz) YX) Sn;refine Ss (O1:=[]) ?_ ?_;refine QZ ?_ ?_ ?_;exact ZF VE (dv 0) dq<|JU _;refine So ?_;refine QQ ?_;refine Jd ?_ ?_;refine Dk ?_ ?_;exact Q7;refine Du ?_ ?_;exact dy 2;exact Dl (dc av hr<|Du (dy 2)<|Db (QC J6 (dr<|QC Zk (dx 2) dq) dq) Dz)<|Dl (dc av hr<|Du (dy 2)<|Db (QC J6 (dr<|QC Zk (dx 2) dq) dq) Dz) Dz;exact Vg;exact Sn;refine Ss (O1:=[]) ?_ ?_;exact Qi 3 nd<|QC QV dq<|dr<|QC J6 (dx 2) dq;refine Ss (O1:=[]) ?_ ?_;exact QZ (dE hr (dr<|QC J6 (dr<|QC Zk (dx 2) dq) dq) dq) (So<|Qi 3 nd<|QC QV dq<|dr<|QC J6 (dr<|QC Zk (dx 2) dq) dq) Sn;refine Ss (O1:=[4]) ?_ ?_;refine Qbn 4 nd rfl rfl (Yg<|show YF (QN K5) Ik _ 1 ["_law_j","_law_some"] [2]=true by decide+kernel) (by decide) ?_ ?_ ?_ ?_;exact Yk<|Vs rfl T.b_range<|dr<|Qp (dr<|J4 (Dk Zh<|Dk Zh<|Dk Zh<|Dk Zh<|Dk Zh Dz) lz5)<|dr<|QC J6 (dx 2) dq;exact λ_ _ _ _ _ _=>Jo 0 (show List.Nodup (["_law_j","_law_some"]:List Str)by decide+kernel);exact λ_ _ _ _ _ _=>VX;exact λ_ _ _ _ _ _=>dc bN hr<|Db (QC QV (dx 1)<|dr<|QC Y0 dq<|dv 0) Dz;exact UN 4<|So<|QQ<|Jd (Dk Q7<|Dl (dc av hr<|Du (dy 2)<|dn 3 Dz)<|dn 4 Dz) YY
def QdO(h:Df K mg "_law_closed" Dv OK)(T:Txt K mg)(av:Tz P w K mg ae):Ks P w K mg ae:=JI BW OK HQ 1 h λnd=>λhr=>by refine Ss (O1:=[]) ?_ ?_;exact QZ (dF hr (dx 0)<|dr Q7) (So<|QQ<|JS 0) Sn;refine Ss (O1:=[3]) ?_ ?_;exact Vt 3 nd<|Wr Dz ZA;refine Ss (O1:=[3]) ?_ ?_;refine VZ rfl PassesOwn.never ?_ ?_ ?_;exact VW<|dy 0;exact Jo 4 nd;refine So ?_;refine QZ ?_ ?_ ?_;exact PW.pt<|JA (dE hr (dx 4)<|dr Q7)<|JN<|ZF VE (dr<|JF JM rfl T.b_len boot_len<|dv 1) dq<|JU _;exact So<|YT 3 (by decide)<|Jd (Dk Q7<|Du (Qp (dv 1)<|dr<|QC J6 (dx 4)<|dr<|JF JM rfl T.b_len boot_len<|dv 1)<|Du (dy 4)<|Du (dy 4) Dz) Vg;refine So ?_;refine QZ ?_ ?_ ?_;exact dE hr (dx 4)<|dr Q7;refine So ?_;refine YT 3 (by decide) ?_;refine Jd ?_ ?_;refine Dk ?_ ?_;exact Q7;refine Db ?_ ?_;exact QC QV (dr Q7)<|dx 4;refine XZ ?_ ?_;exact J4 Dz ZA;exact Dz;exact YY;exact So<|YT 3 (by decide)<|JS 4;refine Ss (O1:=[3]) ?_ ?_;refine QZ ?_ ?_ ?_;exact PW.pt<|JA (ZF VE (dr<|JF JM rfl T.b_len boot_len<|VY 3) dq<|JU _)<|JN<|ZF La (dr<|Qp (dr<|Qp (VY 3)<|dr<|YG dq) dq) (dr<|Jd (Dk Q7<|Dk Q7 Dz) YX) (by with_unfolding_all rfl);refine So ?_;refine YT 3 (by decide) ?_;refine Jd ?_ ?_;refine Dk ?_ ?_;exact Q7;refine Dl ?_ ?_;exact dc av hr<|dn 2<|Db (QC QV dq<|dr<|QC J6 (dv 2) dq) Dz;refine XZ ?_ ?_;exact J4 Dz ZA;exact Dz;exact YY;exact Sn;exact UN 3<|So<|QQ<|Jd (Dk Q7<|dn 3 Dz) YX
def QdN(h:Df K mg "_law_book" K4 OJ)(T:Txt K mg)(cx:Kp P w K mg ae)(bW:Ks P w K mg ae)(aK:NO P w K mg ae)(cK:Kt P w K mg ae)(cw:Kx P w K mg ae):Kr P w K mg ae:=JI Ij OJ HP 3 h λnd=>λhr=>by refine Ss (O1:=[]) ?_ ?_;exact Qi 1 nd<|QC J6 (dr<|Qp (dr<|dc aK hr<|dn 0<|Dk Zh<|Dk Zh Dz) dq) dq;refine Ss (O1:=[]) ?_ ?_;exact Qi 2 nd<|dc aK hr<|dn 0<|Dk Zh<|Db (QC QV (dr<|QC Y0 dq<|dv 1) dq) Dz;refine Ss (O1:=[3]) ?_ ?_;exact Vt 3 nd<|Wr Dz ZA;refine Ss (O1:=[3,4]) ?_ ?_;exact Vt 4 nd<|Wr Dz ZA;refine Qbs (i:=3) (j:=4) ?_ ?_;refine Qbj (LRes.gr _ 3 4) rfl PassesOwn.never ?_ ?_ ?_;exact Vs rfl T.b_range<|dv 1;exact Jo 5 nd;refine T8 ?_ ?_;refine MR (OL:=[]) (w:=false) (WE _ _) (LRes.gr _ _ _) ?_;exact Qi 6 nd<|Jy (dv 2) (Jv<|dr<|QC Y0 dq<|dv 5)<|Jv<|dr<|QC QV (dr<|QC Y0 dq<|dv 5) dq;refine T8 ?_ ?_;refine MR (OL:=[]) (w:=false) (WE _ _) (LRes.gr _ _ _) ?_;exact Qi 7 nd<|QC J6 (dx 6) dq;refine T8 ?_ ?_;refine MR (OL:=[]) (w:=false) (WE _ _) (LRes.gr _ _ _) ?_;exact Qi 8 nd Q7;refine T8 ?_ ?_;refine PM Rm (LRes.gr _ _ _) ?_ ?_ ?_;exact PW.pt<|V6 (dE hr (dv 7) dq)<|JN<|PW.pt<|JA (ZF Lb (dv 7) dq<|JU _)<|JN<|dE hr (dr<|QC J6 (dx 6) dq) dq;refine T8 ?_ ?_;refine Qbp Rm (LRes.gr _ _ _) (by decide) (by decide)<|VG nd rfl (by first|exact Or.inl rfl|exact Or.inr rfl) ?_;exact dc cw hr<|Dl (JF JM rfl T.b_len boot_len<|dv 4)<|Du (Qp (dv 2)<|dr<|QC Y0 dq<|dv 1) Dz;refine T9 ?_;refine Qbh<|VF<|YJ PySem.F.plainAttrs_list PySem.F.slot_list_append PySem.F.type_list_append VC (J8 (i:=4) rfl<|by first|exact Or.inl rfl|exact Or.inr<|Or.inl rfl|exact Or.inr<|Or.inr rfl)<|J5 ?_ JL;exact JS 8;exact MS;refine T8 ?_ ?_;refine PM Rm (LRes.gr _ _ _) ?_ ?_ ?_;exact ZF Lb (dv 7) dq<|JU _;refine T9 ?_;refine Qbf<|VF<|YJ PySem.F.plainAttrs_list PySem.F.slot_list_append PySem.F.type_list_append VC (J8 (i:=3) rfl<|by first|exact Or.inl rfl|exact Or.inr<|Or.inl rfl|exact Or.inr<|Or.inr rfl)<|J5 ?_ JL;exact dc cx hr<|dn 7<|dn 8<|dn 6 Dz;refine T9 ?_;refine PM Rm (LRes.gr _ _ _) ?_ ?_ ?_;exact PW.pt<|V6 (dE hr (dv 7) dq)<|V6 (dE hr (dr<|JF JM rfl T.b_len boot_len<|dv 3) dq)<|JN<|dF hr (dr<|Qp (dr<|Qp (dv 3)<|dr<|YG dq) dq)<|dr Q7;refine T9 ?_;exact Qbi<|VF<|YJ PySem.F.plainAttrs_list PySem.F.slot_list_append PySem.F.type_list_append VC (J8 (i:=3) rfl<|by first|exact Or.inl rfl|exact Or.inr<|Or.inl rfl|exact Or.inr<|Or.inr rfl)<|J5 (Lh<|J5 Ou<|J5 (X5 JL) JL) JL;exact MS;refine T9 ?_;refine PM Rm (LRes.gr _ _ _) ?_ ?_ ?_;exact ZF VE (dv 7) dq<|JU _;refine T9 ?_;refine Qbg<|VF<|YJ PySem.F.plainAttrs_list PySem.F.slot_list_append PySem.F.type_list_append VC (Y1 Zy (Y1 Zy (J8 (i:=3) rfl<|by first|exact Or.inl rfl|exact Or.inr<|Or.inl rfl|exact Or.inr<|Or.inr rfl) Xr λ_ _=>rfl) WD λ_ _=>rfl)<|J5 ?_ JL;exact dc cK hr<|dn 7<|dn 8<|dn 6 Dz;exact MS;refine So ?_;refine QQ ?_;refine Yj ?_;refine VT rfl rfl (Yg<|show YF (QN K4) Ij _ 1 ["_law_told","_law_labels","_law_draws_here","_law_many"] [4,2,1]=true by decide+kernel) (by decide) ?_ ?_ ?_ ?_;exact Yk<|VW<|JS 3;exact λ_ _ _ _ _ _=>Jo 0 (show List.Nodup (["_law_told","_law_labels","_law_draws_here","_law_many"]:List Str)by decide+kernel);exact λ_ _ _ _ _ _=>VX;exact λ_ _ _ _ _ _=>dc bW hr<|dn 0<|dn 1<|Du (Qp (dv 2)<|dr<|QC Y0 dq<|dv 3) Dz
def Qd6(h:Df K mg "_law_tag" C7 Sy)(T:Txt K mg):ID P w K mg ae:=JI Sy Sy Hm 0 h λnd=>λhr=>Ss (O1:=[]) (QZ (dE hr (dv 0)<|dr Q7) (So<|QQ Q7) Sn)<|So<|QQ<|JS 0
def QdS(h:Df K mg "_law_item_rows" K6 Tc)(T:Txt K mg):Kv P w K mg ae:=JI Tc Tc HV 0 h λnd=>λhr=>by refine Ss (O1:=[]) ?_ ?_;refine QZ ?_ ?_ ?_;exact dE hr (dx 0)<|dr Q7;refine So ?_;refine QQ ?_;refine QC QV ?_ ?_;exact dr<|J4 (Db (QC QV (dr Q7)<|dx 0) Dz) YB;refine dr ?_;refine Yj ?_;refine VT rfl rfl (Yg<|show YF (QN K6) Tc _ 1 ["_law_row_here"] []=true by decide+kernel) (by decide) ?_ ?_ ?_ ?_;exact Yk<|VW<|dy 0;exact λ_ _ _ _ _ _=>Jo 0 (show List.Nodup (["_law_row_here"]:List Str)by decide+kernel);exact λ_ _ _ _ _ _=>VX;exact λ_ _ _ _ _ _=>QC QV (dr Q7)<|dv 0;exact Sn;refine Ss (O1:=[]) ?_ ?_;exact QZ (dE hr (dx 0)<|dr Q7) (So<|QQ<|J4 (Db (QC QV (dr<|QC QV (dr<|QC QV (dr<|QC QV (dr<|QC QV (dr Q7)<|dx 0)<|dr Q7)<|dx 0)<|dr Q7)<|dx 0) Dz) YB) Sn;exact So<|QQ<|J4 (Db (QC QV (dr<|QC QV (dx 0)<|dr Q7)<|dx 0) Dz) YB
def Qd3(h:Df K mg "_law_rows" KD OX)(T:Txt K mg)(aX:Kv P w K mg ae)(bM:ID P w K mg ae):IA P w K mg ae:=JI Io OX Hj 1 h λnd=>λhr=>by refine Ss (O1:=[1]) ?_ ?_;exact Vt 1 nd<|Wr Dz ZA;refine Ss (O1:=[1]) ?_ ?_;refine VZ rfl PassesOwn.never ?_ ?_ ?_;exact VW<|JS 0;exact Jo 2 nd;refine Ss (O1:=[1]) ?_ ?_;exact QZ (dE hr (dx 2)<|dr Q7) (So<|YT 1 (by decide)<|QC QV (dr<|QC QV (dr<|QC QV (dr Q7)<|dr<|dc bM hr<|Du (dy 2) Dz)<|dr Q7)<|dx 2) Sn;refine Ss (O1:=[1]) ?_ ?_;exact QZ (dE hr (dx 2)<|dr Q7) (So<|YT 1 (by decide)<|ME (by decide)<|dr<|J4 (Dk Q7<|Dl (WT Ga rfl T.b_str boot_str<|dx 2)<|Dl (dc bM hr<|Du (dy 2) Dz)<|Du (dy 2) Dz) Vg) Sn;refine Ss (O1:=[1]) ?_ ?_;exact QZ (dE hr (dx 2)<|dr Q7) (So<|YT 1 (by decide)<|QC QV (dr<|QC QV (dr<|QC QV (dr Q7)<|dr<|WT Ga rfl T.b_str boot_str<|dx 2)<|dr Q7)<|dr<|dc bM hr<|Du (dy 2) Dz) Sn;refine Ss (O1:=[1]) ?_ ?_;refine QZ ?_ ?_ ?_;exact dE hr (dx 2)<|dr Q7;refine Ss (O1:=[1]) ?_ ?_;exact YT 1 (by decide)<|QC QV (dr Q7)<|dr<|dc bM hr<|Du (dy 2) Dz;refine So ?_;refine Vt 1 nd ?_;refine Gs ?_ ?_;exact VY 1;refine dr ?_;refine Yj ?_;refine VT rfl rfl (Yg<|show YF (QN KD) Io _ 1 ["_law_row_here"] []=true by decide+kernel) (by decide) ?_ ?_ ?_ ?_;exact Yk<|VW<|dy 2;exact λ_ _ _ _ _ _=>Jo 0 (show List.Nodup (["_law_row_here"]:List Str)by decide+kernel);exact λ_ _ _ _ _ _=>VX;exact λ_ _ _ _ _ _=>QC QV (dr Q7)<|dv 0;exact Sn;exact So<|QZ (dE hr (dx 2)<|dr Q7) (Ss (O1:=[1]) (YT 1 (by decide) Q7)<|So<|VZ rfl PassesOwn.never (VW<|dy 2) (Jo 3 nd)<|So<|Vt 1 nd<|Gs (VY 1)<|dr<|dc aX hr<|dn 3 Dz) Sn;exact UN 1<|So<|QQ<|JS 1
def QdT(h:Df K mg "_law_kind" Dy OP)(T:Txt K mg):Kw P w K mg ae:=JI BZ OP HW 0 h λnd=>λhr=>by refine Ss (O1:=[1]) ?_ ?_;exact Vt 1 nd<|Wr Dz ZA;refine Ss (O1:=[1]) ?_ ?_;exact QZ (JG<|dr<|UK (c:=6) T.xr (by decide) T.y_NoRow rfl T.b_isinstance boot_isinstance rfl<|dv 0) (So<|YT 1 (by decide)<|Qa6 T.xr<|dv 0) Sn;refine Ss (O1:=[1]) ?_ ?_;refine QZ ?_ ?_ ?_;refine PW.pt ?_;exact V6 (JG<|dr<|UK (c:=0) T.xr (by decide) T.y_NoStyle rfl T.b_isinstance boot_isinstance rfl<|dv 0)<|V6 (JG<|dr<|UK (c:=1) T.xr (by decide) T.y_TooWide rfl T.b_isinstance boot_isinstance rfl<|dv 0)<|JN<|JG<|dr<|UK (c:=2) T.xr (by decide) T.y_TooHigh rfl T.b_isinstance boot_isinstance rfl<|dv 0;exact So<|YT 1 (by decide) Q7;exact Sn;refine Ss (O1:=[1]) ?_ ?_;refine QZ ?_ ?_ ?_;refine PW.pt ?_;exact V6 (JG<|dr<|UK (c:=3) T.xr (by decide) T.y_Twice rfl T.b_isinstance boot_isinstance rfl<|dv 0)<|V6 (JG<|dr<|UK (c:=4) T.xr (by decide) T.y_Loose rfl T.b_isinstance boot_isinstance rfl<|dv 0)<|JN<|JG<|dr<|UK (c:=5) T.xr (by decide) T.y_NoLabel rfl T.b_isinstance boot_isinstance rfl<|dv 0;exact So<|YT 1 (by decide) Q7;exact Sn;refine Ss (O1:=[1]) ?_ ?_;exact QZ (PW.pt<|JA (Qbu<|dv 0)<|JN<|SE<|JG<|dr<|Qa7 T.xr rfl T.b_isinstance boot_isinstance rfl T.b_ValueError<|dv 0) (So<|YT 1 (by decide) Q7) Sn;exact Ss (O1:=[1]) (QZ (PW.pt<|JA (dE hr (dr<|JF JM rfl T.b_len boot_len<|VY 1) dq)<|JN<|JG<|dr<|WS (E7 _) rfl T.b_isinstance boot_isinstance rfl T.b_bool boot_bool<|dr<|Qp (VY 1) dq) (So<|YT 1 (by decide) Q7) Sn)<|UN 1<|So<|QQ<|JS 1
def QdV(h:Df K mg "_law_label_in" K8 Td)(T:Txt K mg):NP P w K mg ae:=JI Td Td HY 0 h λnd=>λhr=>by refine Ss (O1:=[]) ?_ ?_;exact QZ (PW.pt<|JA (JG<|dv 1)<|JN<|dE hr (dv 0)<|dr Q7) (So<|QQ Q7) Sn;refine Ss (O1:=[]) ?_ ?_;refine QZ ?_ ?_ ?_;refine PW.pt ?_;refine V6 ?_ ?_;exact dE hr (dv 0)<|dr Q7;refine JN ?_;refine ZF (X3 hr.units) ?_ ?_<|JU _;refine dr ?_;refine Yj ?_;refine VT rfl rfl (Yg<|show YF (QN K8) Td _ 1 ["_law_sign"] []=true by decide+kernel) (by decide) ?_ ?_ ?_ ?_;exact Yk<|PL<|JS 0;exact λ_ _ _ _ _ _=>Jo 0 (show List.Nodup (["_law_sign"]:List Str)by decide+kernel);exact λ_ _ _ _ _ _=>FI<|ZF Lc (dv 0) (dr Q7) (by with_unfolding_all rfl);exact λ_ _ _ _ _ _=>JS 0;exact dr<|J4 Dz ZA;exact So<|QQ Y9;exact Sn;exact So<|QQ<|JS 0
def QdX(h:Df K mg "_law_number_in" KA Te)(T:Txt K mg):Ky P w K mg ae:=JI Te Te Hc 0 h λnd=>λhr=>by refine Ss (O1:=[]) ?_ ?_;refine QZ ?_ ?_ ?_;refine PW.pt ?_;refine V6 ?_ ?_;exact dE hr (dv 0)<|dr Q7;refine JN ?_;refine ZF (X3 hr.units) ?_ ?_<|JU _;refine dr ?_;refine Yj ?_;refine VT rfl rfl (Yg<|show YF (QN KA) Te _ 1 ["_law_sign"] []=true by decide+kernel) (by decide) ?_ ?_ ?_ ?_;exact Yk<|PL<|JS 0;exact λ_ _ _ _ _ _=>Jo 0 (show List.Nodup (["_law_sign"]:List Str)by decide+kernel);exact λ_ _ _ _ _ _=>FI<|ZF Lc (dv 0) (dr Q7) (by with_unfolding_all rfl);exact λ_ _ _ _ _ _=>JS 0;exact dr<|J4 Dz ZA;exact So<|QQ Y9;exact Sn;exact Ss (O1:=[]) (QZ (PW.pt<|V6 (PW.pt<|JA (dF hr (dv 0)<|dr Q7)<|JN<|dE hr (dx 0)<|dr Q7)<|JN<|ZF Lb (dr<|WT P7 rfl T.b_int boot_int<|dv 0) (dv 1)<|JU _) (So<|QQ Y9) Sn)<|So<|QQ<|WT P7 rfl T.b_int boot_int<|dv 0
def Qd9(h:Df K mg "_law_title_in" CA Oc)(T:Txt K mg):IF P w K mg ae:=JI Bj Oc Ho 0 h λnd=>λhr=>Ss (O1:=[]) (Qi 1 nd<|ME (by decide)<|dv 0)<|Ss (O1:=[]) (QZ (PW.pt<|V6 (dE hr (dv 1)<|dr Q7)<|JN<|dF hr (dv 1)<|dr<|ZL EW PySem.F.slot_str_strip PySem.F.type_str_strip (dv 1)<|dr Q7) (So<|QQ Y9) Sn)<|So<|QQ<|JS 1
def QdM(h:Df K mg "_law_block_in" Dt OI)(T:Txt K mg)(aq:NP P w K mg ae)(aI:Ky P w K mg ae)(aO:IF P w K mg ae):Kq P w K mg ae:=JI BV OI HN 1 h λnd=>λhr=>by refine Ss (O1:=[]) ?_ ?_;refine QZ ?_ ?_ ?_;exact PW.pt<|JA (dE hr (dx 0)<|dr Q7)<|JN<|dE hr (dr<|JF JM rfl T.b_len boot_len<|dv 0) dq;refine So ?_;refine QQ ?_;refine Jd ?_ ?_;refine Dk ?_ ?_;exact Q7;refine XZ ?_ ?_;exact J4 Dz ZA;exact Dz;exact YX;exact Sn;refine Ss (O1:=[]) ?_ ?_;refine QZ ?_ ?_ ?_;exact PW.pt<|JA (dE hr (dx 0)<|dr Q7)<|JN<|dE hr (dr<|JF JM rfl T.b_len boot_len<|dv 0) dq;refine So ?_;refine QQ ?_;refine Jd ?_ ?_;refine Dk ?_ ?_;exact Q7;refine XZ ?_ ?_;exact J4 Dz ZA;exact Dl (dc aq hr<|Du (dy 0)<|Dk Yi Dz) Dz;exact YY;exact Sn;refine Ss (O1:=[]) ?_ ?_;exact QZ (PW.pt<|JA (dE hr (dx 0)<|dr Q7)<|JN<|dE hr (dr<|JF JM rfl T.b_len boot_len<|dv 0) dq) (So<|QQ<|Jd (Dk Q7<|Dl (dc aI hr<|Du (dy 0)<|Dk Zh Dz)<|Dl (dc aq hr<|Du (dy 0)<|Dk Yi Dz) Dz) YY) Sn;refine Ss (O1:=[]) ?_ ?_;exact QZ (PW.pt<|JA (dE hr (dx 0)<|dr Q7)<|JN<|ZF VE (dr<|JF JM rfl T.b_len boot_len<|dv 0) dq<|JU _) (So<|QQ<|Jd (Dk Q7<|Dl (dc aO hr<|Du (Jy (dv 0) (Jv dq) Z4) Dz)<|Dl (dc aq hr<|Du (dy 0)<|Dk Yi Dz) Dz) YY) Sn;refine Ss (O1:=[]) ?_ ?_;refine QZ ?_ ?_ ?_;exact PW.pt<|JA (dE hr (dx 0)<|dr Q7)<|JN<|ZF VE (dr<|JF JM rfl T.b_len boot_len<|dv 0) dq<|JU _;exact Ss (O1:=[]) (Qi 1 nd<|dc aI hr<|Du (dy 0)<|Dk Zh Dz)<|So<|QQ<|Jd (Dk Q7<|Dl (dc aO hr<|Du (Jy (dv 0) (Jv dq) Z4) Dz)<|dn 1<|Dl (dc aq hr<|Du (dy 0)<|Dk Yi Dz) Dz) Vg;exact Sn;exact So<|QQ<|Jd (Dk Q7<|Dk Y9 Dz) YX
def QdR(h:Df K mg "_law_item_in" Dx OO)(T:Txt K mg)(aq:NP P w K mg ae):Ku P w K mg ae:=JI BY OO HU 1 h λnd=>λhr=>by refine Ss (O1:=[]) ?_ ?_;refine QZ ?_ ?_ ?_;exact PW.pt<|JA (ZF La (dx 0) (dr<|Jd (Dk Q7<|Dk Q7 Dz) YX)<|by with_unfolding_all rfl)<|JA (dE hr (dr<|JF JM rfl T.b_len boot_len<|dv 0) dq)<|JN<|dF hr (dx 0)<|dr Q7;refine So ?_;refine QQ ?_;refine QC QV ?_ ?_;exact dr<|Jd (Du (dy 0)<|Du (dy 0) Dz) YX;refine dr ?_;refine QC QeU ?_ ?_;refine dr ?_;refine Jd ?_ ?_;refine XZ ?_ ?_;exact J4 Dz ZA;exact Dz;exact YB;exact dr<|WT P6 rfl T.b_int boot_int<|dr<|Zo (Yr hr.units) (dx 0) (dr Q7)<|JU _;exact Sn;refine Ss (O1:=[]) ?_ ?_;exact QZ (PW.pt<|JA (dE hr (dx 0)<|dr Q7)<|JN<|dE hr (dr<|JF JM rfl T.b_len boot_len<|dv 0) dq) (So<|QQ<|Jd (Dk Q7<|Dl (dc aq hr<|Du (dy 0)<|Dk Yi Dz) Dz) YX) Sn;refine Ss (O1:=[]) ?_ ?_;refine QZ ?_ ?_ ?_;refine PW.pt ?_;exact JA (dE hr (dx 0)<|dr Q7)<|JA (dE hr (dr<|JF JM rfl T.b_len boot_len<|dv 0) dq)<|JN<|dE hr (dr<|ZL LQ PySem.F.slot_str_count PySem.F.type_str_count (dx 0)<|dr Q7) dq;exact Ss (O1:=[]) (Qi 1 nd<|ZL Ue PySem.F.slot_str_split PySem.F.type_str_split (dx 0)<|dr Q7)<|So<|QQ<|Jd (Dk Q7<|Dl (dc aq hr<|Du (dy 0)<|Dk Yi Dz)<|Du (dy 1)<|Du (dy 1) Dz) Vg;exact Sn;exact So<|QQ<|Jd (Dk Q7<|Dk Y9 Dz) YX
def CV:FnScope Ba OR<|QN K9:=by constructor<;>first|rfl|decide+kernel
def QdW(h:Df K mg "_law_more_in" K9 OR)(T:Txt K mg):Ib P w K mg ae:=have nd:=(CV).nd
 OC (b:=HZ) (k:=0) h CV λf ah A af s H E hr=>by refine QfT<|Z1 (VG nd rfl (by first|exact Or.inl rfl|exact Or.inr rfl)<|Lh<|J5 Ou<|J5 (X5 JL) JL)<|Z1 (Yt ?_ (ZT<|VG nd rfl (by first|exact Or.inl rfl|exact Or.inr rfl)<|Y1 Zy (J8 (i:=0) rfl<|by first|exact Or.inl rfl|exact Or.inr<|Or.inl rfl|exact Or.inr<|Or.inr rfl) Xr λ_ _=>rfl) Yu)<|Z1 (Yt ?_ (Z1 (VF<|YJ PySem.F.plainAttrs_list PySem.F.slot_list_append PySem.F.type_list_append VC (Y1 Zy (J8 (i:=2) rfl<|by first|exact Or.inl rfl|exact Or.inr<|Or.inl rfl|exact Or.inr<|Or.inr rfl) WD λ_ _=>rfl)<|J5 ?_ JL)<|ZT<|ZN YI) Yu)<|Z1 (Yt ?_ (Z1 (VF<|YJ PySem.F.plainAttrs_list PySem.F.slot_list_append PySem.F.type_list_append VC (Y1 Zy (Y1 Zy (Y1 Zy (J8 (i:=2) rfl<|by first|exact Or.inl rfl|exact Or.inr<|Or.inl rfl|exact Or.inr<|Or.inr rfl) WD λ_ _=>rfl) Xr λ_ _=>rfl) WD λ_ _=>rfl)<|J5 ?_ JL)<|ZT<|ZN YI) Yu)<|ZT<|ZN YI;exact dF hr (dv 0)<|dr<|J4 Dz ZA;exact PW.pt<|JA (dE hr (dr<|Jy (dv 1) Z4<|Jv dq)<|dr Q7)<|JN<|dE hr (dx 2)<|dr Q7;exact Jy (dv 1) (Jv dq) Z4;refine PW.pt ?_;exact JA (dE hr (dr<|Jy (dv 1) Z4<|Jv dq)<|dr Q7)<|JA (dE hr (dx 2)<|dr Q7)<|JA (dF hr (dx 2)<|dr<|J4 Dz ZA)<|JN<|dE hr (dr<|Qp (dr<|Qp (dx 2)<|dr<|YG dq) dq)<|dr Q7;exact Jy (dv 1) (Jv dq) Z4
def CW:FnScope Bf OW<|QN KC:=by constructor<;>first|rfl|decide+kernel
def Qd2(h:Df K mg "_law_row_in" KC OW)(T:Txt K mg)(bj:Kq P w K mg ae)(bD:Ku P w K mg ae)(bC:Ib P w K mg ae):Ic P w K mg ae:=have nd:=(CW).nd
 QdA (b:=Hi) (k:=2) h CW λf ah A af s H E hr=>by refine QfS (RF<|Ys bC (hr.mono<|by decide) rfl<|J5 (J8 (i:=0) rfl<|by first|exact Or.inl rfl|exact Or.inr<|Or.inl rfl|exact Or.inr<|Or.inr rfl)<|J5 (J8 (i:=1) rfl<|by first|exact Or.inl rfl|exact Or.inr<|Or.inl rfl|exact Or.inr<|Or.inr rfl) JL) (ZT<|ZN YI)<|RR ?_ (Lu<|ZN YI)<|QfW<|Z1 (VG nd rfl (by first|exact Or.inl rfl|exact Or.inr rfl) ?_)<|Z1 (VG nd rfl (by first|exact Or.inl rfl|exact Or.inr rfl)<|Ys bj (hr.mono<|by decide) rfl<|J5 (J8 (i:=2) rfl<|by first|exact Or.inl rfl|exact Or.inr<|Or.inl rfl|exact Or.inr<|Or.inr rfl) JL)<|Z1 (Yt ?_ (Z1 (VF<|YJ PySem.F.plainAttrs_list PySem.F.slot_list_append PySem.F.type_list_append VC (J8 (i:=0) rfl<|by first|exact Or.inl rfl|exact Or.inr<|Or.inl rfl|exact Or.inr<|Or.inr rfl)<|J5 (J8 (i:=3) rfl<|by first|exact Or.inl rfl|exact Or.inr<|Or.inl rfl|exact Or.inr<|Or.inr rfl) JL)<|ZT<|ZN YI) Yu)<|Z1 (VG nd rfl (by first|exact Or.inl rfl|exact Or.inr rfl)<|Ys bD (hr.mono<|by decide) rfl<|J5 (J8 (i:=2) rfl<|by first|exact Or.inl rfl|exact Or.inr<|Or.inl rfl|exact Or.inr<|Or.inr rfl) JL)<|Z1 (Yt ?_ (Z1 (VF<|YJ PySem.F.plainAttrs_list PySem.F.slot_list_append PySem.F.type_list_append VC (Y1 Zy (Y1 Zy (J8 (i:=0) rfl<|by first|exact Or.inl rfl|exact Or.inr<|Or.inl rfl|exact Or.inr<|Or.inr rfl) Xr λ_ _=>rfl) WD λ_ _=>rfl)<|J5 (J8 (i:=4) rfl<|by first|exact Or.inl rfl|exact Or.inr<|Or.inl rfl|exact Or.inr<|Or.inr rfl) JL)<|ZT<|ZN YI) Yu)<|ZT<|ZN YI;exact PW.pt<|JA (dF hr (dv 0)<|dr<|J4 Dz ZA)<|JA (dE hr (dr<|Qp (dr<|Qp (dv 0)<|dr<|YG dq) dq)<|dr Q7)<|JN<|dE hr (dr<|Qp (dr<|Qp (dv 0)<|dr<|YG dq) dq)<|dr<|J4 Dz ZA;exact ZL Ue PySem.F.slot_str_split PySem.F.type_str_split (dv 1)<|dr Q7;exact ZF (Ew hr.units) (dr Y9) (dv 3) (by with_unfolding_all rfl);exact PW.pt<|JA (ZF (Ew hr.units) (dr Y9) (dv 4)<|by with_unfolding_all rfl)<|JA (dF hr (dv 0)<|dr<|J4 Dz ZA)<|JN<|dE hr (dr<|Qp (dr<|Qp (dv 0)<|dr<|YG dq) dq)<|dr Q7
def QdZ(h:Df K mg "_law_read" C3 OT)(T:Txt K mg)(bV:Ic P w K mg ae):Kz P w K mg ae:=JI Bc OT Hf 3 h λnd=>λhr=>by refine MU (i:=1) (O':=[]) (OL:=[]) (VG nd rfl (by first|exact Or.inl rfl|exact Or.inr rfl)<|X5 JL) (MQ (BRes2.gr _) rfl PassesOwn.never ?_ ?_<|by refine MT<|MO (O':=[]) (OL:=[]) (Ov<|RF<|Ys bV (hr.mono<|by decide) rfl<|J5 (J8 (i:=1) rfl<|by first|exact Or.inl rfl|exact Or.inr<|Or.inl rfl|exact Or.inr<|Or.inr rfl)<|J5 ?_ JL) ?_;exact Qp (dv 0)<|dv 2;exact So<|QQ<|J4 (dn 2 Dz) YB) ?_ ?_<|ZN<|J8 (i:=1) rfl (by first|exact Or.inl rfl|exact Or.inr<|Or.inl rfl|exact Or.inr<|Or.inr rfl);exact Vs rfl T.b_range<|dr<|JF JM rfl T.b_len boot_len<|dv 0;exact Jo 2 nd;exact PW.pt<|JA (dF hr (dv 1)<|dr<|J4 Dz ZA)<|JA (dE hr (dr<|Qp (dr<|Qp (dv 1)<|dr<|YG dq) dq)<|dr Q7)<|JN<|dE hr (dr<|Qp (dr<|Qp (dv 1)<|dr<|YG dq) dq)<|dr<|J4 Dz ZA;exact So<|QQ<|J4 (Dl (JF JM rfl T.b_len boot_len<|dv 0) Dz) YB
def QdK(h:Df K mg "_law_beyond" Ds OG)(T:Txt K mg):Ko P w K mg ae:=JI BU OG HL 0 h λnd=>λhr=>by refine Ss (O1:=[]) ?_ ?_;refine VZ rfl PassesOwn.never ?_ ?_ ?_;exact VW<|JS 0;exact Jo 1 nd;refine Ss (O1:=[]) ?_ ?_;exact Qi 2 nd<|ZL Ue PySem.F.slot_str_split PySem.F.type_str_split (dv 1)<|dr Q7;refine Ss (O1:=[]) ?_ ?_;exact Qi 3 nd<|QC QV dq<|dr<|WT P6 rfl T.b_int boot_int<|dr<|Zo La (dx 2) (dr<|Jd (Dk Q7<|Dk Q7 Dz) YX) (by with_unfolding_all rfl);refine So ?_;refine QZ ?_ ?_ ?_;refine PW.pt ?_;exact JA (ZF VE (dr<|JF JM rfl T.b_len boot_len<|dv 2) (dv 3)<|JU _)<|JA (ZF VE (dr<|JF JM rfl T.b_len boot_len<|dr<|Qp (dv 2)<|dv 3) dq<|JU _)<|JN<|ZF QeV (dx 2) (dr<|Jd (Dk Q7<|Dk Q7<|Dk Q7<|Dk Q7 Dz) Vg) (by with_unfolding_all rfl);exact So<|QQ Yi;exact Sn;exact So<|QQ Yi
def QdY(h:Df K mg "_law_odd" C0 OS)(T:Txt K mg):NQ P w K mg ae:=JI Bb OS He 0 h λnd=>λhr=>by refine Ss (O1:=[]) ?_ ?_;refine Qbo ?_ ?_ ?_ ?_ ?_ ?_ ?_;exact nd;refine J4 ?_ ?_;exact Dk Q7<|Dk Q7<|Dk Q7<|Dk Q7<|Dk Q7<|Dk Q7<|Dk Q7<|Dk Q7<|Dk Q7<|Dk Q7<|Dk Q7<|Dk Q7 Dz;exact Vf (n:=12) (by refine Qj ?_;refine Qj ?_;refine Qj ?_;refine Qj ?_;refine Qj ?_;refine Qj ?_;refine Qj ?_;refine Qj ?_;refine Qj ?_;refine Qj ?_;refine Qj ?_;refine Qj ?_;exact Ve) (by decide);rfl;(first|exact Or.inl rfl|exact Or.inr rfl);rfl;(first|exact Or.inl rfl|exact Or.inr rfl);decide;refine Ss (O1:=[]) ?_ ?_;refine Qi 1 nd ?_;refine QC QV ?_ ?_;exact dv 1;refine dr ?_;refine J4 ?_ ?_;exact Dk Q7<|Dk Q7<|Dk Q7<|Dk Q7<|Dk Q7<|Dk Q7<|Dk Q7<|Dk Q7<|Dk Q7 Dz;exact Vf (n:=9) (by refine Qj ?_;refine Qj ?_;refine Qj ?_;refine Qj ?_;refine Qj ?_;refine Qj ?_;refine Qj ?_;refine Qj ?_;refine Qj ?_;exact Ve) (by decide);refine Ss (O1:=[]) ?_ ?_;refine Qi 1 nd ?_;refine QC QV ?_ ?_;exact dv 1;refine dr ?_;refine J4 ?_ ?_;exact Dk Q7<|Dk Q7<|Dk Q7<|Dk Q7<|Dk Q7<|Dk Q7<|Dk Q7<|Dk Q7 Dz;exact Vf (n:=8) (by refine Qj ?_;refine Qj ?_;refine Qj ?_;refine Qj ?_;refine Qj ?_;refine Qj ?_;refine Qj ?_;refine Qj ?_;exact Ve) (by decide);refine Ss (O1:=[]) ?_ ?_;refine Qi 1 nd ?_;refine QC QV ?_ ?_;exact dv 1;refine dr ?_;refine J4 ?_ ?_;exact Dk Q7<|Dk Q7<|Dk Q7<|Dk Q7<|Dk Q7<|Dk Q7<|Dk Q7<|Dk Q7 Dz;exact Vf (n:=8) (by refine Qj ?_;refine Qj ?_;refine Qj ?_;refine Qj ?_;refine Qj ?_;refine Qj ?_;refine Qj ?_;refine Qj ?_;exact Ve) (by decide);refine Ss (O1:=[]) ?_ ?_;refine Qi 1 nd ?_;refine QC QV ?_ ?_;exact dv 1;refine dr ?_;refine J4 ?_ ?_;exact Dk Q7<|Dk Q7<|Dk Q7<|Dk Q7<|Dk Q7<|Dk Q7<|Dk Q7 Dz;exact Vf (n:=7) (by refine Qj ?_;refine Qj ?_;refine Qj ?_;refine Qj ?_;refine Qj ?_;refine Qj ?_;refine Qj ?_;exact Ve) (by decide);refine Ss (O1:=[]) ?_ ?_;exact Qi 1 nd<|QC QV (dv 1)<|dr<|J4 (Dk Q7<|Dk Q7<|Dk Q7<|Dk Q7<|Dk Q7<|Dk Q7 Dz) O5;refine Ss (O1:=[]) ?_ ?_;exact Qi 1 nd<|QC QV (dv 1)<|dr<|J4 (Dk Q7<|Dk Q7<|Dk Q7<|Dk Q7<|Dk Q7<|Dk Q7 Dz) O5;exact Ss (O1:=[]) (Qi 1 nd<|QC QV (dv 1)<|dr<|J4 (Dk Q7<|Dk Q7<|Dk Q7<|Dk Q7<|Dk Q7<|Dk Q7 Dz) O5)<|Ss (O1:=[]) (Qi 1 nd<|QC QV (dv 1)<|dr<|J4 (Dk Q7<|Dk Q7<|Dk Q7<|Dk Q7<|Dk Q7<|Dk Q7 Dz) O5)<|So<|QQ<|Qp (dv 1)<|dr<|QC J6 (dv 0)<|dr<|JF JM rfl T.b_len boot_len<|dv 1
def Qd4(h:Df K mg "_law_signed" C6 OY)(T:Txt K mg):IB P w K mg ae:=JI Bg OY Hk 0 h λnd=>λhr=>by refine Ss (O1:=[]) ?_ ?_;exact Qi 2 nd Q7;refine Ss (O1:=[]) ?_ ?_;exact Qi 3 nd<|Qp (dv 2)<|dr<|QC J6 (dr<|QC Zk (dx 1) dq)<|dr<|Qp (dr<|J4 (Dk Zh<|Dl (JF JM rfl T.b_len boot_len<|dv 2) Dz) YX)<|dr<|QC Zk (dr<|QC J6 (dx 1) dq) dq;refine Ss (O1:=[]) ?_ ?_;exact Qi 4 nd<|QC J6 (dr<|QC Zk (dx 1) dq)<|dr<|QC QV (dr<|JF JM rfl T.b_len boot_len<|dv 0) dq;refine Ss (O1:=[]) ?_ ?_;exact QZ (dE hr (dr<|QC J6 (dx 1) dq) dq) (So<|Qi 4 nd<|QC J6 (dr<|QC Zk (dx 1) dq)<|dr<|Gz (Ad rfl) rfl T.b_min boot_min (dr<|QC QV (dr<|JF JM rfl T.b_len boot_len<|dv 0) dq) dq) Sn;refine Ss (O1:=[]) ?_ ?_;exact QZ (dE hr (dr<|QC J6 (dx 1) dq) dq) (So<|QQ<|QC QV (dr<|QC QV (dr<|Jy (dv 0) Z4<|Jv<|dv 4)<|dv 3)<|dr<|Jy (dv 0) (Jv<|dv 4) Z4) Sn;exact Ss (O1:=[]) (QZ (dE hr (dr<|QC J6 (dx 1) dq) dq) (So<|QQ<|QC QV (dr<|QC QV (dr<|Jy (dv 0) Z4<|Jv<|dv 4)<|dv 3)<|dr<|Jy (dv 0) (Jv<|dr<|QC QV (dv 4) dq) Z4) Sn)<|So<|QQ<|QC QV (dr<|Jy (dv 0) Z4<|Jv<|dv 4)<|dr<|Jy (dv 0) (Jv<|dr<|QC QV (dv 4) dq) Z4
def Qd5(h:Df K mg "_law_spoiled" KG OZ)(T:Txt K mg)(bt:NQ P w K mg ae)(bU:IB P w K mg ae):IC P w K mg ae:=JI Ip OZ Hl 1 h λnd=>λhr=>by refine Ss (O1:=[]) ?_ ?_;exact Qi 2 nd<|QC J6 (dx 1) dq;refine Ss (O1:=[]) ?_ ?_;exact Qi 3 nd<|QC J6 (dx 1)<|dr<|JF JM rfl T.b_len boot_len<|dv 0;refine Ss (O1:=[]) ?_ ?_;exact Qi 4 nd<|QC J6 (dx 1)<|dr<|JF JM rfl T.b_len boot_len<|dv 0;refine Ss (O1:=[]) ?_ ?_;exact QZ (dE hr (dv 2) dq) (So<|QQ<|QC QV (dr<|Jy (dv 0) Z4<|Jv<|dv 3)<|dr<|Jy (dv 0) (Jv<|dr<|QC QV (dv 3) dq) Z4) Sn;refine Ss (O1:=[]) ?_ ?_;exact QZ (dE hr (dv 2) dq) (So<|QQ<|QC QV (dr<|QC QV (dr<|Jy (dv 0) Z4<|Jv<|dv 3)<|dr<|J4 (Du (Qp (dv 0)<|dv 3) Dz) YB)<|dr<|Jy (dv 0) (Jv<|dv 3) Z4) Sn;refine Ss (O1:=[]) ?_ ?_;exact QZ (dE hr (dv 2) dq) (So<|QQ<|QC QV (dr<|QC QV (dr<|Jy (dv 0) Z4<|Jv<|dv 3)<|dr<|J4 (Dl (dc bt hr<|Du (dy 1) Dz) Dz) YB)<|dr<|Jy (dv 0) (Jv<|dr<|QC QV (dv 3) dq) Z4) Sn;refine Ss (O1:=[]) ?_ ?_;exact QZ (dE hr (dv 2) dq) (So<|QQ<|QC QV (dr<|QC QV (dr<|Jy (dv 0) Z4<|Jv<|dv 3)<|dr<|J4 (Du (Qp (dv 0)<|dv 4) Dz) YB)<|dr<|Jy (dv 0) (Jv<|dr<|QC QV (dv 3) dq) Z4) Sn;refine Ss (O1:=[]) ?_ ?_;refine QZ ?_ ?_ ?_;exact dE hr (dv 2) dq;refine So ?_;refine QQ ?_;refine Yj ?_;refine VT rfl rfl (Yg<|show YF (QN KG) Ip _ 1 ["_law_k","_law_rows_here","_law_to","_law_at"] [0,4,3]=true by decide+kernel) (by decide) ?_ ?_ ?_ ?_;exact Yk<|Vs rfl T.b_range<|dr<|JF JM rfl T.b_len boot_len<|dv 0;exact λ_ _ _ _ _ _=>Jo 0 (show List.Nodup (["_law_k","_law_rows_here","_law_to","_law_at"]:List Str)by decide+kernel);exact λ_ _ _ _ _ _=>VX;exact λ_ _ _ _ _ _=>(by refine Qp ?_ ?_;exact dv 1;refine dr ?_;refine Qp ?_ ?_;exact dr<|J4 (dn 0<|dn 2<|dn 3 Dz) YY;refine dr ?_;exact QC QV (dr<|WT P6 rfl T.b_int boot_int<|dr<|Zo (Yr hr.units) (dv 0) (dv 3)<|JU _)<|dr<|QC Y0 dq<|dr<|WT P6 rfl T.b_int boot_int<|dr<|VU (dr<|Zo (Yr hr.units) (dv 0) (dv 2)<|JU _)<|VV<|Zo (X3 hr.units) (dv 3) (dv 2)<|JU _);exact Sn;refine Ss (O1:=[]) ?_ ?_;exact QZ (dE hr (dv 2) dq) (So<|QQ<|QC QV (dr<|QC QV (dr<|Jy (dv 0) Z4<|Jv<|dv 3)<|dr<|J4 (Dl (dc bU hr<|Du (Qp (dv 0)<|dv 3)<|dn 1 Dz) Dz) YB)<|dr<|Jy (dv 0) (Jv<|dr<|QC QV (dv 3) dq) Z4) Sn;refine Ss (O1:=[]) ?_ ?_;exact QZ (dE hr (dv 2) dq) (So<|QQ<|Jy (dv 0) Z4<|Jv<|dv 3) Sn;refine Ss (O1:=[]) ?_ ?_;exact QZ (dE hr (dv 2) dq) (So<|QQ<|QC QV (dr<|QC QV (dr<|Jy (dv 0) Z4<|Jv<|dv 3)<|dr<|J4 (Dl (dc bt hr<|Du (dy 1) Dz) Dz) YB)<|dr<|Jy (dv 0) (Jv<|dv 3) Z4) Sn;exact So<|QQ<|JS 0
def Qd0(h:Df K mg "_law_refused" C4 OU)(T:Txt K mg)(cJ:Kw P w K mg ae)(df:Ie P w K mg ae):I0 P w K mg ae:=JI Bd OU Hg 6 h λnd=>λhr=>by refine Ss (O1:=[]) ?_ ?_;exact Qi 1 nd Y9;refine Ss (O1:=[]) ?_ ?_;refine Qbq 1 2 nd T.xt rfl ?_;refine QfI df (hr.mono<|by decide) rfl ?_;exactλE=>dn 0 Dz;exact So<|QQ<|dc cJ hr<|dn 1 Dz
def sc_law:FnScope Nc Qe2<|QN RX:=by constructor<;>first|rfl|decide+kernel
def Qer{f:Addr}{fd:FuncData}(h:Fun K "law" "law" RX f fd)(T:Txt K mg)(bK:Kn P w K mg ae)(bX:Ko P w K mg ae)(cL:Kr P w K mg ae)(aK:NO P w K mg ae)(bt:NQ P w K mg ae)(cI:Kz P w K mg ae)(bB:I0 P w K mg ae)(cH:IA P w K mg ae)(bA:IC P w K mg ae)(cG:IP P w K mg ae)(bQ:Ia P w K mg ae):FnOk P w K mg ae J9 9 f fd ["_law_script"]<|spD K SN:=have nd:=sc_law.nd
 QdD (b:=G6) (k:=8) (N:=Nc) (O':=[]) (OL:=[]) h sc_law (by decide+kernel) rfl λah A af s H E hr=>by refine Qbr (O1:=[1]) ?_ ?_;refine FN 1 nd rfl rfl (Yg<|show YF (QN RX) Nc _ 1 ["_law_row_here"] []=true by decide+kernel) (by decide) ?_ ?_ ?_ ?_;exact Yk<|VW<|dc cH hr<|Dl (dc cL hr<|dn 0 Dz) Dz;exact λ_ _ _ _ _ _=>Jo 0 (show List.Nodup (["_law_row_here"]:List Str)by decide+kernel);exact λ_ _ _ _ _ _=>VX;exact λ_ _ _ _ _ _=>Qba (i:=0) (by decide) (by decide) rfl (by first|exact Or.inl rfl|exact Or.inr<|Or.inl rfl|exact Or.inr<|Or.inr rfl) (by decide);refine Ss (O1:=[1]) ?_ ?_;refine VZ rfl PassesOwn.never ?_ ?_ ?_;exact Vs rfl T.b_range<|dr<|JF JM rfl T.b_len boot_len<|VY 1;exact Jo 2 nd;refine So ?_;refine QZ ?_ ?_ ?_;exact JG<|dr<|ZL Vh PySem.F.slot_str_startswith PySem.F.type_str_startswith (dr<|Qp (VY 1)<|dv 2)<|dr Q7;refine So ?_;refine Qbm 1 (by decide)<|QfA ?_<|Qfm (J8 (i:=1) rfl<|by first|exact Or.inl rfl|exact Or.inr<|Or.inl rfl|exact Or.inr<|Or.inr rfl) ?_ Qgn;exact QC QV (dr<|QC QV (dr<|Jy (dr<|Qp (VY 1)<|dv 2) Z4<|Jv<|dr<|YG dq)<|dr Q7)<|dr<|Qp (dr<|Qp (VY 1)<|dv 2)<|dr<|YG dq;exact JS 2;exact Sn;refine Ss (O1:=[1]) ?_ ?_;exact Qi 3 nd<|dc aK hr<|dn 0<|Dk Zh<|Dk Zh Dz;refine Ss (O1:=[1]) ?_ ?_;exact QZ (dE hr (VY 1)<|dr<|J4 Dz ZA) (So<|Vt 1 nd<|Wr (Dl (dc bt hr<|Du (dy 3) Dz) Dz) YB) Sn;refine UN 1 ?_;refine Ss (O1:=[]) ?_ ?_;exact Qi 1 nd<|dc bA hr<|dn 1<|dn 3 Dz;refine Ss (O1:=[]) ?_ ?_;exact QZ (JG<|dr<|dc bX hr<|dn 1 Dz) (So<|QQ Yi) Sn;refine Ss (O1:=[]) ?_ ?_;exact Qi 4 nd<|dc cI hr<|dn 1 Dz;refine Ss (O1:=[]) ?_ ?_;exact Qi 5 nd<|Yj<|Qad rfl T.b_list boot_list<|dv 1;refine Ss (O1:=[]) ?_ ?_;exact QZ (PW.pt<|JA (dF hr (dv 4)<|dr<|J4 Dz ZA)<|JN<|JG<|dr<|WS (LG _) rfl T.b_isinstance boot_isinstance rfl T.b_int boot_int<|dx 4) (So<|QQ<|VU (dr<|Zo (Yr hr.units) (dr<|dc bB hr<|dn 5 Dz) (dv 4)<|JU _)<|VV<|Zo (Yr hr.units) (dv 5) (dv 1)<|JU _) Sn;exact Ss (O1:=[]) (Qi 6 nd<|dc cG hr<|dn 5 Dz)<|So<|QQ<|VU (dr<|dc bK hr<|dn 6<|dn 4 Dz)<|VU (dr<|dc bK hr<|Dl (Yj<|Qac bQ (hr.mono<|by decide) rfl<|dn 6 Dz)<|dn 1 Dz)<|VV<|Zo (Yr hr.units) (dv 5) (dv 1)<|JU _
end
end
open PySem PySem.Spec PyProof.Rows L2 Wd
def walk{l:W.OpenLaw}{q:Program}{loose:List Str}{XP:(Str->Option Value)->Heap->Prop}{YP:World->Heap->Prop}{d:DefRec}{K:Params->W.Frag}(hn:l.most=some 63)(gK:d.params.defaults=[])(hY:∀(w:World)(h:Heap),YP w h->(K w.params).In h)(F:∀(w:World)(mg:Str->Option Value)(fa:Addr)(h:Heap),(K w.params).In h->h.Ns mainGlobals mg->mg d.name=some (.ref fa)->∃fd:FuncData,(∀(s:Shared)(u:Value),BindsTo s fd ⟨[u],[]⟩ [("_law_script",u)])/\∀ae:Heap,(K w.params).In ae->ae.Ns mainGlobals mg->FnOk l.prog w (K w.params) mg ae J9 9 fa fd ["_law_script"] (spD (K w.params) SN)):W.WalkO q loose XP YP l.row.toRowW d [] λf vs=>PySem.call f vs:=L2.walk_of (n:=63) (k:=9) (x:="_law_script") (CX:=λ_=>J9) (sp:=λw=>spD (K w.params) SN) hn (by decide) gK ⟨rfl,by decide,by decide⟩ hY F (λw H a ns _ _ hS=>QcU (K w.params) SN QcV H a ns hS) λ_ _ _ _ _ z=>z
end My
namespace Hd
open PySem PySem.W PySem.Calls PyProof.Rows My L2
section
variable{P:Params}{h:Heap}{mg:Str->Option Value}{x:Str}{st:Stmt}{ps:List Str}{y:Str}{fa:Addr}
abbrev fx(P:Params)(x:Str)(f:Nat):=(nsIn (K P) mainGlobals x,List.lookup f<|K P,codeIn (K P) (.ref<|f-1) x,keepIn (K P)<|.ref f)
abbrev fw(x:Str)(st:Stmt)(f:Nat)(m:Value):Option (Option Value)×Option Obj×Bool×Bool:=(some<|some<|.ref f,some ⟨.type "function",none,.func<|fnOf x x (YS st) (Ju st) (QN st) .none .none .none m none (.ref<|f-1) .none,#[]⟩,true,true)
def dk(f:Nat)(m:Value)(X:Frag.In (K P) h)(G:h.Ns mainGlobals mg)(hb:∀(kV doc pm:Value)(an:Option Addr)(ah ct:Value)(us:List Value),us.length=ps.length->bindArgs (fnOf x x (YS st) (Ju st) (QN st) .none kV doc pm an ah ct) ⟨us,[]⟩=pure (ps.zip us):=by intro _ _ _ _ _ _ us hl;rcases us with _|⟨_,_|⟨_,_|⟨_,_|⟨_,_|⟨_,_|⟨_,_⟩⟩⟩⟩⟩⟩<;>first|(exfalso;simp at hl;done)|rfl)(e:fx P x f=fw x st f m:=by kernel_rfl):Wd.Df (K P) mg x st ps:=by
 obtain⟨a,l,c,k⟩:_/\_/\_/\_:=by simpa only[Prod.mk.injEq]using e
 exact Wd.df_mk X G hb a l c k
def W1(X:Frag.In (K P) h)(G:h.Ns mainGlobals mg)(a:nsIn (K P) mainGlobals x=some none:=by kernel_rfl):mg x=none:=mg_none_of X G a
variable(X:Frag.In (K P) h)(G:h.Ns mainGlobals mg)
include X G
def QaS:Wd.Df (K P) mg "label_of" CK R6:=dk 160 m0 X G
def Gv:Wd.Df (K P) mg "items_of" N1 Xo:=dk 167 m0 X G
def QaR:Wd.Df (K P) mg "item_rows" KN Tg:=dk 172 m1 X G
def QaK:Wd.Df (K P) mg "first_row" CC Oh:=dk 179 m1 X G
def QaJ:Wd.Df (K P) mg "block_rows" KJ Og:=dk 184 m1 X G
def Qa4:Wd.Df (K P) mg "written" KP RA:=dk 191 m1 X G
def QaO:Wd.Df (K P) mg "is_sign" CG R3:=dk 198 m1 X G
def QaM:Wd.Df (K P) mg "is_label" KL Tf:=dk 203 m1 X G
def QaL:Wd.Df (K P) mg "is_block_label" CD Sz:=dk 210 m1 X G
def QaQ:Wd.Df (K P) mg "is_word" CJ R5:=dk 217 m1 X G
def QaP:Wd.Df (K P) mg "is_title" CH R4:=dk 224 m1 X G
def QaN:Wd.Df (K P) mg "is_number" CF R0:=dk 231 m1 X G
def Qa0:Wd.Df (K P) mg "read_label" CQ R9:=dk 238 m1 X G
def QaX:Wd.Df (K P) mg "read_chapter" CN Oi:=dk 245 m1 X G
def QaY:Wd.Df (K P) mg "read_heading" CO Oj:=dk 252 m1 X G
def Qa3:Wd.Df (K P) mg "read_table" CU Oq:=dk 259 m1 X G
def Qa1:Wd.Df (K P) mg "read_plates" CS Om:=dk 266 m1 X G
def QaW:Wd.Df (K P) mg "read_block" CM R8:=dk 273 m1 X G
def Qa2:Wd.Df (K P) mg "read_ref" CT Oo:=dk 280 m1 X G
def QaZ:Wd.Df (K P) mg "read_item" CP Ol:=dk 287 m1 X G
def Gx:Wd.Df (K P) mg "rows_of_last" N4 Xp:=dk 294 m1 X G
def QaV:Wd.Df (K P) mg "notes_of_last" KO Ld:=dk 301 m1 X G
def QaT:Wd.Df (K P) mg "lacks_row" CL R7:=dk 308 m1 X G
def QaI:Wd.Df (K P) mg "add_text" KI Of:=dk 315 m1 X G
def QaG:Wd.Df (K P) mg "add_item" KH Od:=dk 322 m1 X G
def QaH:Wd.Df (K P) mg "add_row" N0 Oe:=dk 327 m1 X G
def Gw:Wd.Df (K P) mg "read" N3 Ui:=dk 334 m1 X G
def Qal:Wd.Df (K P) mg "_law_draws" Dw OM:=dk 341 m2 X G
def Qaf:Wd.Df (K P) mg "_law_alike" K2 Sx:=dk 348 m2 X G
def QaD:Wd.Df (K P) mg "_law_text" C8 Oa:=dk 355 m2 X G
def Qax:Wd.Df (K P) mg "_law_row" C5 OV:=dk 362 m2 X G
def QaE:Wd.Df (K P) mg "_law_title" C9 Ob:=dk 369 m2 X G
def Qaq:Wd.Df (K P) mg "_law_label" K7 OQ:=dk 374 m2 X G
def Qah:Wd.Df (K P) mg "_law_block" K3 OH:=dk 379 m2 X G
def Qam:Wd.Df (K P) mg "_law_item" K5 ON:=dk 384 m2 X G
def Qak:Wd.Df (K P) mg "_law_closed" Dv OK:=dk 391 m2 X G
def Qaj:Wd.Df (K P) mg "_law_book" K4 OJ:=dk 396 m2 X G
def QaC:Wd.Df (K P) mg "_law_tag" C7 Sy:=dk 403 m2 X G
def Qao:Wd.Df (K P) mg "_law_item_rows" K6 Tc:=dk 408 m2 X G
def Qaz:Wd.Df (K P) mg "_law_rows" KD OX:=dk 413 m2 X G
def Qap:Wd.Df (K P) mg "_law_kind" Dy OP:=dk 420 m2 X G
def Qar:Wd.Df (K P) mg "_law_label_in" K8 Td:=dk 425 m2 X G
def Qat:Wd.Df (K P) mg "_law_number_in" KA Te:=dk 430 m2 X G
def QaF:Wd.Df (K P) mg "_law_title_in" CA Oc:=dk 437 m2 X G
def Qai:Wd.Df (K P) mg "_law_block_in" Dt OI:=dk 444 m2 X G
def Qan:Wd.Df (K P) mg "_law_item_in" Dx OO:=dk 451 m2 X G
def Qas:Wd.Df (K P) mg "_law_more_in" K9 OR:=dk 458 m2 X G
def Qay:Wd.Df (K P) mg "_law_row_in" KC OW:=dk 465 m2 X G
def Qav:Wd.Df (K P) mg "_law_read" C3 OT:=dk 472 m2 X G
def Qag:Wd.Df (K P) mg "_law_beyond" Ds OG:=dk 479 m2 X G
def Qau:Wd.Df (K P) mg "_law_odd" C0 OS:=dk 486 m2 X G
def QaA:Wd.Df (K P) mg "_law_signed" C6 OY:=dk 493 m2 X G
def QaB:Wd.Df (K P) mg "_law_spoiled" KG OZ:=dk 498 m2 X G
def Qaw:Wd.Df (K P) mg "_law_refused" C4 OU:=dk 505 m2 X G
def QaU(hm:mg "law"=some (.ref fa)):∃fd,(∀(s:Shared)(u:Value),BindsTo s fd ⟨[u],[]⟩ [("_law_script",u)])/\L2.Fun (K P) "law" "law" RX fa fd:=by
 have e:fx P "law" 510=fw "law" RX 510 m2:=by kernel_rfl
 obtain⟨a,l,c,k⟩:_/\_/\_/\_:=by simpa only[Prod.mk.injEq]using e
 exact Wd.law_mk X G hm (λ_ _ _ _ _ _ u=>rfl) a l c k
def Qhl:∃C CB f fd,Wd.XDf (K P) mg "NoRow" "NoRow.__init__" 6 RW C CB f fd:=Wd.XDf.of (C:=151) (CB:=24) (f:=148) (oc:=.type "function") (od:=none) (kV:=.none) (dc:=.none) (pm:=.str "leastbook.errors" 187) (an:=none) (cd:=.ref 147) (ct:=.none) (osl:=#[]) X G (λus hl=>by obtain⟨_,_,rfl⟩:=Wd.two hl;rfl) (by kernel_rfl) (by kernel_rfl)<|by kernel_rfl
def txt:Txt (K P) mg:=⟨W1 X G,W1 X G,W1 X G,W1 X G,W1 X G,W1 X G,W1 X G,W1 X G,W1 X G,W1 X G,W1 X G,W1 X G,W1 X G,W1 X G,mg_of X G<|by kernel_rfl,mg_of X G<|by kernel_rfl,mg_of X G<|by kernel_rfl,mg_of X G<|by kernel_rfl,mg_of X G<|by kernel_rfl,mg_of X G<|by kernel_rfl,mg_of X G<|by kernel_rfl,Wd.xt_of (CB:=24) (mg_of X G<|by kernel_rfl)<|by kernel_rfl,Wd.xr_of<|by kernel_rfl,trivial⟩
end
end Hd
open PySem PySem.W PyProof.Rows
open Hd My
set_option maxRecDepth 100000 in set_option maxHeartbeats 0 in 
theorem PySem.Challenge.cw_leastbook_k28_rows_looked_at_holds : PySem.Challenge.rw_leastbook_k28_rows_looked_at.Holds := by
  w_on;o_law;refine holds_open (q:=vw) (loose:=ls) (Xt:=Hd.Xt) (XP:=XL vw []) (YP:=InK K) hl (InK.of A6) InK.keeps (λs e=>xl_of s (Bool.and_eq_true_iff.mp e).1) XL.keeps rfl rfl rfl (λs e=>recFacts_of (Bool.and_eq_true_iff.mp e).2) rfl ‹_› (by decide+kernel) ⟨rfl,rfl,rfl,rfl,rfl,by decide+kernel⟩ ?hw ?hc;case hw=>w_witness2
  refine My.walk (l:=PySem.Challenge.rw_leastbook_k28_rows_looked_at) rfl rfl (λw h Y=>Y) ?F;intro w mg fa h X G gE;have T:=txt X G;obtain⟨fd,hb,F⟩:=QaU X G gE;refine⟨fd,hb,λb kb nb=>?_⟩;have cf:=Qea (P:=p) (w:=w) (ae:=b)<|Qhl X G;have aS:=Qep (P:=p) (w:=w) (ae:=b) (QaS X G) T;have bw:=Qen (P:=p) (w:=w) (ae:=b) (Gv X G) T;have bc:=Qeo (P:=p) (w:=w) (ae:=b) (Gv X G) T;have bf:=Qem (P:=p) (w:=w) (ae:=b) (QaR X G) T;have bg:=Qef (P:=p) (w:=w) (ae:=b) (QaK X G) T aS;have aW:=Qee (P:=p) (w:=w) (ae:=b) (QaJ X G) T bg bf bw;have bQ:=QeF (P:=p) (w:=w) (ae:=b) (Qa4 X G) T aW;have bR:=Qej (P:=p) (w:=w) (ae:=b) (QaO X G) T;have aw:=Qeh (P:=p) (w:=w) (ae:=b) (QaM X G) T;have ag:=Qeg (P:=p) (w:=w) (ae:=b) (QaL X G) T aw;have bp:=Qel (P:=p) (w:=w) (ae:=b) (QaQ X G) T;have aE:=Qek (P:=p) (w:=w) (ae:=b) (QaP X G) T;have aA:=Qei (P:=p) (w:=w) (ae:=b) (QaN X G) T;have aj:=Qez (P:=p) (w:=w) (ae:=b) (Qa0 X G) T;have aN:=Qew (P:=p) (w:=w) (ae:=b) (QaX X G) T ag aE aj;have aM:=Qex (P:=p) (w:=w) (ae:=b) (QaY X G) T ag aA aE aj;have aU:=QeC (P:=p) (w:=w) (ae:=b) (Qa3 X G) T ag aj;have aP:=QeA (P:=p) (w:=w) (ae:=b) (Qa1 X G) T ag aA aj;have aV:=Qev (P:=p) (w:=w) (ae:=b) (QaW X G) T aN aM aP aU;have bu:=QeB (P:=p) (w:=w) (ae:=b) (Qa2 X G) T aw;have a9:=Qey (P:=p) (w:=w) (ae:=b) (QaZ X G) T aw bp bu;have aL:=QeD (P:=p) (w:=w) (ae:=b) (Gx X G) T;have aG:=QeE (P:=p) (w:=w) (ae:=b) (Gx X G) T;have aH:=Qes (P:=p) (w:=w) (ae:=b) (QaV X G) T bc;have au:=Qeq (P:=p) (w:=w) (ae:=b) (QaT X G) T aL;have aT:=Qed (P:=p) (w:=w) (ae:=b) (QaI X G) T;have bz:=Qeb (P:=p) (w:=w) (ae:=b) (QaG X G) T;have aJ:=Qec (P:=p) (w:=w) (ae:=b) (QaH X G) T bz aT bR au aH aV a9 aG;have df:=Qet (P:=p) (w:=w) (ae:=b) (Gw X G) T cf aJ au;have cG:=Qeu (P:=p) (w:=w) (ae:=b) (Gw X G) T aJ au;have aK:=QdP (P:=p) (w:=w) (ae:=b) (Qal X G) T;have bK:=QdJ (P:=p) (w:=w) (ae:=b) (Qaf X G) T;have av:=Qd7 (P:=p) (w:=w) (ae:=b) (QaD X G) T;have bN:=Qd1 (P:=p) (w:=w) (ae:=b) (Qax X G) T av;have bJ:=Qd8 (P:=p) (w:=w) (ae:=b) (QaE X G) T av;have cw:=QdU (P:=p) (w:=w) (ae:=b) (Qaq X G) T;have cx:=QdL (P:=p) (w:=w) (ae:=b) (Qah X G) T bN bJ;have cK:=QdQ (P:=p) (w:=w) (ae:=b) (Qam X G) T bN av;have bW:=QdO (P:=p) (w:=w) (ae:=b) (Qak X G) T av;have cL:=QdN (P:=p) (w:=w) (ae:=b) (Qaj X G) T cx bW aK cK cw;have bM:=Qd6 (P:=p) (w:=w) (ae:=b) (QaC X G) T;have aX:=QdS (P:=p) (w:=w) (ae:=b) (Qao X G) T;have cH:=Qd3 (P:=p) (w:=w) (ae:=b) (Qaz X G) T aX bM;have cJ:=QdT (P:=p) (w:=w) (ae:=b) (Qap X G) T;have aq:=QdV (P:=p) (w:=w) (ae:=b) (Qar X G) T;have aI:=QdX (P:=p) (w:=w) (ae:=b) (Qat X G) T;have aO:=Qd9 (P:=p) (w:=w) (ae:=b) (QaF X G) T;have bj:=QdM (P:=p) (w:=w) (ae:=b) (Qai X G) T aq aI aO;have bD:=QdR (P:=p) (w:=w) (ae:=b) (Qan X G) T aq;have bC:=QdW (P:=p) (w:=w) (ae:=b) (Qas X G) T;have bV:=Qd2 (P:=p) (w:=w) (ae:=b) (Qay X G) T bj bD bC;have cI:=QdZ (P:=p) (w:=w) (ae:=b) (Qav X G) T bV;have bX:=QdK (P:=p) (w:=w) (ae:=b) (Qag X G) T;have bt:=QdY (P:=p) (w:=w) (ae:=b) (Qau X G) T;have bU:=Qd4 (P:=p) (w:=w) (ae:=b) (QaA X G) T;have bA:=Qd5 (P:=p) (w:=w) (ae:=b) (QaB X G) T bt bU;have bB:=Qd0 (P:=p) (w:=w) (ae:=b) (Qaw X G) T cJ df;exact Qer F T bK bX cL aK bt cI bB cH bA cG bQ
#print axioms PySem.Challenge.cw_leastbook_k28_rows_looked_at_holds
